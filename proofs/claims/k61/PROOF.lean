import PyProof.Rows.All
import Wide.All
import OpenK.AllK
import Wide.FinOn
import Lean
import PyProof.EqAt
import PyProof.EqKinds
import PyProof.TupleCall
import PySem.Challenge.RW_readgrove_k61_without_single_rules
open PySem renaming wpAny_bind→Aa,Value→Ae,wpAny_pure→Af,Shared→Ah,sizeLine→Ai,Program→Ay,wpAny→Bf,starEach→Bl,FuncData→Bo,World→Bq,model→Bu,compareOp→Cf,wpAny_newObj_type→Cm,Around→Cr,bootBuiltins→Ct,wpAny_holding→Cy,wpAny_call_entry→Dc,binaryOp→Dl,DictEntry→Dw,mainGlobals→Ea,sysModules→Eg,cLine→Es,tupleKind_room_in1→Et,wpAny_callSpecial?_slot→Ew,attributeBase→Ez,wpAny_dictEntries→Fc,foldedSetIterable→Fd,wpAny_notOrdered_dict→Fi,wpAny_isInstance→Fl,Paired→Fm,wpAny_truthy_bool→Fp,tupleKind→Fq,backTo→Fs,wpAny_tupleItemsOf→Ga,wpAny_Call_Name_kw→Gb,assignEach→Gd,wpAny_specialOf→Gj,mem_of_lookup→Gk,pyNext→Gp,wpAny_typeNameOfWhole_valiter→Gv,wpAny_typeNameOfWhole_keyiter→Gw,wpAny_rule→Gz,wpAny_mono→Ha,call_meetsIn→Hb,wpAny_passesOwn→He,swapsWith→Hg,behindInMarks→Hh,isSubtype_tuple_tuple→Hm,builtinLookup_eq_fast→Hn,wpAny_pyIter_list→Hq,holding→Hr,wpAny_of_eq→Hv,wpAny_field→Hw,NameKind→Hx,wpAny_forIn_list→Ic,Builtin→Ih,rawInt→Ii,wpAny_typeNameOf_valiter→Ir,wpAny_typeNameOf_keyiter→Iu,wpAny_attempt→Iv,Scope→Iw,wpAny_dictEpoch→Iz,codeAny_builtin→Ja,call_meets→Jf,sizeLine_eq→Ji,keywordEach→Jj,firstArgMember→Jl,atKey→Jr,wpAny_eqBool_int→Ju,sliceBounds→Jy,typeLookup_type→Kh,size_of_entries→Ki,wpAny_typeOf→Kr,wpAny_richCompare_same_room→Ks,codeAny→Kt,PyData→Lb,Expr→Lf,storedH→Ll,strLen_append→Lq,plainId_quiet→Lr,assign→Lu,backToKw→Ly,codeAny_mono→Me,PlainAttrs→Mg,wpAny_execs_nil→Mj,letOwnedTupleGo→Ml,wpAny_isOneOf_valiter→Mo,wpAny_setField→Mu,wpAny_seqItems→Mv,wpAny_fieldsOf→Mw,isSubtype_type→Mx,standAt→My,getMethod→Mz,Keyword→Na,wpAny_standAt→Nb
open List renaming length_map→Ab,getElem?_eq_some_iff→Ak,length_append→Am,mem_cons_of_mem→An,mem_map→Ao,map_cons→Au,mem_of_getElem?→Av,getElem?_map→Aw,mem_singleton→Ax,size_toArray→Az,mem_cons_self→Ba,mem_cons→Be,length→Bg,mem_append→Bh,map_append→Bi,length_cons→Bk,length_singleton→Bn,getElem?_eq_getElem→Bp,replicate→Br,map_map→Bx,lookup→Bz,mem_append_right→Ck,mem_append_left→Co,take_length→Cq,find?_cons→Cs,range→Cv,length_take→Cw,length_pos_iff→Dg,nodup_cons→Dh,foldl_cons→Dj,mem_flatMap→Ds,replicate_succ→Dx,take_add_one→Dy,nodup_append→Dz,getElem?_cons_succ→Eb,foldl_append→Ei,any_cons→Em,lookup_cons→Ep,all_eq_true→Er,eq_nil_or_concat→Fe,concat_eq_append→Ff,filter_cons→Fg,filterMap_cons→Fo,length_drop→Ft,nodup_nil→Fw,mem_filter→Ge,append_nil→Gf,map→Gh,flatten_cons→Gi,map_eq_nil_iff→Gm,take_of_length_le→Gn,append_assoc→Hc,getElem?_of_mem→Hj,all_cons→Ib,nil_append→Ie,length_eq_zero_iff→Im,map_nil→Jd,length_range→Je,sum_cons→Jn,mem_of_mem_take→Jp,length_nil→Js,map_congr_left→Jv,length_reverse→Jw,mem_range→Ke,getElem?_append_right→Kf,getLastD_eq_getLast?→Kn,getElem?_eq_none_iff→Ko,drop_eq_getElem_cons→Kq,flatMap_cons→Kw,mem_nil_iff→Lc,getElem_cons_drop→Lm,all_map→Lo,take_append_drop→Lx
open PySem.W renaming Frag→Ac,findIn→Cd,kia_one→Ej,fnOf→Ek,emptyDict→Eu,keepIn→Fh,instObj→Fy,mg_of→Ht,kitOne→Ij,codeIn→Ik,plainGet→Ku,isFn→Kz,lookIn→Lv,plainGet_of→Lz
open PySem.Heap renaming get?_push_of_some→Ag,get?_push_size→Ar,lt_size→Bc,SameBut→Eo,get?_update_self→Gy,size_push→Mb,ExtBut→Mc
open Nat renaming le_refl→Aj,ne_of_lt→Bj,le_trans→Bs,lt_of_lt_of_le→Cb,zero_le→De,le_of_eq→Fj,ne_of_gt→Gq,lt_irrefl→Gx,lt_trans→Hu,toDigits→Jg,le_of_lt→Jz,lt_of_succ_lt→Kx,lt_succ_self→Lh,succ_mul→Lw,add_le_add_left→Mp,add_assoc→Ms
open Bool renaming false_ne_true→Ap,and_eq_true→Ce,false_eq_true→Cz,eq_iff_iff→Ef,not_true→Gu,not_false→Kg,not_not→Lp,false_and→Md
open Option renaming map_eq_some_iff→Bb,isSome_iff_exists→Gg,isSome_map→Gs,map_some→Lg
open PySem.PassesOwn renaming never→Bv
open PySem.Str renaming ofString→Bw,length→Kj
open Ne renaming symm→Ca
open PySem.Txt renaming partition→Cg,mul→Hd
open Prod renaming fst→Ci,snd→Ia,ext→Kd
open PySem.F renaming plainAttrs_list→Cj,slot_list_append→Dd,type_list_append→Dn,slot_dict_valueiterator_next→Eh,slot_dict_keyiterator_next→En,plainAttrs_dict→Hk,slot_tuple_hash→Hy,entry_dict_get→Il,slot_tuple_eq→Jb,slot_dict_get→Jc,slot_dict_setdefault→Jm,slot_list_pop→Ka,args_tuple_add_2→Kk,entry_tuple_add→Kv,slot_tuple_add→La,slot_list_getattribute→Lj,slot_str_partition→Mq
open Option.some renaming inj→Cp,injEq→Fu
open PySem.Paired renaming length→Cu
open Prod.mk renaming injEq→Dk
open PySem.Builtin.Tuple renaming tupleHashOf→Dq,tupleExact→Ex
open Int renaming toNat_natCast→Du,emod_lt_of_pos→Ee,emod_nonneg→Fb,toNat→Iq,le_refl→Ky,eq_ofNat_of_zero_le→Li
open List.cons renaming injEq→Dv
open Iff renaming rfl→Ec
open PySem.Heap.SameBut renaming update→Ed
open PyProof.Rows renaming callWith_type1→El,slot_tuple_getitem→Hz,envOfC→Ls,AllBare→Mi
open PySem.Builtin.Dict_items renaming ownsTuple→Ey
open Array renaming length_toList→Fn,getElem?_toList→Fx,toArray_toList→Hf,getElem?_eq_some_iff→Kb,getElem?_eq_getElem→Km,getElem?_eq_none→Lk,toList_append→Mh
open False renaming elim→Fv
open PySem.Around renaming under_plainId→Fz
open PySem.Builtin.Slice renaming slicePlaces→Gr,sliceAdjust→Jo
open PySem.PyData renaming depth→Hi,eqv→Jx,eqvAll→Mf
open PySem.Builtin.Range renaming rangeSize→Hl
open PySem.Builtin.Dict renaming updateFrom→Ho,showsAll→Ig,keyAndDefault→Jk
open PySem.Builtin.Str renaming occurrences→Hs
open PySem.Calls renaming callWith_builtin→Iy
open Function renaming comp→Jh
open PySem.Obj renaming data_mapDictKeys→Jq,data_mapFields→Kl,mapFields→Mr
open PySem.Builtin.List renaming listTooLong→Jt
open PySem.Walks renaming list→Ld
open Sum.inl renaming injEq→Ma
set_option Elab.async false
set_option compiler.extract_closed false
set_option bootstrap.genMatcherCode false
set_option linter.all false
set_option maxRecDepth 100000
namespace L2
open PySem PySem.Spec PyProof.Rows
def iV(s:Stmt)(j:Nat):Stmt:=match s with
 | .ClassDef _ _ _ body _ _ _ _ _ _ _=>body.getD j (.Pass ⟨0,0,0,0⟩)
 | _=>.Pass ⟨0,0,0,0⟩
def jC(s:Stmt):Arguments:=match s with
 | .FunctionDef _ a _ _ _ _ _ _ _ _=>a
 | _=>{posonlyargs:=[],args:=[],vararg:=none,kwonlyargs:=[],kw_defaults:=[],kwarg:=none,defaults:=[]}
def gY(s:Stmt):List Stmt:=match s with
 | .FunctionDef _ _ b _ _ _ _ _ _ _=>b
 | _=>[]
def eS(s:Stmt):Iw:=match s with
 | .FunctionDef _ _ _ _ _ _ sc _ _ _=>sc
 | _=>{kind:=.function,names:=[],isGenerator:=false,isCoroutine:=false}
end L2
namespace Rg
open PySem PySem.Spec PyProof.Rows L2
noncomputable def top(i:Nat):Stmt:=PySem.Challenge.pw_readgrove_k61_without_single_rules.main.body.getD i (.Pass ⟨0,0,0,0⟩)
noncomputable abbrev CL:Stmt:=top 6
noncomputable abbrev CM:Stmt:=top 7
noncomputable abbrev CN:Stmt:=top 8
noncomputable abbrev CO:Stmt:=top 9
noncomputable abbrev CP:Stmt:=top 10
noncomputable abbrev CQ:Stmt:=top 11
noncomputable abbrev CS:Stmt:=top 12
noncomputable abbrev CU:Stmt:=top 14
noncomputable abbrev CV:Stmt:=iV (top 16) 0
noncomputable abbrev CW:Stmt:=iV (top 16) 1
noncomputable abbrev CY:Stmt:=iV (top 16) 2
noncomputable abbrev CZ:Stmt:=iV (top 16) 3
noncomputable abbrev C0:Stmt:=iV (top 16) 4
noncomputable abbrev C1:Stmt:=top 18
noncomputable abbrev C2:Stmt:=iV (top 19) 0
noncomputable abbrev C3:Stmt:=iV (top 19) 1
noncomputable abbrev C4:Stmt:=iV (top 19) 2
noncomputable abbrev C5:Stmt:=iV (top 19) 3
noncomputable abbrev C6:Stmt:=iV (top 19) 4
noncomputable abbrev C7:Stmt:=top 20
noncomputable abbrev C8:Stmt:=top 22
noncomputable abbrev C9:Stmt:=top 24
noncomputable abbrev DA:Stmt:=top 25
noncomputable abbrev DB:Stmt:=top 27
noncomputable abbrev DC:Stmt:=iV (top 28) 0
noncomputable abbrev DD:Stmt:=iV (top 28) 1
noncomputable abbrev DE:Stmt:=iV (top 28) 3
noncomputable abbrev DF:Stmt:=top 29
noncomputable abbrev DG:Stmt:=top 30
noncomputable abbrev DH:Stmt:=top 31
noncomputable abbrev DJ:Stmt:=top 32
noncomputable abbrev DK:Stmt:=top 33
noncomputable abbrev DL:Stmt:=top 34
noncomputable abbrev DM:Stmt:=top 35
noncomputable abbrev DN:Stmt:=top 37
noncomputable abbrev DO:Stmt:=top 38
noncomputable abbrev DP:Stmt:=top 39
noncomputable abbrev DQ:Stmt:=top 40
noncomputable abbrev DR:Stmt:=top 41
noncomputable abbrev DS:Stmt:=top 42
noncomputable abbrev DT:Stmt:=top 43
noncomputable abbrev DU:Stmt:=top 44
noncomputable abbrev DV:Stmt:=top 45
noncomputable abbrev DW:Stmt:=top 46
noncomputable abbrev DX:Stmt:=top 47
noncomputable def en(P:Params)(x:String)(t:Tok)(v:Ae):Dw:=⟨PyData.keyHash P (Bw x),.str (Bw x) t,v⟩
abbrev sT(x:String)(t:Tok):Ae:=.str (Bw x) t
abbrev cO(x:String)(a:Tok)(q:String)(b c:Tok)(l n:Int)(r:Addr)(u v w y z:Ae)(k:Int)(d:Tok):Obj:=⟨.type "code",none,.fields #[sT x a,sT q b,sT "/claim/cut.py" c,.int l 0,.int n 0,.int 0 0,.int 0 0,.int 3 0,.ref r,.bool true,.int 181 0,u,v,w,y,z,.int k 0,.int l 0,sT "/claim/cut.py" d],#[]⟩
abbrev fO(x q:Str)(s:Stmt)(m c:Ae):Bo:=Ek x q (jC s) (gY s) (eS s) .none .none .none m none c .none
noncomputable abbrev DY:Bo:=fO "made_of" "made_of" CL (sT "readgrove.grammars" 223) (.ref 43)
noncomputable abbrev DZ:Bo:=fO "is_name" "is_name" CM (sT "readgrove.grammars" 223) (.ref 50)
noncomputable abbrev D0:Bo:=fO "names" "names" CN (sT "readgrove.grammars" 223) (.ref 57)
noncomputable abbrev D2:Bo:=fO "first_name" "first_name" CO (sT "readgrove.grammars" 223) (.ref 64)
noncomputable abbrev D4:Bo:=fO "rules_of" "rules_of" CP (sT "readgrove.grammars" 223) (.ref 69)
noncomputable abbrev D5:Bo:=fO "check_rule" "check_rule" CQ (sT "readgrove.grammars" 223) (.ref 76)
noncomputable abbrev D6:Bo:=fO "grammar_of" "grammar_of" CS (sT "readgrove.grammars" 223) (.ref 83)
noncomputable abbrev D7:Bo:=fO "marks" "marks" CU (sT "readgrove.covers" 284) (.ref 88)
noncomputable abbrev D8:Bo:=fO "__init__" "Queue.__init__" CV (sT "readgrove.queues" 292) (.ref 102)
noncomputable abbrev D9:Bo:=fO "is_done" "Queue.is_done" CW (sT "readgrove.queues" 292) (.ref 109)
noncomputable abbrev EA:Bo:=fO "put" "Queue.put" CY (sT "readgrove.queues" 292) (.ref 116)
noncomputable abbrev EB:Bo:=fO "place_of" "Queue.place_of" CZ (sT "readgrove.queues" 292) (.ref 123)
noncomputable abbrev EC:Bo:=fO "take" "Queue.take" C0 (sT "readgrove.queues" 292) (.ref 130)
noncomputable abbrev ED:Bo:=fO "added" "added" C1 (sT "readgrove.leasts" 360) (.ref 144)
noncomputable abbrev EE:Bo:=fO "__init__" "Search.__init__" C2 (sT "readgrove.leasts" 360) (.ref 158)
noncomputable abbrev EF:Bo:=fO "reach" "Search.reach" C3 (sT "readgrove.leasts" 360) (.ref 165)
noncomputable abbrev EG:Bo:=fO "take_next" "Search.take_next" C4 (sT "readgrove.leasts" 360) (.ref 172)
noncomputable abbrev EH:Bo:=fO "step_by_name" "Search.step_by_name" C5 (sT "readgrove.leasts" 360) (.ref 179)
noncomputable abbrev EI:Bo:=fO "settle" "Search.settle" C6 (sT "readgrove.leasts" 360) (.ref 186)
noncomputable abbrev EJ:Bo:=fO "least_trees" "least_trees" C7 (sT "readgrove.leasts" 360) (.ref 200)
noncomputable abbrev EK:Bo:=fO "no_weights" "no_weights" C8 (sT "readgrove.spans" 473) (.ref 205)
noncomputable abbrev EL:Bo:=fO "words_of" "words_of" C9 (sT "readgrove.nexts" 481) (.ref 212)
noncomputable abbrev EM:Bo:=fO "shortest_lengths" "shortest_lengths" DA (sT "readgrove.nexts" 481) (.ref 217)
noncomputable abbrev EN:Bo:=fO "slots" "slots" DB (sT "readgrove.plainer" 500) (.ref 224)
noncomputable abbrev EO:Bo:=fO "__init__" "Plainer.__init__" DC (sT "readgrove.plainer" 500) (.ref 238)
noncomputable abbrev ER:Bo:=fO "put_rule" "Plainer.put_rule" DD (sT "readgrove.plainer" 500) (.ref 245)
noncomputable abbrev ES:Bo:=fO "grammar_and_backs" "Plainer.grammar_and_backs" DE (sT "readgrove.plainer" 500) (.ref 257)
noncomputable abbrev ET:Bo:=fO "nothing_read" "nothing_read" DF (sT "readgrove.plainer" 500) (.ref 271)
noncomputable abbrev EU:Bo:=fO "check_no_empty" "check_no_empty" DG (sT "readgrove.plainer" 500) (.ref 276)
noncomputable abbrev EV:Bo:=fO "is_single" "is_single" DH (sT "readgrove.plainer" 500) (.ref 283)
noncomputable abbrev EW:Bo:=fO "single_chains" "single_chains" DJ (sT "readgrove.plainer" 500) (.ref 290)
noncomputable abbrev EX:Bo:=fO "chain_pieces" "chain_pieces" DK (sT "readgrove.plainer" 500) (.ref 297)
noncomputable abbrev EY:Bo:=fO "put_chained" "put_chained" DL (sT "readgrove.plainer" 500) (.ref 302)
noncomputable abbrev EZ:Bo:=fO "no_single" "no_single" DM (sT "readgrove.plainer" 500) (.ref 309)
noncomputable abbrev E1:Bo:=fO "_law_cell_at" "_law_cell_at" DN (sT "law_readgrove_k61_without_single_rules" 624) (.ref 316)
noncomputable abbrev E2:Bo:=fO "_law_stir" "_law_stir" DO (sT "law_readgrove_k61_without_single_rules" 624) (.ref 323)
noncomputable abbrev E4:Bo:=fO "_law_drawn" "_law_drawn" DP (sT "law_readgrove_k61_without_single_rules" 624) (.ref 330)
noncomputable abbrev E5:Bo:=fO "_law_unlike" "_law_unlike" DQ (sT "law_readgrove_k61_without_single_rules" 624) (.ref 337)
noncomputable abbrev E6:Bo:=fO "_law_rule" "_law_rule" DR (sT "law_readgrove_k61_without_single_rules" 624) (.ref 344)
noncomputable abbrev E7:Bo:=fO "_law_rules" "_law_rules" DS (sT "law_readgrove_k61_without_single_rules" 624) (.ref 349)
noncomputable abbrev E8:Bo:=fO "_law_is_name" "_law_is_name" DT (sT "law_readgrove_k61_without_single_rules" 624) (.ref 356)
noncomputable abbrev E9:Bo:=fO "_law_costless" "_law_costless" DU (sT "law_readgrove_k61_without_single_rules" 624) (.ref 361)
noncomputable abbrev FA:Bo:=fO "_law_new_names" "_law_new_names" DV (sT "law_readgrove_k61_without_single_rules" 624) (.ref 366)
noncomputable abbrev FC:Bo:=fO "_law_full" "_law_full" DW (sT "law_readgrove_k61_without_single_rules" 624) (.ref 371)
noncomputable abbrev sD:Bo:=fO "law" "law" DX (sT "law_readgrove_k61_without_single_rules" 624) (.ref 376)
noncomputable def hpK:Params->Ac:=fun P=>[(nat_lit 3,⟨(.type "dict"),none,.dict [en P "__name__" 165 (sT "law_readgrove_k61_without_single_rules" 624),en P "__doc__" 166 .none,en P "__package__" 167 .none,en P "__loader__" 168 (.builtin "__main__.__loader__#opaque"),en P "__spec__" 169 .none,en P "__annotations__" 170 (.ref 6),en P "__builtins__" 171 (.ref 4),en P "__file__" 173 (sT "/claim/cut.py" 172),en P "__cached__" 174 .none,en P "GroveError" 206 (.ref 24),en P "NoGrammar" 222 (.ref 37),en P "GREAT_LETTERS" 226 (sT "ABCDEFGHIJKLMNOPQRSTUVWXYZ" 225),en P "FIGURES" 228 (sT "0123456789" 227),en P "made_of" 234 (.ref 44),en P "is_name" 243 (.ref 51),en P "names" 252 (.ref 58),en P "first_name" 259 (.ref 65),en P "rules_of" 265 (.ref 70),en P "check_rule" 274 (.ref 77),en P "grammar_of" 283 (.ref 84),en P "marks" 291 (.ref 89),en P "Queue" 359 (.ref 134),en P "added" 369 (.ref 145),en P "Search" 459 (.ref 190),en P "least_trees" 472 (.ref 201),en P "no_weights" 480 (.ref 206),en P "words_of" 493 (.ref 213),en P "shortest_lengths" 499 (.ref 218),en P "slots" 508 (.ref 225),en P "Plainer" 559 (.ref 261),en P "nothing_read" 568 (.ref 272),en P "check_no_empty" 574 (.ref 277),en P "is_single" 582 (.ref 284),en P "single_chains" 596 (.ref 291),en P "chain_pieces" 607 (.ref 298),en P "put_chained" 613 (.ref 303),en P "no_single" 623 (.ref 310),en P "_law_cell_at" 633 (.ref 317),en P "_law_stir" 642 (.ref 324),en P "_law_drawn" 653 (.ref 331),en P "_law_unlike" 670 (.ref 338),en P "_law_rule" 683 (.ref 345),en P "_law_rules" 689 (.ref 350),en P "_law_is_name" 696 (.ref 357),en P "_law_costless" 702 (.ref 362),en P "_law_new_names" 708 (.ref 367),en P "_law_full" 714 (.ref 372),en P "law" 720 (.ref 377)].toArray 48,#[]⟩),
 (nat_lit 23,⟨(.type "dict"),none,.dict [en P "__module__" 196 (sT "readgrove.errors" 187),en P "__firstlineno__" 200 (.int 2 199),en P "__static_attributes__" 201 (.ref 22),en P "__weakref__" 203 (.ref 25),en P "__doc__" 204 .none].toArray 3,#[]⟩),
 (nat_lit 24,⟨(.type "type"),none,.cls ⟨(Bw "GroveError"),[(.type "ValueError")],[(.ref 24),(.type "ValueError"),(.type "Exception"),(.type "BaseException"),(.type "object")],23,(Bw "GroveError"),true,[],[(.ref 37)],false,none,false⟩,#[some (.ref 15),none,some (sT "GroveError" 189),some (sT "GroveError" 197),some (.builtin "ValueError.__new__"),some (.bool true)]⟩),
 (nat_lit 36,⟨(.type "dict"),none,.dict [en P "__module__" 214 (sT "readgrove.errors" 187),en P "__firstlineno__" 218 (.int 4 217),en P "__static_attributes__" 219 (.ref 35),en P "__doc__" 220 .none].toArray 2,#[]⟩),
 (nat_lit 37,⟨(.type "type"),none,.cls ⟨(Bw "NoGrammar"),[(.ref 24)],[(.ref 37),(.ref 24),(.type "ValueError"),(.type "Exception"),(.type "BaseException"),(.type "object")],36,(Bw "NoGrammar"),true,[],[],false,none,false⟩,#[some (.ref 28),none,some (sT "NoGrammar" 207),some (sT "NoGrammar" 215),some (.builtin "ValueError.__new__"),some (.bool true)]⟩),
 (nat_lit 43,cO "made_of" 229 "made_of" 230 231 9 2 40 (.ref 41) .none .none .none (.ref 42) 232 233),
 (nat_lit 44,⟨(.type "function"),none,.func DY,#[]⟩),
 (nat_lit 50,cO "is_name" 235 "is_name" 236 237 11 1 45 (.ref 46) .none (.ref 47) (.ref 48) (.ref 49) 241 242),
 (nat_lit 51,⟨(.type "function"),none,.func DZ,#[]⟩),
 (nat_lit 57,cO "names" 244 "names" 245 246 15 1 52 (.ref 53) .none (.ref 54) (.ref 55) (.ref 56) 250 251),
 (nat_lit 58,⟨(.type "function"),none,.func D0,#[]⟩),
 (nat_lit 64,cO "first_name" 253 "first_name" 254 255 20 1 59 (.ref 60) .none (.ref 61) (.ref 62) (.ref 63) 257 258),
 (nat_lit 65,⟨(.type "function"),none,.func D2,#[]⟩),
 (nat_lit 69,cO "rules_of" 260 "rules_of" 261 262 22 2 66 (.ref 67) .none .none .none (.ref 68) 263 264),
 (nat_lit 70,⟨(.type "function"),none,.func D4,#[]⟩),
 (nat_lit 76,cO "check_rule" 266 "check_rule" 267 268 24 2 71 (.ref 72) .none (.ref 73) (.ref 74) (.ref 75) 272 273),
 (nat_lit 77,⟨(.type "function"),none,.func D5,#[]⟩),
 (nat_lit 83,cO "grammar_of" 275 "grammar_of" 276 277 30 1 78 (.ref 79) .none (.ref 80) (.ref 81) (.ref 82) 281 282),
 (nat_lit 84,⟨(.type "function"),none,.func D6,#[]⟩),
 (nat_lit 88,cO "marks" 286 "marks" 287 288 38 1 85 (.ref 86) .none .none .none (.ref 87) 289 290),
 (nat_lit 89,⟨(.type "function"),none,.func D7,#[]⟩),
 (nat_lit 102,cO "__init__" 306 "Queue.__init__" 307 308 43 1 97 (.ref 98) .none (.ref 99) (.ref 100) (.ref 101) 310 311),
 (nat_lit 103,⟨(.type "function"),none,.func D8,#[]⟩),
 (nat_lit 109,cO "is_done" 313 "Queue.is_done" 314 315 47 1 104 (.ref 105) .none (.ref 106) (.ref 107) (.ref 108) 317 318),
 (nat_lit 110,⟨(.type "function"),none,.func D9,#[]⟩),
 (nat_lit 116,cO "put" 320 "Queue.put" 321 322 50 3 111 (.ref 112) .none (.ref 113) (.ref 114) (.ref 115) 326 327),
 (nat_lit 117,⟨(.type "function"),none,.func EA,#[]⟩),
 (nat_lit 123,cO "place_of" 329 "Queue.place_of" 330 331 56 2 118 (.ref 119) .none (.ref 120) (.ref 121) (.ref 122) 337 338),
 (nat_lit 124,⟨(.type "function"),none,.func EB,#[]⟩),
 (nat_lit 130,cO "take" 340 "Queue.take" 341 342 67 1 125 (.ref 126) .none (.ref 127) (.ref 128) (.ref 129) 347 348),
 (nat_lit 131,⟨(.type "function"),none,.func EC,#[]⟩),
 (nat_lit 133,⟨(.type "dict"),none,.dict [en P "__module__" 301 (sT "readgrove.queues" 292),en P "__firstlineno__" 305 (.int 41 304),en P "__init__" 312 (.ref 103),en P "is_done" 319 (.ref 110),en P "put" 328 (.ref 117),en P "place_of" 339 (.ref 124),en P "take" 349 (.ref 131),en P "__static_attributes__" 352 (.ref 132),en P "__dict__" 354 (.ref 135),en P "__weakref__" 356 (.ref 136),en P "__doc__" 357 .none].toArray 4,#[]⟩),
 (nat_lit 134,⟨(.type "type"),none,.cls ⟨(Bw "Queue"),[(.type "object")],[(.ref 134),(.type "object")],133,(Bw "Queue"),true,[],[],false,none,false⟩,#[none,none,some (sT "Queue" 294),some (sT "Queue" 302),some (.builtin "object.__new__"),some (.bool true)]⟩),
 (nat_lit 144,cO "added" 362 "added" 363 364 76 2 139 (.ref 140) .none (.ref 141) (.ref 142) (.ref 143) 367 368),
 (nat_lit 145,⟨(.type "function"),none,.func ED,#[]⟩),
 (nat_lit 158,cO "__init__" 382 "Search.__init__" 383 384 80 3 153 (.ref 154) .none (.ref 155) (.ref 156) (.ref 157) 388 389),
 (nat_lit 159,⟨(.type "function"),none,.func EE,#[]⟩),
 (nat_lit 165,cO "reach" 391 "Search.reach" 392 393 90 4 160 (.ref 161) .none (.ref 162) (.ref 163) (.ref 164) 399 400),
 (nat_lit 166,⟨(.type "function"),none,.func EF,#[]⟩),
 (nat_lit 172,cO "take_next" 402 "Search.take_next" 403 404 96 1 167 (.ref 168) .none (.ref 169) (.ref 170) (.ref 171) 413 414),
 (nat_lit 173,⟨(.type "function"),none,.func EG,#[]⟩),
 (nat_lit 179,cO "step_by_name" 416 "Search.step_by_name" 417 418 112 5 174 (.ref 175) .none (.ref 176) (.ref 177) (.ref 178) 426 427),
 (nat_lit 180,⟨(.type "function"),none,.func EH,#[]⟩),
 (nat_lit 186,cO "settle" 429 "Search.settle" 430 431 117 4 181 (.ref 182) .none (.ref 183) (.ref 184) (.ref 185) 441 442),
 (nat_lit 187,⟨(.type "function"),none,.func EI,#[]⟩),
 (nat_lit 189,⟨(.type "dict"),none,.dict [en P "__module__" 377 (sT "readgrove.leasts" 360),en P "__firstlineno__" 381 (.int 78 380),en P "__init__" 390 (.ref 159),en P "reach" 401 (.ref 166),en P "take_next" 415 (.ref 173),en P "step_by_name" 428 (.ref 180),en P "settle" 443 (.ref 187),en P "__static_attributes__" 452 (.ref 188),en P "__dict__" 454 (.ref 191),en P "__weakref__" 456 (.ref 192),en P "__doc__" 457 .none].toArray 4,#[]⟩),
 (nat_lit 190,⟨(.type "type"),none,.cls ⟨(Bw "Search"),[(.type "object")],[(.ref 190),(.type "object")],189,(Bw "Search"),true,[],[],false,none,false⟩,#[none,none,some (sT "Search" 370),some (sT "Search" 378),some (.builtin "object.__new__"),some (.bool true)]⟩),
 (nat_lit 200,cO "least_trees" 460 "least_trees" 461 462 126 4 195 (.ref 196) .none (.ref 197) (.ref 198) (.ref 199) 470 471),
 (nat_lit 201,⟨(.type "function"),none,.func EJ,#[]⟩),
 (nat_lit 205,cO "no_weights" 475 "no_weights" 476 477 135 1 202 (.ref 203) .none .none .none (.ref 204) 478 479),
 (nat_lit 206,⟨(.type "function"),none,.func EK,#[]⟩),
 (nat_lit 212,cO "words_of" 483 "words_of" 484 485 138 1 207 (.ref 208) .none (.ref 209) (.ref 210) (.ref 211) 491 492),
 (nat_lit 213,⟨(.type "function"),none,.func EL,#[]⟩),
 (nat_lit 217,cO "shortest_lengths" 494 "shortest_lengths" 495 496 146 1 214 (.ref 215) .none .none .none (.ref 216) 497 498),
 (nat_lit 218,⟨(.type "function"),none,.func EM,#[]⟩),
 (nat_lit 224,cO "slots" 502 "slots" 503 504 151 1 219 (.ref 220) .none (.ref 221) (.ref 222) (.ref 223) 506 507),
 (nat_lit 225,⟨(.type "function"),none,.func EN,#[]⟩),
 (nat_lit 238,cO "__init__" 521 "Plainer.__init__" 522 523 155 1 233 (.ref 234) .none (.ref 235) (.ref 236) (.ref 237) 525 526),
 (nat_lit 239,⟨(.type "function"),none,.func EO,#[]⟩),
 (nat_lit 245,cO "put_rule" 528 "Plainer.put_rule" 529 530 158 4 240 (.ref 241) .none (.ref 242) (.ref 243) (.ref 244) 535 536),
 (nat_lit 246,⟨(.type "function"),none,.func ER,#[]⟩),
 (nat_lit 257,cO "grammar_and_backs" 544 "Plainer.grammar_and_backs" 545 546 164 1 252 (.ref 253) .none (.ref 254) (.ref 255) (.ref 256) 548 549),
 (nat_lit 258,⟨(.type "function"),none,.func ES,#[]⟩),
 (nat_lit 260,⟨(.type "dict"),none,.dict [en P "__module__" 516 (sT "readgrove.plainer" 500),en P "__firstlineno__" 520 (.int 153 519),en P "__init__" 527 (.ref 239),en P "put_rule" 537 (.ref 246),en P "is_part" 543 (.ref 251),en P "grammar_and_backs" 550 (.ref 258),en P "__static_attributes__" 552 (.ref 259),en P "__dict__" 554 (.ref 262),en P "__weakref__" 556 (.ref 263),en P "__doc__" 557 .none].toArray 4,#[]⟩),
 (nat_lit 261,⟨(.type "type"),none,.cls ⟨(Bw "Plainer"),[(.type "object")],[(.ref 261),(.type "object")],260,(Bw "Plainer"),true,[],[],false,none,false⟩,#[none,none,some (sT "Plainer" 509),some (sT "Plainer" 517),some (.builtin "object.__new__"),some (.bool true)]⟩),
 (nat_lit 271,cO "nothing_read" 560 "nothing_read" 561 562 166 1 266 (.ref 267) .none (.ref 268) (.ref 269) (.ref 270) 566 567),
 (nat_lit 272,⟨(.type "function"),none,.func ET,#[]⟩),
 (nat_lit 276,cO "check_no_empty" 569 "check_no_empty" 570 571 171 1 273 (.ref 274) .none .none .none (.ref 275) 572 573),
 (nat_lit 277,⟨(.type "function"),none,.func EU,#[]⟩),
 (nat_lit 283,cO "is_single" 575 "is_single" 576 577 177 2 278 (.ref 279) .none (.ref 280) (.ref 281) (.ref 282) 580 581),
 (nat_lit 284,⟨(.type "function"),none,.func EV,#[]⟩),
 (nat_lit 290,cO "single_chains" 583 "single_chains" 584 585 179 3 285 (.ref 286) .none (.ref 287) (.ref 288) (.ref 289) 594 595),
 (nat_lit 291,⟨(.type "function"),none,.func EW,#[]⟩),
 (nat_lit 297,cO "chain_pieces" 597 "chain_pieces" 598 599 190 3 292 (.ref 293) .none (.ref 294) (.ref 295) (.ref 296) 605 606),
 (nat_lit 298,⟨(.type "function"),none,.func EX,#[]⟩),
 (nat_lit 302,cO "put_chained" 608 "put_chained" 609 610 195 4 299 (.ref 300) .none .none .none (.ref 301) 611 612),
 (nat_lit 303,⟨(.type "function"),none,.func EY,#[]⟩),
 (nat_lit 309,cO "no_single" 614 "no_single" 615 616 203 1 304 (.ref 305) .none (.ref 306) (.ref 307) (.ref 308) 621 622),
 (nat_lit 310,⟨(.type "function"),none,.func EZ,#[]⟩),
 (nat_lit 316,cO "_law_cell_at" 626 "_law_cell_at" 627 628 213 2 311 (.ref 312) .none (.ref 313) (.ref 314) (.ref 315) 631 632),
 (nat_lit 317,⟨(.type "function"),none,.func E1,#[]⟩),
 (nat_lit 323,cO "_law_stir" 634 "_law_stir" 635 636 217 2 318 (.ref 319) .none (.ref 320) (.ref 321) (.ref 322) 640 641),
 (nat_lit 324,⟨(.type "function"),none,.func E2,#[]⟩),
 (nat_lit 330,cO "_law_drawn" 643 "_law_drawn" 644 645 221 2 325 (.ref 326) .none (.ref 327) (.ref 328) (.ref 329) 651 652),
 (nat_lit 331,⟨(.type "function"),none,.func E4,#[]⟩),
 (nat_lit 337,cO "_law_unlike" 654 "_law_unlike" 655 656 231 3 332 (.ref 333) .none (.ref 334) (.ref 335) (.ref 336) 668 669),
 (nat_lit 338,⟨(.type "function"),none,.func E5,#[]⟩),
 (nat_lit 344,cO "_law_rule" 671 "_law_rule" 672 673 246 4 339 (.ref 340) .none (.ref 341) (.ref 342) (.ref 343) 681 682),
 (nat_lit 345,⟨(.type "function"),none,.func E6,#[]⟩),
 (nat_lit 349,cO "_law_rules" 684 "_law_rules" 685 686 255 3 346 (.ref 347) .none .none .none (.ref 348) 687 688),
 (nat_lit 350,⟨(.type "function"),none,.func E7,#[]⟩),
 (nat_lit 356,cO "_law_is_name" 690 "_law_is_name" 691 692 264 1 351 (.ref 352) .none (.ref 353) (.ref 354) (.ref 355) 694 695),
 (nat_lit 357,⟨(.type "function"),none,.func E8,#[]⟩),
 (nat_lit 361,cO "_law_costless" 697 "_law_costless" 698 699 266 1 358 (.ref 359) .none .none .none (.ref 360) 700 701),
 (nat_lit 362,⟨(.type "function"),none,.func E9,#[]⟩),
 (nat_lit 366,cO "_law_new_names" 703 "_law_new_names" 704 705 277 2 363 (.ref 364) .none .none .none (.ref 365) 706 707),
 (nat_lit 367,⟨(.type "function"),none,.func FA,#[]⟩),
 (nat_lit 371,cO "_law_full" 709 "_law_full" 710 711 286 1 368 (.ref 369) .none .none .none (.ref 370) 712 713),
 (nat_lit 372,⟨(.type "function"),none,.func FC,#[]⟩),
 (nat_lit 376,cO "law" 715 "law" 716 717 298 1 373 (.ref 374) .none .none .none (.ref 375) 718 719),
 (nat_lit 377,⟨(.type "function"),none,.func sD,#[]⟩)]
noncomputable def QB:List Addr:=[nat_lit 3,nat_lit 23,nat_lit 24,nat_lit 36,nat_lit 37,nat_lit 43,nat_lit 44,nat_lit 50,nat_lit 51,nat_lit 57,nat_lit 58,nat_lit 64,nat_lit 65,nat_lit 69,nat_lit 70,nat_lit 76,nat_lit 77,nat_lit 83,nat_lit 84,nat_lit 88,nat_lit 89,nat_lit 102,nat_lit 103,nat_lit 109,nat_lit 110,nat_lit 116,nat_lit 117,nat_lit 123,nat_lit 124,nat_lit 130,nat_lit 131,nat_lit 133,nat_lit 134,nat_lit 144,nat_lit 145,nat_lit 158,nat_lit 159,nat_lit 165,nat_lit 166,nat_lit 172,nat_lit 173,nat_lit 179,nat_lit 180,nat_lit 186,nat_lit 187,nat_lit 189,nat_lit 190,nat_lit 200,nat_lit 201,nat_lit 205,nat_lit 206,nat_lit 212,nat_lit 213,nat_lit 217,nat_lit 218,nat_lit 224,nat_lit 225,nat_lit 238,nat_lit 239,nat_lit 245,nat_lit 246,nat_lit 257,nat_lit 258,nat_lit 260,nat_lit 261,nat_lit 271,nat_lit 272,nat_lit 276,nat_lit 277,nat_lit 283,nat_lit 284,nat_lit 290,nat_lit 291,nat_lit 297,nat_lit 298,nat_lit 302,nat_lit 303,nat_lit 309,nat_lit 310,nat_lit 316,nat_lit 317,nat_lit 323,nat_lit 324,nat_lit 330,nat_lit 331,nat_lit 337,nat_lit 338,nat_lit 344,nat_lit 345,nat_lit 349,nat_lit 350,nat_lit 356,nat_lit 357,nat_lit 361,nat_lit 362,nat_lit 366,nat_lit 367,nat_lit 371,nat_lit 372,nat_lit 376,nat_lit 377]
noncomputable def qv:Ay:={PySem.Challenge.pw_readgrove_k61_without_single_rules with main:={PySem.Challenge.pw_readgrove_k61_without_single_rules.main with body:=[top 1,top 2,top 4,top 5,top 6,top 7,top 8,top 9,top 10,top 11,top 12,top 14,top 16,top 18,top 19,top 20,top 22,top 24,top 25,top 27,top 28,top 29,top 30,top 31,top 32,top 33,top 34,top 35,top 37,top 38,top 39,top 40,top 41,top 42,top 43,top 44,top 45,top 46,top 47]}}
noncomputable def hk:PySem.W.Hook:=PySem.W.kHook hpK QB (fun _=>by kernel_rfl)
theorem hlb{σ α β:Type}{o:Option σ}{f:σ->α}{g:σ->β}{a:α}{b:β}(h:o.map f=some a)(k:o.map g=some b):o.map (fun s=>(f s,g s))=some (a,b):=by
 cases o with
 | none=>cases h
 | some s=>cases h;cases k;rfl
set_option maxHeartbeats 0 in
open PySem.W in
theorem hlo(w:World):(openEnds treeTable PySem.Challenge.rw_readgrove_k61_without_single_rules.row.prog w 5120).map hk.obs=some (hk.val w):=by kernel_rfl
set_option maxHeartbeats 0 in
open PySem.W in
theorem hls(w:World):(openEnds treeTable PySem.Challenge.rw_readgrove_k61_without_single_rules.row.prog w 5120).map (fun s=>openSeen qv [] (importedModules PySem.Challenge.rw_readgrove_k61_without_single_rules.row.prog.main.body) (fun s=>xlAt qv [] s && recOk (RowW.records (OpenRow.toRowW PySem.Challenge.rw_readgrove_k61_without_single_rules.row)) s) true s)=some (openGood qv []):=by kernel_rfl
open PySem.W in
theorem QC:LeftO PySem.Challenge.rw_readgrove_k61_without_single_rules.row.prog qv [] (fun s=>xlAt qv [] s && recOk (RowW.records (OpenRow.toRowW PySem.Challenge.rw_readgrove_k61_without_single_rules.row)) s) hk.obs hk.val 5120:=fun w=>hlb (hls w) (hlo w)
end Rg
namespace L2
open PySem PySem.Spec PyProof.Rows
abbrev aD:=Sum Int Str
def nA:aD->Ae->Bool
 | .inl k,v=>Value.isInt k v
 | .inr x,v=>Value.isStrOf x v
def QD(w:Bq):aD->Int
 | .inl k=>hashInt k
 | .inr x=>hashStr w x
theorem kE:∀ {k:aD} {v:Ae},nA k v=true->(∃ i t,k=Sum.inl i/\v=Value.int i t)\/(∃ x t,k=Sum.inr x/\v=Value.str x t)
 | .inl i,v,h=>by
  obtain⟨t,e⟩:=Value.isInt_shape (k:=i) (v:=v) h
  exact .inl ⟨i,t,rfl,e⟩
 | .inr x,v,h=>by
  obtain⟨t,e⟩:=Value.isStrOf_shape (x:=x) (v:=v) h
  exact .inr ⟨x,t,rfl,e⟩
theorem QE(i:Int)(t:Tok):nA (.inl i) (.int i t)=true:=by simp[nA,Value.isInt]
theorem QF(x:Str)(t:Tok):nA (.inr x) (.str x t)=true:=by simp[nA,Value.isStrOf]
theorem QG(a b:Int):decide ((Sum.inl a:aD)=Sum.inl b)=(a == b):=by
 by_cases e:a=b
 ·subst e;simp
 ·have h:¬ (Sum.inl a:aD)=Sum.inl b:=fun q=>e (Sum.inl.inj q)
  rw[decide_eq_false h]
  exact(beq_eq_false_iff_ne.mpr e).symm
theorem QH(a b:Str):decide ((Sum.inr a:aD)=Sum.inr b)=decide (a=b):=by
 by_cases e:a=b
 ·subst e;simp
 ·have h:¬ (Sum.inr a:aD)=Sum.inr b:=fun q=>e (Sum.inr.inj q)
  rw[decide_eq_false h,decide_eq_false e]
theorem QI(a:Int)(b:Str):decide ((Sum.inl a:aD)=Sum.inr b)=false:=decide_eq_false (fun q=>nomatch q)
theorem QJ(a:Str)(b:Int):decide ((Sum.inr a:aD)=Sum.inl b)=false:=decide_eq_false (fun q=>nomatch q)
def bH(prog:Ay)(w:Bq):PySem.KeyKind prog w aD where
 is:=nA
 hash:=QD w
 inj:=fun v a b ha hb=>by
  rcases kE ha with⟨i,t,rfl,rfl⟩ | ⟨x,t,rfl,rfl⟩
  ·rcases kE hb with⟨j,u,rfl,e⟩ | ⟨y,u,rfl,e⟩
   ·injection e with e1 _;rw[e1]
   ·exact nomatch e
  ·rcases kE hb with⟨j,u,rfl,e⟩ | ⟨y,u,rfl,e⟩
   ·exact nomatch e
   ·injection e with e1 _;rw[e1]
 byValue:=fun k v h=>by
  rcases kE h with⟨i,t,rfl,rfl⟩ | ⟨x,t,rfl,rfl⟩ <;> rfl
 pyHash:=fun hv h=>by
  rcases kE hv with⟨i,t,rfl,rfl⟩ | ⟨x,t,rfl,rfl⟩
  ·exact wpAny_pyHash_int h
  ·exact wpAny_pyHash_str h
 eqBool:=fun hu hv h=>by
  rcases kE hu with⟨i,t,rfl,rfl⟩ | ⟨x,t,rfl,rfl⟩
  ·rcases kE hv with⟨j,u,rfl,rfl⟩ | ⟨y,u,rfl,rfl⟩
   ·rw[QG] at h;exact Ju h
   ·rw[QI] at h;exact SeqAt.EqAt.int_str i t y u _ _ _ _ h
  ·rcases kE hv with⟨j,u,rfl,rfl⟩ | ⟨y,u,rfl,rfl⟩
   ·rw[QJ] at h;exact SeqAt.EqAt.str_int x t j u _ _ _ _ h
   ·rw[QH] at h;exact wpAny_eqBool_str h
 «strs»:=fun k x t v h=>by
  rcases kE h with⟨i,u,rfl,e⟩ | ⟨y,u,rfl,e⟩
  ·exact nomatch e
  ·injection e with e1 _
   subst e1
   cases v <;> rfl
theorem QK(prog:Ay)(w:Bq)(i:Int)(t:Tok):(bH prog w).is (.inl i) (.int i t)=true:=QE i t
theorem QL(prog:Ay)(w:Bq)(x:Str)(t:Tok):(bH prog w).is (.inr x) (.str x t)=true:=QF x t
inductive V where
 | non | bl (b:Bool) | int (i:Int) | str (x:Str) | byt (b:Array UInt8) | flt (b:UInt64) | ref (a:Addr) | ty (n:String)
 deriving DecidableEq
def RelV:V->Ae->Prop
 | .non,u=>u=Value.none
 | .bl b,u=>u=Value.bool b
 | .int i,u=>∃ t,u=Value.int i t
 | .str x,u=>∃ t,u=Value.str x t
 | .byt b,u=>∃ t,u=Value.bytes b t
 | .flt b,u=>∃ t,u=Value.float b t
 | .ref a,u=>u=Value.ref a
 | .ty n,u=>u=Value.type n
abbrev aZ:List V->List Ae->Prop:=Fm RelV
theorem aZ.length{xs:List V}{us:List Ae}(r:aZ xs us):xs.length=us.length:=Cu r
theorem aZ.get:∀ {xs:List V} {us:List Ae} {i:Nat} {x:V},aZ xs us->xs[i]? = some x->∃ u,us[i]? = some u/\RelV x u
 | _,_,_,_,.nil,e=>by simp at e
 | _,_,0,_,.cons r _,e=>by simp at e;subst e;exact⟨_,rfl,r⟩
 | _,_,i + 1,x,.cons _ t,e=>by
  obtain⟨u,h1,h2⟩:=aZ.get (i:=i) (x:=x) t (by simpa using e)
  exact⟨u,by simpa using h1,h2⟩
theorem aZ.set{x:V}{u:Ae}(r:RelV x u):∀ {xs:List V} {us:List Ae} (i:Nat),aZ xs us->aZ (xs.set i x) (us.set i u)
 | _,_,_,.nil=>.nil
 | _,_,0,.cons _ t=>.cons r t
 | _,_,i + 1,.cons q t=>.cons q (aZ.set r i t)
theorem aZ.append:∀ {xs ys:List V} {us ws:List Ae},aZ xs us->aZ ys ws->aZ (xs ++ ys) (us ++ ws)
 | _,_,_,_,.nil,s=>s
 | _,_,_,_,.cons r t,s=>.cons r (aZ.append t s)
theorem aZ.take:∀ {xs:List V} {us:List Ae} (n:Nat),aZ xs us->aZ (xs.take n) (us.take n)
 | _,_,0,_=>.nil
 | _,_,_ + 1,.nil=>.nil
 | _,_,n + 1,.cons r t=>.cons r (aZ.take n t)
theorem aZ.drop:∀ {xs:List V} {us:List Ae} (n:Nat),aZ xs us->aZ (xs.drop n) (us.drop n)
 | _,_,0,r=>r
 | _,_,_ + 1,.nil=>.nil
 | _,_,n + 1,.cons _ t=>aZ.drop n t
def fN:Option V->Option Ae->Prop
 | some v,some u=>RelV v u
 | none,none=>True
 | _,_=>False
def KV{κ:Type}:List (κ×V)->List (κ×Ae)->Prop:=Fm fun(p:κ×V) (q:κ×Ae)=>p.1=q.1/\RelV p.2 q.2
def kV:aD->V
 | .inl i=>.int i
 | .inr x=>.str x
inductive HO where
 | lst (xs:List V)
 | tup (xs:List V)
 | dK (kvs:List (aD×V)) | dT (kvs:List (List aD×V))
 | set (S:Int->Bool) (n:Nat)
 | ins (C dx:Addr) (fs:List (Str×V))
 | own (x:Addr)
 | xd (fs:List (Str×V))
 | met (f x:Addr)
 | rng (lo hi:Int)
 | frz (o:Obj) (u:HO)
 | tbl (ps:Array Ae)
 | ext (φ:Heap->Prop)
abbrev Hp:=Addr->Option HO
def aR(H:Hp)(a:Addr)(o:HO):Hp:=fun b=>if b=a then some o else H b
theorem cM{H:Hp}{a:Addr}{o:HO}:aR H a o a=some o:=by unfold aR;rw[if_pos rfl]
theorem bE{H:Hp}{a b:Addr}{o:HO}(h:b≠a):aR H a o b=H b:=by unfold aR;rw[if_neg h]
theorem wA{H:Hp}{a b:Addr}{o u:HO}(h:H a=some o)(h':H b=some u)(d:o≠u):a≠b:=by
 intro e;subst e;rw[h] at h';exact d (Cp h')
theorem eT{H:Hp}{a b:Addr}{o:HO}(h:H a=some o)(h':H b=none):a≠b:=by
 intro e;subst e;rw[h] at h';cases h'
section
variable (P:Ay)(w:Bq)
def cA(H:Hp)(h:Heap)(a:Addr):HO->Prop
 | .lst xs=>xs.length<=Ai/\∃ (its:List Ae) (n:Nat),aZ xs its/\h.get? a=some {cls:=.type "list",data:=.seq its.toArray n}
 | .tup xs=>xs.length<=Ai/\∃ its:List Ae,aZ xs its/\IsTup h a its.toArray
 | .dK kvs=>kvs.length<=Ai/\(a == Eg)=false/\∃ vs,KV kvs vs/\h.DictOf (bH P w) a vs
 | .dT kvs=>kvs.length<=Ai/\(a == Eg)=false/\∃ xs:List (List aD×Addr×Ae),
   Fm (fun(p:List aD×V) (q:List aD×Addr×Ae)=>p.1=q.1/\H q.2.1=some (.tup (p.1.map kV))/\RelV p.2 q.2.2) kvs xs/\
   ∃ o es ep,h.get? a=some o/\o.ExactDict/\o.data=.dict es ep/\es.toList=xs.map (entryOfKey (Fq (bH P w)))/\(xs.map (·.1)).Nodup
 | .set S n=>h.SetOf (intKind P w) a S n
 | .ins C dx fs=>H dx=some (.own a)/\fs.length<=1000/\dx≠a/\h.get? a=some (Fy C dx)/\
   ∃ mA,h.Ns1 dx mA/\(∀ f,fN (fs.lookup f) (mA f))/\PySem.Within mA (fs.map (·.1))
 | .own _=>∃ o,h.get? a=some o
 | .xd fs=>∃ mA,h.Ns1 a mA/\∀ f,fN (fs.lookup f) (mA f)
 | .rng lo hi=>∃ t u v,h.get? a=some {cls:=.type "range",data:=.fields #[.int lo t,.int hi u,.int 1 v]}
 | .frz o u=>h.get? a=some o/\cA H h a u
 | .tbl ps=>h.get? a=some {cls:=.none,data:=.fields ps}
 | .met f x=>h.get? a=some (PySem.W.methodObj (.ref f) (.ref x))
 | .ext φ=>φ h/\(∃ o,h.get? a=some o)/\∀ h1 h2:Heap,φ h1->(∀ o,h1.get? a=some o->h2.get? a=some o)->φ h2
def cR(H:Hp)(h:Heap):Prop:=∀ a o,H a=some o->cA P w H h a o
end
section
variable {P:Ay}{w:Bq}{H H':Hp}{h h':Heap}{a:Addr}{o:HO}
theorem cA.lt(x:cA P w H h a o):a < h.objs.size:=by
 cases o with
 | lst xs=>obtain⟨_,_,_,_,e⟩:=x;exact Bc e
 | tup xs=>obtain⟨_,_,_,p⟩:=x;exact p.lt
 | dK kvs=>obtain⟨_,_,_,_,o,_,_,e,_⟩:=x;exact Bc e
 | dT kvs=>obtain⟨_,_,_,_,o,_,_,e,_⟩:=x;exact Bc e
 | set S n=>obtain⟨o,_,_,_,e,_⟩:=x;exact Bc e
 | ins C dx fs=>obtain⟨_,_,_,e,_⟩:=x;exact Bc e
 | own y=>obtain⟨_,e⟩:=x;exact Bc e
 | xd fs=>obtain⟨_,⟨_,_,_,e,_⟩,_⟩:=x;exact Bc e
 | rng lo hi=>obtain⟨_,_,_,e⟩:=x;exact Bc e
 | frz ob u=>obtain⟨e,_⟩:=x;exact Bc e
 | tbl ps=>exact Bc (show h.get? a=some _ from x)
 | met f y=>exact Bc (show h.get? a=some _ from x)
 | ext φ=>obtain⟨_,⟨_,e⟩,_⟩:=x;exact Bc e
theorem Paired.mapP{α β:Type}{F G:α->β->Prop}:∀ {l₁:List α} {l₂:List β},Fm F l₁ l₂->(∀ a b,F a b->G a b)->Fm G l₁ l₂
 | _,_,.nil,_=>.nil
 | _,_,.cons r t,f=>.cons (f _ _ r) (Paired.mapP t f)
theorem cA.stay(x:cA P w H h a o)(k:∀ b u,(b=a\/H b=some (.own a))->h.get? b=some u->h'.get? b=some u)
  (ho:∀ b,H b=some (.own a)->H' b=some (.own a)) (ht:∀ b xs,H b=some (.tup xs)->H' b=some (.tup xs)):cA P w H' h' a o:=by
 induction o with
 | lst xs=>obtain⟨z,its,n,r,e⟩:=x;exact⟨z,its,n,r,k _ _ (.inl rfl) e⟩
 | tup xs=>obtain⟨z,its,r,ob,e,c⟩:=x;exact⟨z,its,r,ob,k _ _ (.inl rfl) e,c⟩
 | dK kvs=>obtain⟨z,y,vs,r,ob,es,ep,e,c⟩:=x;exact⟨z,y,vs,r,ob,es,ep,k _ _ (.inl rfl) e,c⟩
 | dT kvs=>
  obtain⟨z,y,xs,r,ob,es,ep,e,c⟩:=x
  exact⟨z,y,xs,Paired.mapP r fun p q z=>⟨z.1,ht _ _ z.2.1,z.2.2⟩,ob,es,ep,k _ _ (.inl rfl) e,c⟩
 | set S n=>obtain⟨ob,es,ep,t,e,c⟩:=x;exact⟨ob,es,ep,t,k _ _ (.inl rfl) e,c⟩
 | ins C dx fs=>
  obtain⟨d,z,ne,e,mA,⟨od,es,ep,e2,c⟩,r⟩:=x
  exact⟨ho _ d,z,ne,k _ _ (.inl rfl) e,mA,⟨od,es,ep,k _ _ (.inr d) e2,c⟩,r⟩
 | own y=>obtain⟨ob,e⟩:=x;exact⟨ob,k _ _ (.inl rfl) e⟩
 | xd fs=>obtain⟨mA,⟨od,es,ep,e,c⟩,r⟩:=x;exact⟨mA,⟨od,es,ep,k _ _ (.inl rfl) e,c⟩,r⟩
 | rng lo hi=>obtain⟨t,u,v,e⟩:=x;exact⟨t,u,v,k _ _ (.inl rfl) e⟩
 | frz ob u ih=>obtain⟨e,q⟩:=x;exact⟨k _ _ (.inl rfl) e,ih q⟩
 | tbl ps=>
  have e:h.get? a=some {cls:=.none,data:=.fields ps}:=x
  show h'.get? a=some {cls:=.none,data:=.fields ps}
  exact k a _ (.inl rfl) e
 | met f y=>
  have e:h.get? a=some (PySem.W.methodObj (.ref f) (.ref y)):=x
  show h'.get? a=some (PySem.W.methodObj (.ref f) (.ref y))
  exact k a _ (.inl rfl) e
 | ext φ=>obtain⟨p,⟨o,e⟩,st⟩:=x;exact⟨st _ _ p fun o q=>k _ _ (.inl rfl) q,⟨o,k _ _ (.inl rfl) e⟩,st⟩
theorem cR.lt(x:cR P w H h)(e:H a=some o):a < h.objs.size:=(x a o e).lt
theorem cR.fresh(x:cR P w H h)(e:h.objs.size<=a):H a=none:=by
 cases q:H a with
 | none=>rfl
 | some u=>exact absurd (Cb (x.lt q) e) (Gx _)
theorem cR.kept(x:cR P w H h)(k:∀ b u,h.get? b=some u->h'.get? b=some u):cR P w H h':=fun a o e=>
 (x a o e).stay (fun b u _ q=>k b u q) (fun _ q=>q) fun _ _ q=>q
theorem cR.laid(x:cR P w H h)(k:∀ b u,h.get? b=some u->h'.get? b=some u)(hp:h.objs.size<=a)(new:cA P w (aR H a o) h' a o):cR P w (aR H a o) h':=fun b u e=>by
 have hn:=x.fresh hp
 by_cases hb:b=a
 ·subst hb;rw[cM] at e;cases e;exact new
 ·rw[bE hb] at e
  exact(x b u e).stay (fun c v _ q=>k c v q) (fun c q=>by rw[bE (eT q hn)];exact q) fun c xs q=>by rw[bE (eT q hn)];exact q
end
def Rd(H:Hp)(a:Addr)(u:HO):Prop:=H a=some u\/∃ o,H a=some (.frz o u)
theorem Rd.ok{P:Ay}{w:Bq}{H:Hp}{h:Heap}{a:Addr}{u:HO}(r:Rd H a u)(x:cR P w H h):cA P w H h a u:=by
 rcases r with r | ⟨o,r⟩
 ·exact x a u r
 ·obtain⟨_,q⟩:=x a _ r
  exact q
def pZ:Option HO->Prop
 | some (.lst _)=>True
 | some (.dK _)=>True
 | some (.dT _)=>True
 | some (.set _ _)=>True
 | some (.ins _ _ _)=>True
 | some (.ext _)=>True
 | _=>False
section
variable {P:Ay}{w:Bq}{H:Hp}{h h':Heap}{x e:Addr}{o':HO}
theorem cR.write(ok:cR P w H h)(mu:pZ (H x))(he:e=x\/H e=some (.own x))(k:∀ b u,b≠e->h.get? b=some u->h'.get? b=some u)(heo:∃ u,h'.get? e=some u)
  (new:cA P w (aR H x o') h' x o'):cR P w (aR H x o') h':=fun b u q=>by
 have nown:∀ c y,H c=some (.own y)->c≠x:=fun c y r z=>by subst z;rw[r] at mu;exact mu
 have ntup:∀ c xs,H c=some (.tup xs)->c≠x:=fun c xs r z=>by subst z;rw[r] at mu;exact mu
 by_cases hb:b=x
 ·subst hb;rw[cM] at q;cases q;exact new
 ·rw[bE hb] at q
  by_cases hbe:b=e
  ·have q':H b=some (.own x):=by
    rcases he with z | z
    ·exact absurd (hbe.trans z) hb
    ·rw[hbe];exact z
   rw[q] at q';cases q'
   obtain⟨v,hv⟩:=heo
   exact⟨v,by rw[hbe];exact hv⟩
  ·refine(ok b u q).stay (fun c v hc r=>k c v ?_ r) (fun c r=>by rw[bE (nown c b r)];exact r) fun c xs r=>by rw[bE (ntup c xs r)];exact r
   rcases hc with rfl | hc
   ·exact hbe
   ·rintro rfl
    rcases he with z | z
    ·exact nown c b hc z
    ·rw[hc] at z;cases z;exact hb rfl
end
structure Un(fs ex:List Addr)(H H':Hp)(h h':Heap):Prop where
 keep:∀ b o,h.get? b=some o->H b=none->b∉fs->b∉ex->h'.get? b=some o
 slot:∀ b o,h.get? b=some o->H b=none->b∈fs->b∉ex->∃ sl,h'.get? b=some {o with slots:=sl}
 free:∀ b o,h.get? b=some o->H b=none->b∉ex->H' b=none
 there:∀ b o,h.get? b=some o->b∉ex->∃ o',h'.get? b=some o'
 tups:∀ b xs,H b=some (.tup xs)->H' b=some (.tup xs)
 frzs:∀ b o u,H b=some (.frz o u)->H' b=some (.frz o u)
 tbls:∀ b ps,H b=some (.tbl ps)->∃ more,H' b=some (.tbl (ps ++ more))
section
variable {fs fs' ex ex':List Addr}{H H1 H2:Hp}{h h1 h2 h':Heap}{a x e:Addr}{o:HO}
theorem Un.any(u:Un fs ex H H1 h h1){b:Addr}{ob:Obj}(q:h.get? b=some ob)(n:H b=none)(hx:b∉ex):∃ sl,h1.get? b=some {ob with slots:=sl}:=by
 by_cases hb:b∈fs
 ·exact u.slot b ob q n hb hx
 ·exact⟨ob.slots,u.keep b ob q n hb hx⟩
theorem Un.kept(k:∀ b u,h.get? b=some u->h'.get? b=some u):Un fs ex H H h h':=
 ⟨fun b ob q _ _ _=>k b ob q,fun b ob q _ _ _=>⟨ob.slots,k b ob q⟩,fun _ _ _ n _=>n,fun b ob q _=>⟨ob,k b ob q⟩,fun _ _ q=>q,fun _ _ _ q=>q,fun _ ps q=>⟨#[],by rw[q];simp⟩⟩
theorem Un.refl:Un fs ex H H h h:=Un.kept fun _ _ q=>q
theorem Un.laid(k:∀ b u,h.get? b=some u->h'.get? b=some u)(hp:h.objs.size<=a)(hn:H a=none):Un fs ex H (aR H a o) h h' where
 keep:=fun b u q _ _ _=>k b u q
 slot:=fun b u q _ _ _=>⟨u.slots,k b u q⟩
 free:=fun b u q n _=>by rw[bE (Bj (Cb (Bc q) hp))];exact n
 there:=fun b u q _=>⟨u,k b u q⟩
 tups:=fun b xs q=>by rw[bE (eT q hn)];exact q
 frzs:=fun b u xs q=>by rw[bE (eT q hn)];exact q
 tbls:=fun b ps q=>⟨#[],by rw[bE (eT q hn),q];simp⟩
theorem Un.write(mu:pZ (H x))(he:e=x\/H e=some (.own x))(k:∀ b u,b≠e->h.get? b=some u->h'.get? b=some u)(heo:∃ u,h'.get? e=some u):Un fs ex H (aR H x o) h h':=by
 have hx:∀ b,H b=none->b≠x:=fun b n z=>by subst z;rw[n] at mu;exact mu
 have hb:∀ b,H b=none->b≠e:=fun b n z=>by
  subst z
  rcases he with r | r
  ·exact hx b n r
  ·rw[n] at r;cases r
 have hm:∀ b u,H b=some u->¬ pZ (some u)->b≠x:=fun b u q nm z=>by subst z;rw[q] at mu;exact nm mu
 refine⟨fun b u q n _ _=>k b u (hb b n) q,fun b u q n _ _=>⟨u.slots,k b u (hb b n) q⟩,fun b u q n _=>by rw[bE (hx b n)];exact n,fun b u q _=>?_,
  fun b xs q=>by rw[bE (hm b _ q fun z=>z)];exact q,fun b u xs q=>by rw[bE (hm b _ q fun z=>z)];exact q,fun b ps q=>⟨#[],by rw[bE (hm b _ q fun z=>z),q];simp⟩⟩
 by_cases hbe:b=e
 ·subst hbe;exact heo
 ·exact⟨u,k b u hbe q⟩
end
def sE(h:Heap)(H:Hp):List Addr:=(Cv h.objs.size).filter fun a=>(H a).isSome
def lE(h:Heap)(H:Hp):Heap:=PySem.W.hideAll h (sE h H)
theorem QM(h:Heap)(H:Hp):(lE h H).objs.size=h.objs.size:=PySem.W.hideAll_size _ _
theorem QN{h:Heap}{H:Hp}{b:Addr}{o:Obj}(e:h.get? b=some o)(n:H b=none):(lE h H).get? b=some o:=
 PySem.W.hideAll_get _ e fun a=>by
  have q:(H b).isSome=true:=(Ge.mp a).2
  rw[n] at q;simp at q
theorem QO{h:Heap}{H:Hp}{b:Addr}{o:Obj}(e:(lE h H).get? b=some o):h.get? b=some o/\H b=none:=by
 have a:h.get? b=some o:=PySem.W.of_hideAll (sE h H) e
 refine⟨a,?_⟩
 cases q:H b with
 | none=>rfl
 | some x=>
  have c:b∈sE h H:=Ge.mpr ⟨Ke.mpr (Bc a),by simp[q]⟩
  have z:(lE h H).get? b=none:=PySem.W.hideAll_none (sE h H) c
  rw[z] at e;cases e
structure Mod(K:Ac)(mg:Str->Option Ae)(base:Heap):Prop where
 kin:K.In base
 glob:base.Ns Ea mg
 blt:∃ mb,base.Ns builtinsNs mb/\∀ x:Str,x≠"__name__"->mb x=Ct x
 nolimit:base.NoLimit
structure Cx where
 prog:Ay
 w:Bq
 K:Ac
 mg:Str->Option Ae
 base:Heap
 A:Cr
 N:List Str
 s₀:Ah
 H₀:Hp
 env:Env
 outer:List Env
 stack:List Env
 ex:List Addr
 fn:Str->Bool
 calm:Bool
 pn:List (Addr×Obj)
 xe:Ae->Ah->Prop
def iD(l:List Env):List Addr:=l.filterMap (·.frame)
abbrev Cx.fs(X:Cx):List Addr:=iD X.outer
def wB(sc:Iw)(x:Str):Prop:=sc.names.lookup x=some .local\/sc.names.lookup x=some .cell\/sc.names.lookup x=some .free
def Loc(sc:Iw)(x:Str):Prop:=sc.names.lookup x=some .local\/sc.names.lookup x=some .cell
def Look(env:Env)(h:Heap)(m:Str->Option Ae)(x:Str)(u:Ae):Prop:=
 (env.kindOf x=some .local/\m x=some u)\/((env.kindOf x=some .cell\/env.kindOf x=some .free)/\∃ c,env.cells.lookup x=some c/\h.IsCell c (some u))
structure Cx.Ok(X:Cx):Prop where
 mod:Mod X.K X.mg X.base
 kind:X.env.scope.kind=.function
 glob:X.env.globals=Ea
 blt:X.env.builtins=builtinsNs
 above:X.s₀.heap.objs.size<=X.env.locals
 inj:∀ x y c,X.env.cells.lookup x=some c->X.env.cells.lookup y=some c->x=y
 has:∀ x,(X.env.kindOf x=some .cell\/X.env.kindOf x=some .free)->∃ c,X.env.cells.lookup x=some c
 cab:∀ x c,X.fn x=true->X.env.cells.lookup x=some c->X.s₀.heap.objs.size<=c
 hd:X.calm=true->X.A.handled=none
 frames:X.A.frames=some X.stack
 stk:X.stack=X.outer\/(X.stack=X.env :: X.outer/\X.env.frame=some X.env.locals)
 exf:∀ b∈X.ex,b≠X.env.locals/\∀ x c,X.env.cells.lookup x=some c->c≠b
 bs:∀ b o,X.base.get? b=some o->X.s₀.heap.get? b=some o/\X.H₀ b=none
 bsz:X.base.objs.size<=X.s₀.heap.objs.size
 noex:∀ b o,X.base.get? b=some o->b∉X.ex
 exfs:∀ b∈X.ex,b∉X.fs
 funs:X.s₀.heap.FunFrames X.base X.outer
 frf:∀ b∈X.fs,X.H₀ b=none
structure Inv(X:Cx)(pins:List (Addr×Obj))(σ:List (Option V))(H:Hp)(s:Ah):Prop where
 ok:X.Ok
 os:s.os=X.s₀.os
 bare:Mi s.gens
 base:Un X.fs X.ex X.H₀ H X.s₀.heap s.heap
 loc:∃ m,s.heap.Ns X.env.locals m/\∀ (i:Nat) (x:Str) (v:V),X.N[i]? = some x->σ[i]? = some (some v)->wB X.env.scope x->∃ u,RelV v u/\Look X.env s.heap m x u
 cell:∀ x c,X.env.cells.lookup x=some c->∃ v,s.heap.IsCell c v
 free:H X.env.locals=none
 freeC:∀ x c,X.env.cells.lookup x=some c->H c=none
 pin:∀ p∈X.pn ++ pins,s.heap.get? p.1=some p.2/\H p.1=none/\p.1≠X.env.locals/\p.1∉X.fs/\∀ v,p.2.data≠.cell v
 hok:cR X.prog X.w H s.heap
 len:σ.length=X.N.length
section
variable {X:Cx}{pins:List (Addr×Obj)}{σ:List (Option V)}{H H':Hp}{s:Ah}{h':Heap}
theorem Cx.Ok.nofr(ok:X.Ok){b:Addr}{o:Obj}(e:X.base.get? b=some o):b∉X.fs:=fun a=>by
 have:=(ok.funs.mem a).1
 rw[e] at this;cases this
theorem Inv.bs(I:Inv X pins σ H s):∀ b o,X.base.get? b=some o->s.heap.get? b=some o/\H b=none:=fun b o e=>
 ⟨I.base.keep b o (I.ok.bs b o e).1 (I.ok.bs b o e).2 (I.ok.nofr e) (I.ok.noex b o e),I.base.free b o (I.ok.bs b o e).1 (I.ok.bs b o e).2 (I.ok.noex b o e)⟩
theorem Inv.bk(I:Inv X pins σ H s):∀ b o,X.base.get? b=some o->s.heap.get? b=some o:=fun b o e=>(I.bs b o e).1
theorem Inv.mod(I:Inv X pins σ H s):Mod X.K X.mg X.base:=I.ok.mod
theorem Inv.kIn(I:Inv X pins σ H s):X.K.In s.heap:=I.ok.mod.kin.keeps I.bk
theorem Inv.lt(I:Inv X pins σ H s):X.env.locals < s.heap.objs.size:=let ⟨_,hn,_⟩:=I.loc;hn.lt
theorem Inv.sz(I:Inv X pins σ H s):X.s₀.heap.objs.size<=s.heap.objs.size:=Bs I.ok.above (Jz I.lt)
theorem Inv.nofs(I:Inv X pins σ H s){a:Addr}(h:s.heap.objs.size<=a):a∉X.fs:=fun b=>by
 obtain⟨_,o,c,_⟩:=I.ok.funs.mem b
 exact absurd (Cb (Bc c) (Bs I.sz h)) (Gx _)
theorem Inv.cne(I:Inv X pins σ H s):∀ x c,X.env.cells.lookup x=some c->c≠X.env.locals:=fun x c e z=>by
 obtain⟨v,o,d,hd⟩:=I.cell x c e
 obtain⟨m,⟨f,es,ep,b,a,_⟩,_⟩:=I.loc
 rw[z,b] at d;cases d;rw[a] at hd;cases hd
theorem Inv.funs(I:Inv X pins σ H s):s.heap.FunFrames X.base X.outer:=by
 have all:∀ (l:List Env),(∀ b∈iD l,b∈X.fs)->X.s₀.heap.FunFrames X.base l->s.heap.FunFrames X.base l:=by
  intro l
  induction l with
  | nil=>intro _ _;trivial
  | cons env r g=>
   intro d hl
   obtain⟨hk,⟨L,o,hf,f,h,hd⟩,hr⟩:=hl
   have c:L∈X.fs:=d L (by unfold iD;rw[Fo,hf];exact Ba)
   obtain⟨sl,e⟩:=I.base.slot L o h (I.ok.frf L c) c fun z=>I.ok.exfs L z c
   exact⟨hk,⟨L,_,hf,f,e,hd⟩,g (fun b a=>d b (by unfold iD;rw[Fo,hf];exact An _ a)) hr⟩
 exact all X.outer (fun _ a=>a) I.ok.funs
theorem Inv.stack(I:Inv X pins σ H s):s.heap.FunFrames X.base X.stack:=by
 rcases I.ok.stk with e | ⟨e,hf⟩
 ·rw[e];exact I.funs
 ·rw[e]
  obtain⟨m,a,_⟩:=I.loc
  refine .cons (by rw[I.ok.kind];decide) hf a ?_ I.funs
  exact Heap.get?_none_of_le (Bs I.ok.bsz I.ok.above)
theorem Inv.stkSub(I:Inv X pins σ H s):∀ b∈iD X.stack,b∈X.env.locals :: X.fs:=fun b a=>by
 rcases I.ok.stk with e | ⟨e,hf⟩
 ·rw[e] at a;exact An _ a
 ·rw[e] at a
  unfold iD at a
  rw[Fo,hf] at a
  exact a
theorem Inv.stkFree(I:Inv X pins σ H s):∀ b∈iD X.stack,H b=none:=fun b a=>by
 rcases Be.mp (I.stkSub b a) with e | a
 ·rw[e];exact I.free
 ·obtain⟨_,o,c,_⟩:=I.ok.funs.mem a
  exact I.base.free b o c (I.ok.frf b a) fun z=>I.ok.exfs b z a
theorem Inv.step{g':Array GenState}{t':Nat}{d':Drawn}{ch:List Addr}(I:Inv X pins σ H s)
  (h:∀ b∈ch,(b∈X.ex\/X.s₀.heap.objs.size<=b)/\b≠X.env.locals/\(∀ x c,X.env.cells.lookup x=some c->c≠b)/\∀ p∈X.pn ++ pins,p.1≠b)
  (keep:∀ b o,b≠X.env.locals->b∉X.fs->b∉ch->s.heap.get? b=some o->H b=none->h'.get? b=some o)
  (slot:∀ b o,b≠X.env.locals->b∈X.fs->b∉ch->s.heap.get? b=some o->H b=none->∃ sl,h'.get? b=some {o with slots:=sl}) (free:∀ b o,b∉ch->s.heap.get? b=some o->H b=none->H' b=none)
  (there:∀ b o,b∉ch->s.heap.get? b=some o->∃ D,h'.get? b=some D)
  (tups:∀ b xs,H b=some (.tup xs)->H' b=some (.tup xs)) (frzs:∀ b o u,H b=some (.frz o u)->H' b=some (.frz o u)) (tbls:∀ b ps,H b=some (.tbl ps)->∃ more,H' b=some (.tbl (ps ++ more)))
  (ns:∀ m,s.heap.Ns X.env.locals m->h'.Ns X.env.locals m) (hok:cR X.prog X.w H' h') (L:Mi g') :
  Inv X pins σ H' {s with heap:=h',gens:=g',drawn:=d',toks:=t'}:=by
 have B:∀ b o,X.s₀.heap.get? b=some o->b≠X.env.locals:=fun b o e=>Bj (Cb (Bc e) I.ok.above)
 have t:∀ b o,X.s₀.heap.get? b=some o->b∉X.ex->b∉ch:=fun b o e a y=>by
  rcases(h b y).1 with z | z
  ·exact a z
  ·exact absurd (Cb (Bc e) z) (Gx _)
 have g:∀ x c,X.env.cells.lookup x=some c->∀ v,s.heap.IsCell c v->h'.IsCell c v:=fun x c e v ⟨o,A,hd⟩=>by
  have f:c∉ch:=fun z=>(h c z).2.2.1 x c e rfl
  by_cases hc:c∈X.fs
  ·obtain⟨sl,q⟩:=slot c o (I.cne x c e) hc f A (I.freeC x c e)
   exact⟨_,q,hd⟩
  ·exact⟨o,keep c o (I.cne x c e) hc f A (I.freeC x c e),hd⟩
 refine⟨I.ok,I.os,L,⟨fun b o e n y a=>?_,fun b o e n y a=>?_,fun b o e n a=>?_,fun b o e a=>?_,fun b xs e=>tups b xs (I.base.tups b xs e),fun b o xs e=>frzs b o xs (I.base.frzs b o xs e),fun b ps e=>?_⟩,?_,fun x c e=>?_,?_,fun x c e=>?_,fun p G=>?_,hok,I.len⟩
 ·exact keep b o (B b o e) y (t b o e a) (I.base.keep b o e n y a) (I.base.free b o e n a)
 ·obtain⟨sl,j⟩:=I.base.slot b o e n y a
  obtain⟨E,C⟩:=slot b _ (B b o e) y (t b o e a) j (I.base.free b o e n a)
  exact⟨E,C⟩
 ·obtain⟨D,j⟩:=I.base.there b o e a
  exact free b D (t b o e a) j (I.base.free b o e n a)
 ·obtain⟨D,j⟩:=I.base.there b o e a
  exact there b D (t b o e a) j
 ·obtain⟨N,j⟩:=I.base.tbls b ps e
  obtain⟨K,C⟩:=tbls b _ j
  exact⟨N ++ K,by rw[C,Array.append_assoc]⟩
 ·obtain⟨m,J,hl⟩:=I.loc
  refine⟨m,ns m J,fun i x v j C M=>?_⟩
  obtain⟨u,r,l⟩:=hl i x v j C M
  refine⟨u,r,?_⟩
  rcases l with l | ⟨k,c,e,z⟩
  ·exact .inl l
  ·exact .inr ⟨k,c,e,g x c e _ z⟩
 ·obtain⟨v,z⟩:=I.cell x c e
  exact⟨v,g x c e v z⟩
 ·obtain⟨m,⟨o,_,_,A,_⟩,_⟩:=I.loc
  exact free _ o (fun z=>(h _ z).2.1 rfl) A I.free
 ·obtain⟨v,o,A,hd⟩:=I.cell x c e
  exact free c o (fun z=>(h c z).2.2.1 x c e rfl) A (I.freeC x c e)
 ·obtain⟨e,n,ne,F,d⟩:=I.pin p G
  have f:p.1∉ch:=fun z=>(h p.1 z).2.2.2 p G rfl
  exact⟨keep p.1 p.2 ne F f e n,free p.1 p.2 f e n,ne,F,d⟩
theorem Inv.un{t':Nat}(I:Inv X pins σ H s)(u:Un X.fs [] H H' s.heap h')(hok:cR X.prog X.w H' h'):Inv X pins σ H' {s with heap:=h',toks:=t'}:=by
 obtain⟨m,⟨o,es,ep,g,r⟩,_⟩:=id I.loc
 obtain⟨sl,i⟩:=u.any g I.free (by simp)
 exact I.step (g':=s.gens) (d':=s.drawn) (ch:=[]) (fun _ z=>nomatch z) (fun b o _ d _ e n=>u.keep b o e n d (by simp)) (fun b o _ d _ e n=>u.slot b o e n d (by simp)) (fun b o _ e n=>u.free b o e n (by simp)) (fun b o _ e=>u.there b o e (by simp)) u.tups u.frzs u.tbls (fun k j=>by
  obtain⟨l,f,c,a,h⟩:=j
  rw[g] at a;cases a
  exact⟨_,f,c,i,h⟩) hok I.bare
theorem Inv.call{g':Array GenState}{t':Nat}{d':Drawn}{ch:List Addr}(I:Inv X pins σ H s)(u:Un (iD X.stack) ch H H' s.heap h')(hok:cR X.prog X.w H' h')(l:Mi g')
  (a:∀ b∈ch,(b∈X.ex\/X.s₀.heap.objs.size<=b)/\b≠X.env.locals/\(∀ x c,X.env.cells.lookup x=some c->c≠b)/\∀ p∈X.pn ++ pins,p.1≠b) :
  Inv X pins σ H' {s with heap:=h',gens:=g',drawn:=d',toks:=t'}:=by
 obtain⟨m,⟨o,es,ep,i,r⟩,_⟩:=id I.loc
 obtain⟨sl,h⟩:=u.any i I.free fun z=>(a _ z).2.1 rfl
 exact I.step (ch:=ch) a (fun b o h j hc e n=>u.keep b o e n (fun z=>(Be.mp (I.stkSub b z)).elim h j) hc) (fun b o _ _ hc e n=>u.any e n hc) (fun b o hc e n=>u.free b o e n hc) (fun b o hc e=>u.there b o e hc) u.tups u.frzs u.tbls (fun t q=>by
  obtain⟨v,g,f,d,k⟩:=q
  rw[i] at d;cases d
  exact⟨_,g,f,h,k⟩) hok l
theorem Inv.turned{t':Nat}{a:Addr}(I:Inv X pins σ H s)(k:∀ b o,b≠a->s.heap.get? b=some o->h'.get? b=some o)(l:H a=none)(f:a≠X.env.locals)
  (i:a∈X.ex\/X.s₀.heap.objs.size<=a) (g:∀ x c,X.env.cells.lookup x=some c->c≠a) (t:∀ p∈X.pn ++ pins,p.1≠a):Inv X pins σ H {s with heap:=h',toks:=t'}:=by
 have d:∀ b u,H b=some u->b≠a:=fun b u e z=>by rw[z,l] at e;cases e
 refine I.step (g':=s.gens) (d':=s.drawn) (ch:=[a]) (fun b j=>?_) (fun b o _ _ hc e _=>k b o (fun z=>hc (by simp[z])) e) (fun b o _ _ hc e _=>⟨o.slots,k b o (fun z=>hc (by simp[z])) e⟩) (fun _ _ _ _ n=>n)
  (fun b o hc e=>⟨o,k b o (fun z=>hc (by simp[z])) e⟩) (fun _ _ e=>e) (fun _ _ _ e=>e) (fun b ps e=>⟨#[],by rw[e];simp⟩) (fun m w=>?_) (fun b u e=>?_) I.bare
 ·have e:b=a:=by simpa using j
  subst e
  exact⟨i,f,g,t⟩
 ·obtain⟨o,es,ep,h,r⟩:=w
  exact⟨o,es,ep,k _ o (Ca f) h,r⟩
 ·refine(I.hok b u e).stay (fun c v hc q=>k c v ?_ q) (fun _ q=>q) fun _ _ q=>q
  rcases hc with z | z
  ·rw[z];exact d b u e
  ·exact d c _ z
theorem Inv.tok(I:Inv X pins σ H s)(t:Nat):Inv X pins σ H {s with toks:=t}:=I.un (h':=s.heap) (t':=t) Un.refl I.hok
theorem Inv.kept{t':Nat}(I:Inv X pins σ H s)(k:∀ b u,s.heap.get? b=some u->h'.get? b=some u):Inv X pins σ H {s with heap:=h',toks:=t'}:=I.un (Un.kept k) (I.hok.kept k)
theorem Inv.laid{a:Addr}{o:HO}{t':Nat}(I:Inv X pins σ H s)(k:∀ b u,s.heap.get? b=some u->h'.get? b=some u)(c:s.heap.objs.size<=a)(new:cA X.prog X.w (aR H a o) h' a o) :
  Inv X pins σ (aR H a o) {s with heap:=h',toks:=t'}:=I.un (Un.laid k c (I.hok.fresh c)) (I.hok.laid k c new)
theorem Inv.write{x e:Addr}{o:HO}{t':Nat}(I:Inv X pins σ H s)(c:pZ (H x))(d:e=x\/H e=some (.own x))(k:∀ b u,b≠e->s.heap.get? b=some u->h'.get? b=some u)(a:∃ u,h'.get? e=some u)
  (new:cA X.prog X.w (aR H x o) h' x o):Inv X pins σ (aR H x o) {s with heap:=h',toks:=t'}:=I.un (Un.write c d k a) (I.hok.write c d k a new)
theorem Inv.pins_of{a:List (Addr×Obj)}(I:Inv X pins σ H s)(h:∀ p∈a,s.heap.get? p.1=some p.2/\H p.1=none/\p.1≠X.env.locals/\p.1∉X.fs/\∀ v,p.2.data≠.cell v):Inv X a σ H s:=
 ⟨I.ok,I.os,I.bare,I.base,I.loc,I.cell,I.free,I.freeC,fun p b=>(Bh.mp b).elim (fun z=>I.pin p (Co _ z)) (h p),I.hok,I.len⟩
theorem FD{N:List Str}(c:N.Nodup){i j:Nat}{x:Str}(a:N[i]? = some x)(b:N[j]? = some x):i=j:=by
 obtain⟨g,d⟩:=Ak.mp a
 obtain⟨f,e⟩:=Ak.mp b
 exact(List.getElem_inj c).mp (d.trans e.symm)
theorem FE{M:Model}{A:Cr}{E:Ae->Ah->Prop}{i:Nat}{x:Str}{v:V}{u:Ae}{Q:Unit->Ah->Prop}(I:Inv X pins σ H s)(hN:X.N.Nodup)(hi:X.N[i]? = some x)(t:Loc X.env.scope x)(r:RelV v u)
  (h:∀ s',Inv X pins (σ.set i (some v)) H s'->(∃ a,Eo a s.heap s'.heap/\(a=X.env.locals\/X.env.cells.lookup x=some a))->Q () s') (hf:X.fn x=true\/X.env.scope.names.lookup x=some .local:=by first | exact .inl rfl | exact .inr rfl | assumption):Bf M A (storeName X.env x u) Q E s:=by
 obtain⟨m,W,hl⟩:=id I.loc
 have K:(X.env.scope.kind == .class || (X.env.scope.kind == .module && X.env.locals != X.env.globals))=false:=by rw[I.ok.kind];rfl
 have D:i < σ.length:=by rw[I.len];exact(Ak.mp hi).1
 have cne:=I.cne
 have g:∀ {a:Addr} {h':Heap},(∃ o,s.heap.get? a=some o/\H a=none)->Eo a s.heap h'->cR X.prog X.w H h':=fun {a h'} ha f b ob e=>by
  obtain⟨_,_,B⟩:=ha
  refine(I.hok b ob e).stay (fun c S hc q=>(f.2 c ?_).trans q) (fun _ q=>q) fun _ _ q=>q
  rintro rfl
  rcases hc with rfl | hc
  ·rw[B] at e;cases e
  ·rw[B] at hc;cases hc
 rcases t with hk | hk
 ·refine wpAny_storeName_local hk W (fun h' hn' f=>?_) K
  obtain⟨oL,_,_,U,_⟩:=id W
  refine h _ ⟨I.ok,I.os,I.bare,⟨fun b o e n J t=>?_,fun b o e n J t=>?_,I.base.free,fun b o e t=>?_,I.base.tups,I.base.frzs,I.base.tbls⟩,⟨_,hn',fun j y v' l C e3=>?_⟩,fun y c e=>?_,I.free,I.freeC,fun p hp=>?_,g ⟨oL,U,I.free⟩ f,by simpa using I.len⟩ ⟨_,f,.inl rfl⟩
  ·exact(f.2 b (Bj (Cb (Bc e) I.ok.above))).trans (I.base.keep b o e n J t)
  ·obtain⟨sl,l⟩:=I.base.slot b o e n J t
   exact⟨sl,(f.2 b (Bj (Cb (Bc e) I.ok.above))).trans l⟩
  ·obtain⟨o',l⟩:=I.base.there b o e t
   exact⟨o',(f.2 b (Bj (Cb (Bc e) I.ok.above))).trans l⟩
  ·by_cases G:j=i
   ·subst G
    rw[hi] at l;cases l
    rw[List.getElem?_set_self D] at C
    cases C
    exact⟨u,r,.inl ⟨hk,by simp⟩⟩
   ·rw[List.getElem?_set_ne (Ca G)] at C
    obtain⟨u',Y,q⟩:=hl j y v' l C e3
    refine⟨u',Y,?_⟩
    rcases q with⟨k,e⟩ | ⟨k,c,e,z⟩
    ·refine .inl ⟨k,?_⟩
     have:y≠x:=fun e=>G (FD hN l (e ▸ hi))
     simp[this,e]
    ·exact .inr ⟨k,c,e,z.sameBut f (cne y c e)⟩
  ·obtain⟨S,z⟩:=I.cell y c e
   exact⟨S,z.sameBut f (cne y c e)⟩
  ·obtain⟨e,n,ne,Z,d⟩:=I.pin p hp
   exact⟨(f.2 p.1 ne).trans e,n,ne,Z,d⟩
 ·have F:X.fn x=true:=by
   rcases hf with z | z
   ·exact z
   ·rw[z] at hk;cases hk
  obtain⟨c,hc⟩:=I.ok.has x (.inl hk)
  obtain⟨S,z⟩:=I.cell x c hc
  refine wpAny_storeName_cell I.ok.kind hk hc z (fun h' O f=>?_)
  obtain⟨oc,P,L⟩:=id z
  refine h {s with heap:=h'} ⟨I.ok,I.os,I.bare,⟨fun b o e n J t=>?_,fun b o e n J t=>?_,I.base.free,fun b o e t=>?_,I.base.tups,I.base.frzs,I.base.tbls⟩,⟨m,W.sameBut f (Ca (cne x c hc)),fun j y v' l C e3=>?_⟩,fun y T e=>?_,I.free,I.freeC,fun p hp=>?_,g ⟨oc,P,I.freeC x c hc⟩ f,by simpa using I.len⟩ ⟨c,f,.inr hc⟩
  ·exact(f.2 b (Bj (Cb (Bc e) (I.ok.cab x c F hc)))).trans (I.base.keep b o e n J t)
  ·obtain⟨sl,l⟩:=I.base.slot b o e n J t
   exact⟨sl,(f.2 b (Bj (Cb (Bc e) (I.ok.cab x c F hc)))).trans l⟩
  ·obtain⟨o',l⟩:=I.base.there b o e t
   exact⟨o',(f.2 b (Bj (Cb (Bc e) (I.ok.cab x c F hc)))).trans l⟩
  ·by_cases G:j=i
   ·subst G
    rw[hi] at l;cases l
    rw[List.getElem?_set_self D] at C
    cases C
    exact⟨u,r,.inr ⟨.inl hk,c,hc,O⟩⟩
   ·rw[List.getElem?_set_ne (Ca G)] at C
    obtain⟨u',Y,q⟩:=hl j y v' l C e3
    refine⟨u',Y,?_⟩
    rcases q with q | ⟨k,T,e,z'⟩
    ·exact .inl q
    ·refine .inr ⟨k,T,e,z'.sameBut f ?_⟩
     rintro rfl
     exact G (FD hN l (I.ok.inj _ _ _ e hc ▸ hi))
  ·by_cases R:T=c
   ·subst R;exact⟨_,O⟩
   ·obtain⟨w2,z2⟩:=I.cell y T e
    exact⟨w2,z2.sameBut f R⟩
  ·obtain⟨e,n,ne,Z,d⟩:=I.pin p hp
   refine⟨(f.2 p.1 ?_).trans e,n,ne,Z,d⟩
   intro q
   rw[q,P] at e
   have q':oc=p.2:=Cp e
   exact d S (by rw[<-q'];exact L)
theorem FF{M:Model}{A:Cr}{E:Ae->Ah->Prop}{i:Nat}{x:Str}{v:V}{u:Ae}{Q:Unit->Ah->Prop}(I:Inv X pins σ H s)(b:X.N.Nodup)(hi:X.N[i]? = some x)(d:Loc X.env.scope x)(r:RelV v u)
  (h:∀ a,Inv X pins (σ.set i (some v)) H a->Q () a) (hf:X.fn x=true\/X.env.scope.names.lookup x=some .local:=by first | exact .inl rfl | exact .inr rfl | assumption):Bf M A (storeName X.env x u) Q E s:=
 FE I b hi d r (fun a c _=>h a c) hf
theorem Inv.call'{a:Ah}{ch:List Addr}(I:Inv X pins σ H s)(h:a.os=s.os)(u:Un (iD X.stack) ch H H' s.heap a.heap)(hok:cR X.prog X.w H' a.heap)(g:Mi a.gens)
  (d:∀ b∈ch,(b∈X.ex\/X.s₀.heap.objs.size<=b)/\b≠X.env.locals/\(∀ x c,X.env.cells.lookup x=some c->c≠b)/\∀ p∈X.pn ++ pins,p.1≠b):Inv X pins σ H' a:=by
 obtain⟨h',g',d',t',f⟩:=a
 have e:f=s.os:=h
 subst e
 exact I.call (g':=g') (t':=t') (d':=d') u hok g d
end
abbrev XK:=Ae->Option Addr->Hp->Prop
abbrev St:=List (Option V)
abbrev VK:=V->Hp->Prop
abbrev TE:=St->Hp->VK->Prop
abbrev TT:=St->Hp->(Bool->Hp->Prop)->Prop
abbrev TA:=St->Hp->(List V->Hp->Prop)->Prop
structure lF where
 nx:St->Hp->Prop
 rt:VK
 bk:St->Hp->Prop:=fun _ _=>False
 ct:St->Hp->Prop:=fun _ _=>False
abbrev TS:=lF->St->Hp->Prop
def EP(X:Cx)(pins:List (Addr×Obj))(σ:St)(Q:VK)(u:Ae)(a:Ah):Prop:=∃ v H',Inv X pins σ H' a/\RelV v u/\Q v H'
def TP(X:Cx)(pins:List (Addr×Obj))(σ:St)(Q:Bool->Hp->Prop)(b:Bool)(a:Ah):Prop:=∃ H',Inv X pins σ H' a/\Q b H'
def AP(X:Cx)(pins:List (Addr×Obj))(σ:St)(Q:List V->Hp->Prop)(us:List Ae)(a:Ah):Prop:=∃ vs H',Inv X pins σ H' a/\aZ vs us/\Q vs H'
def SP(X:Cx)(pins:List (Addr×Obj))(D:lF)(f:Flow)(b:Ah):Prop:=
 match f with
 | .next=>∃ a H',Inv X pins a H' b/\D.nx a H'
 | .brk=>∃ a H',Inv X pins a H' b/\D.bk a H'
 | .cont=>∃ a H',Inv X pins a H' b/\D.ct a H'
 | .ret u=>∃ v a H',Inv X pins a H' b/\RelV v u/\D.rt v H'
def PE(X:Cx)(e:Expr)(t:TE):Prop:=
 ∀ (pins:List (Addr×Obj)) (s:Ah) (σ:St) (H:Hp) (Q:VK),Inv X pins σ H s->t σ H Q->Bf (Bu X.prog X.w) X.A (eval e X.env) (EP X pins σ Q) X.xe s
def PT(X:Cx)(e:Expr)(t:TT):Prop:=
 ∀ (pins:List (Addr×Obj)) (s:Ah) (σ:St) (H:Hp) (Q:Bool->Hp->Prop),Inv X pins σ H s->t σ H Q->Bf (Bu X.prog X.w) X.A (isTrue e X.env (eval e X.env)) (TP X pins σ Q) X.xe s
def PW(X:Cx)(e:Expr)(t:TT):Prop:=
 ∀ (a:Sem Ae) (pins:List (Addr×Obj)) (s:Ah) (σ:St) (H:Hp) (Q:Bool->Hp->Prop),Inv X pins σ H s->t σ H Q->Bf (Bu X.prog X.w) X.A (isTrue e X.env a) (TP X pins σ Q) X.xe s
theorem PW.pt{X:Cx}{e:Expr}{t:TT}(h:PW X e t):PT X e t:=h _
def PA(X:Cx)(es:List Expr)(t:TA):Prop:=
 ∀ (pos:Pos) (pins:List (Addr×Obj)) (s:Ah) (σ:St) (H:Hp) (Q:List V->Hp->Prop),Inv X pins σ H s->t σ H Q->Bf (Bu X.prog X.w) X.A (spliced (Fs pos (Bl es X.env))) (AP X pins σ Q) X.xe s
def PS(X:Cx)(st:Stmt)(t:TS):Prop:=
 ∀ (pins:List (Addr×Obj)) (s:Ah) (σ:St) (H:Hp) (D:lF),Inv X pins σ H s->t D σ H->Bf (Bu X.prog X.w) X.A (exec st X.env) (SP X pins D) X.xe s
def fW(X:Cx)(st:List Stmt)(t:TS):Prop:=
 ∀ (pins:List (Addr×Obj)) (s:Ah) (σ:St) (H:Hp) (D:lF),Inv X pins σ H s->t D σ H->Bf (Bu X.prog X.w) X.A (execs st X.env) (SP X pins D) X.xe s
theorem a6{c:Type}{t:Sem c}{Q b:c->Ah->Prop}{M:Model}{A:Cr}{E:Ae->Ah->Prop}{s:Ah}(h:Bf M A t Q E s)(d:∀ a s,Q a s->b a s):Bf M A t b E s:=Ha h d fun _ _ x=>x
section
variable {X:Cx}
def QP(i:Nat):TE:=fun σ H Q=>∃ v,σ[i]? = some (some v)/\Q v H
def tC(v:V):TE:=fun _ H Q=>Q v H
theorem QQ{i:Nat}{x:Str}{pos:Pos}(d:X.N[i]? = some x)(g:wB X.env.scope x)(hd:(x == ("__debug__" : Str))=false:=by decide)(b:(x == ("__classdict__" : Str))=false:=by decide):PE X (.Name x pos) (QP i):=by
 intro pins s σ H Q I h
 obtain⟨v,e,h⟩:=h
 obtain⟨m,f,hl⟩:=I.loc
 obtain⟨u,r,l⟩:=hl i x v d e g
 have fin:EP X pins σ Q u s:=⟨v,H,I,r,h⟩
 rcases l with⟨hk,j⟩ | ⟨hk,c,hc,a⟩
 ·exact wpAny_Name (wpAny_loadName_local I.ok.kind hk f j fin) hd
 ·rcases hk with hk | hk
  ·exact wpAny_Name (wpAny_loadName_cell I.ok.kind hk hc a fin) hd
  ·exact wpAny_Name (wpAny_loadName_free I.ok.kind hk hc a fin b) hd
theorem QS{i j pos}:PE X (.Constant (.int i) j pos) (tC (.int i)):=fun _ _ _ H _ I h=>wpAny_Constant_int ⟨.int i,H,I.tok _,⟨_,rfl⟩,h⟩
theorem QT{b j pos}:PE X (.Constant (.bool b) j pos) (tC (.bl b)):=fun _ _ _ H _ I h=>Constant_bool ⟨.bl b,H,I,rfl,h⟩
theorem QU{x j pos}:PE X (.Constant (.str x) j pos) (tC (.str x)):=fun _ _ _ H _ I h=>Calls.Constant_str ⟨.str x,H,I.tok _,⟨_,rfl⟩,h⟩
def Gl(X:Cx)(x:Str):Prop:=X.env.kindOf x=some .globalImplicit
theorem sF{E:Ae->Ah->Prop}{pins:List (Addr×Obj)}{s:Ah}{σ:St}{H:Hp}{x:Str}{u:Ae}{pos:Pos}{Q:Ae->Ah->Prop}(I:Inv X pins σ H s)(a:Gl X x)(b:X.mg x=some u)(h:Q u s)
  (hd:(x == ("__debug__" : Str))=false:=by decide):Bf (Bu X.prog X.w) X.A (eval (.Name x pos) X.env) Q E s:=
 Calls.Name_function_global I.ok.kind a (Calls.loadGlobal_global (by rw[I.ok.glob];exact I.mod.glob.keeps I.bk) b h) hd
theorem mG{E:Ae->Ah->Prop}{pins:List (Addr×Obj)}{s:Ah}{σ:St}{H:Hp}{x:Str}{u:Ae}{pos:Pos}{Q:Ae->Ah->Prop}(I:Inv X pins σ H s)(c:Gl X x)(f:X.mg x=none)(e:Ct x=some u)(h:Q u s)
  (d:x≠"__name__":=by decide) (hd:(x == ("__debug__" : Str))=false:=by decide):Bf (Bu X.prog X.w) X.A (eval (.Name x pos) X.env) Q E s:=by
 obtain⟨g,b,a⟩:=I.mod.blt
 exact Calls.Name_function_global I.ok.kind c (Calls.loadGlobal_builtin (by rw[I.ok.glob];exact I.mod.glob.keeps I.bk) f (by rw[I.ok.blt];exact b.keeps I.bk) ((a x d).trans e) h) hd
theorem QV{x:Str}{v:V}{u:Ae}{pos:Pos}(a:Gl X x)(b:X.mg x=some u)(r:RelV v u)(hd:(x == ("__debug__" : Str))=false:=by decide):PE X (.Name x pos) (tC v):=
 fun _ _ _ H _ I h=>sF I a b ⟨v,H,I,r,h⟩ hd
theorem QW{x:Str}{v:V}{u:Ae}{pos:Pos}(a:Gl X x)(d:X.mg x=none)(c:Ct x=some u)(r:RelV v u)(b:x≠"__name__":=by decide)(hd:(x == ("__debug__" : Str))=false:=by decide):PE X (.Name x pos) (tC v):=
 fun _ _ _ H _ I h=>mG I a d c ⟨v,H,I,r,h⟩ b hd
variable {a b:Expr}{ta tb:TE}{pos:Pos}
variable {tA tB':TT}{rest:List Expr}
def QX(t u:TT):TT:=fun σ H Q=>t σ H fun c a=>if c=true then u σ a Q else Q false a
def QY(t u:TT):TT:=fun σ H Q=>t σ H fun c a=>if c=true then Q true a else u σ a Q
def QZ(t:TT):TT:=fun σ H Q=>t σ H fun c a=>Q (!c) a
theorem Q0(b:PT X a tA):PW X (.BoolOp .And [a] pos) tA:=by
 intro f pins s σ H Q I h
 refine isTrue_and (a6 (b pins s σ H Q I h) fun c d e=>?_)
 cases c with
 | true=>exact isTrue_and_nil e
 | false=>exact e
theorem Q1(b:PT X a tA):PW X (.BoolOp .Or [a] pos) tA:=by
 intro f pins s σ H Q I h
 refine isTrue_or (a6 (b pins s σ H Q I h) fun c d e=>?_)
 cases c with
 | false=>exact isTrue_or_nil e
 | true=>exact e
theorem Q2(j:PT X a tA)(i:PW X (.BoolOp .And (b :: rest) pos) tB'):PW X (.BoolOp .And (a :: b :: rest) pos) (QX tA tB'):=by
 intro k pins s σ H Q I h
 refine isTrue_and (a6 (j pins s σ H _ I h) fun c g ⟨d,e,f⟩=>?_)
 cases c with
 | true=>exact i k pins g σ d Q e f
 | false=>exact⟨d,e,f⟩
theorem Q3(j:PT X a tA)(i:PW X (.BoolOp .Or (b :: rest) pos) tB'):PW X (.BoolOp .Or (a :: b :: rest) pos) (QY tA tB'):=by
 intro k pins s σ H Q I h
 refine isTrue_or (a6 (j pins s σ H _ I h) fun c g ⟨d,e,f⟩=>?_)
 cases c with
 | true=>exact⟨d,e,f⟩
 | false=>exact i k pins g σ d Q e f
theorem Q4(d:PT X a tA):PT X (.UnaryOp .Not a pos) (QZ tA):=by
 intro pins s σ H Q I h
 exact isTrue_not (d pins s σ H (fun c b=>Q (!c) b) I h)
def Q5(ta tb:TE):TE:=fun σ H Q=>ta σ H fun x a=>∃ c,x=.bl c/\if c=true then tb σ a Q else Q (.bl false) a
def Q6(ta tb:TE):TE:=fun σ H Q=>ta σ H fun x a=>∃ c,x=.bl c/\if c=true then Q (.bl true) a else tb σ a Q
theorem Q7{op}{t:TE}(h:PE X a t):PE X (.BoolOp op [a] pos) t:=fun pins s σ H Q I hw=>BoolOp_one (h pins s σ H Q I hw)
theorem Q8(k:PE X a ta)(j:PE X (.BoolOp .And (b :: rest) pos) tb):PE X (.BoolOp .And (a :: b :: rest) pos) (Q5 ta tb):=by
 intro pins s σ H Q I h
 refine BoolOp_and (a6 (k pins s σ H _ I h) fun v g ⟨x,e,f,i,d⟩=>?_)
 obtain⟨c,rfl,d⟩:=d
 cases i
 refine Fp ?_
 cases c with
 | true=>exact j pins g σ e Q f d
 | false=>exact⟨.bl false,e,f,rfl,d⟩
theorem Q9(k:PE X a ta)(j:PE X (.BoolOp .Or (b :: rest) pos) tb):PE X (.BoolOp .Or (a :: b :: rest) pos) (Q6 ta tb):=by
 intro pins s σ H Q I h
 refine BoolOp_or (a6 (k pins s σ H _ I h) fun v g ⟨x,e,f,i,d⟩=>?_)
 obtain⟨c,rfl,d⟩:=d
 cases i
 refine Fp ?_
 cases c with
 | false=>exact j pins g σ e Q f d
 | true=>exact⟨.bl true,e,f,rfl,d⟩
def RA(t:TT)(ta tb:TE):TE:=fun σ H Q=>t σ H fun c a=>if c=true then ta σ a Q else tb σ a Q
theorem RB{c:Expr}(hc:PT X c tA)(k:PE X a ta)(j:PE X b tb):PE X (.IfExp c a b pos) (RA tA ta tb):=by
 intro pins s σ H Q I h
 refine wpAny_IfExp (a6 (hc pins s σ H _ I h) fun d f ⟨e,g,i⟩=>?_)
 cases d with
 | true=>exact k pins f σ e Q g i
 | false=>exact j pins f σ e Q g i
end
def bF(K:Ac)(H:Hp)(a:Addr)(xs:List V):Prop:=
 Rd H a (.lst xs)\/
  ∃ (o:Obj) (its:Array Ae) (n:Nat),K.lookup a=some o/\o.cls=.type "list"/\o.dict=none/\o.data=.seq its n/\its.size<=Ai/\aZ xs its.toList
def bV(K:Ac)(H:Hp)(a:Addr)(xs:List V):Prop:=
 Rd H a (.tup xs)\/
  ∃ (o:Obj) (its:Array Ae) (n:Nat),K.lookup a=some o/\o.cls=.type "tuple"/\o.data=.seq its n/\its.size<=Ai/\aZ xs its.toList
def RC:Ae->Option V
 | .none=>some .non
 | .bool b=>some (.bl b)
 | .int i _=>some (.int i)
 | .str x _=>some (.str x)
 | .bytes b _=>some (.byt b)
 | .float b _=>some (.flt b)
 | .ref a=>some (.ref a)
 | .type n=>some (.ty n)
 | _=>none
theorem RelV.abs{x:V}{u:Ae}(r:RelV x u):RC u=some x:=by
 cases x with
 | non=>cases r;rfl
 | bl _=>cases r;rfl
 | int _=>obtain⟨t,rfl⟩:=r;rfl
 | str _=>obtain⟨t,rfl⟩:=r;rfl
 | byt _=>obtain⟨t,rfl⟩:=r;rfl
 | flt _=>obtain⟨t,rfl⟩:=r;rfl
 | ref _=>cases r;rfl
 | ty _=>cases r;rfl
theorem RelV.inj{x y:V}{u:Ae}(r:RelV x u)(q:RelV y u):x=y:=Cp (r.abs.symm.trans q.abs)
theorem aZ.inj:∀ {xs ys:List V} {us:List Ae},aZ xs us->aZ ys us->xs=ys
 | _,_,_,.nil,.nil=>rfl
 | _,_,_,.cons r t,.cons a t'=>by rw[r.inj a,aZ.inj t t']
section
variable {X:Cx}{pins:List (Addr×Obj)}{σ:St}{H:Hp}{s:Ah}{a:Addr}{xs ys:List V}
theorem bF.of{K:Ac}(h:H a=some (.lst xs)):bF K H a xs:=.inl (.inl h)
theorem bV.of{K:Ac}(h:H a=some (.tup xs)):bV K H a xs:=.inl (.inl h)
theorem Inv.list(I:Inv X pins σ H s)(h:bF X.K H a xs):∃ its:List Ae,aZ xs its/\PlainL s.heap a its.toArray/\xs.length<=Ai:=by
 rcases h with h | ⟨o,its,n,hk,hc,hd,b,hz,r⟩
 ·obtain⟨z,its,n,r,e⟩:=h.ok I.hok
  exact⟨its,r,⟨_,n,e,rfl,rfl,rfl⟩,z⟩
 ·refine⟨its.toList,r,⟨o,n,I.kIn a o hk,hc,hd,by simpa using b⟩,?_⟩
  have e:=r.length
  simp only[Fn] at e
  lia
theorem Inv.tuple(I:Inv X pins σ H s)(h:bV X.K H a xs):∃ its:List Ae,aZ xs its/\IsTup s.heap a its.toArray/\xs.length<=Ai:=by
 rcases h with h | ⟨o,its,n,hk,hc,b,hz,r⟩
 ·obtain⟨z,its,r,p⟩:=h.ok I.hok
  exact⟨its,r,p,z⟩
 ·refine⟨its.toList,r,⟨o,I.kIn a o hk,hc,n,by simpa using b⟩,?_⟩
  have e:=r.length
  simp only[Fn] at e
  lia
theorem Inv.list_inj(I:Inv X pins σ H s)(h:bF X.K H a xs)(h':bF X.K H a ys):xs=ys:=by
 obtain⟨its,r,⟨o,n,e,_,_,d⟩,_⟩:=I.list h
 obtain⟨its',c,⟨f,g,b,_,_,d'⟩,_⟩:=I.list h'
 rw[e] at b;cases b
 rw[d] at d'
 injection d' with d1 _
 have:its=its':=by simpa using congrArg Array.toList d1
 subst this
 exact r.inj c
theorem Inv.tuple_inj(I:Inv X pins σ H s)(h:bV X.K H a xs)(h':bV X.K H a ys):xs=ys:=by
 obtain⟨its,r,⟨o,e,_,n,d⟩,_⟩:=I.tuple h
 obtain⟨its',c,⟨f,b,_,g,d'⟩,_⟩:=I.tuple h'
 rw[e] at b;cases b
 rw[d] at d'
 injection d' with d1 _
 have:its=its':=by simpa using congrArg Array.toList d1
 subst this
 exact r.inj c
end
abbrev Cx.wish(X:Cx)(E:Ae->Ah->Prop):Cx:={X with xe:=E}
abbrev Cx.nox(X:Cx):Cx:=X.wish fun _ _=>False
theorem Cx.Ok.wish{X:Cx}(ok:X.Ok)(E:Ae->Ah->Prop):(X.wish E).Ok:=
 ⟨ok.mod,ok.kind,ok.glob,ok.blt,ok.above,ok.inj,ok.has,ok.cab,ok.hd,ok.frames,ok.stk,ok.exf,ok.bs,ok.bsz,ok.noex,ok.exfs,ok.funs,ok.frf⟩
theorem Cx.Ok.unwish{X:Cx}{E:Ae->Ah->Prop}(ok:(X.wish E).Ok):X.Ok:=
 ⟨ok.mod,ok.kind,ok.glob,ok.blt,ok.above,ok.inj,ok.has,ok.cab,ok.hd,ok.frames,ok.stk,ok.exf,ok.bs,ok.bsz,ok.noex,ok.exfs,ok.funs,ok.frf⟩
section
variable {X:Cx}{pins:List (Addr×Obj)}{σ:St}{H:Hp}{s:Ah}{E:Ae->Ah->Prop}
theorem Inv.wish(I:Inv X pins σ H s)(E:Ae->Ah->Prop):Inv (X.wish E) pins σ H s:=⟨I.ok.wish E,I.os,I.bare,I.base,I.loc,I.cell,I.free,I.freeC,I.pin,I.hok,I.len⟩
theorem Inv.unwish(I:Inv (X.wish E) pins σ H s):Inv X pins σ H s:=⟨I.ok.unwish,I.os,I.bare,I.base,I.loc,I.cell,I.free,I.freeC,I.pin,I.hok,I.len⟩
theorem SP.unwish{D:lF}{f:Flow}{s':Ah}(h:SP (X.wish E) pins D f s'):SP X pins D f s':=by
 cases f with
 | next=>obtain⟨σ',H',I,q⟩:=h;exact⟨σ',H',I.unwish,q⟩
 | brk=>obtain⟨σ',H',I,q⟩:=h;exact⟨σ',H',I.unwish,q⟩
 | cont=>obtain⟨σ',H',I,q⟩:=h;exact⟨σ',H',I.unwish,q⟩
 | ret u=>obtain⟨v,σ',H',I,r,q⟩:=h;exact⟨v,σ',H',I.unwish,r,q⟩
theorem fW.nox{st:List Stmt}{t:TS}(h:fW X.nox st t):fW X st t:=fun pins s σ H D I hw=>
 Ha (h pins s σ H D (I.wish _) hw) (fun _ _ q=>q.unwish) fun _ _ z=>Fv z
end
section
variable {X:Cx}{st:Stmt}{rest:List Stmt}{t u:TS}{e:Expr}{te:TE}{pos:Pos}
def RD:TS:=fun D σ H=>D.nx σ H
def RE(t u:TS):TS:=fun D σ H=>t {D with nx:=u D} σ H
theorem RF:fW X [] RD:=fun _ _ σ H _ I h=>Mj ⟨σ,H,I,h⟩
theorem RG(h1:PS X st t)(h2:fW X rest u):fW X (st :: rest) (RE t u):=by
 intro pins s σ H D I h
 refine wpAny_execs_cons (a6 (h1 pins s σ H {D with nx:=u D} I h) fun f s1 q=>?_)
 cases f with
 | next=>
  obtain⟨σ',H',I',q⟩:=q
  exact h2 pins s1 σ' H' D I' q
 | ret v=>exact q
 | brk=>exact q
 | cont=>exact q
theorem RH(h1:PS X st t):fW X [st] t:=by
 intro pins s σ H D I h
 refine wpAny_execs_cons (a6 (h1 pins s σ H D I h) fun f s1 q=>?_)
 cases f with
 | next=>exact Mj q
 | ret v=>exact q
 | brk=>exact q
 | cont=>exact q
theorem Inv.quiet{pins:List (Addr×Obj)}{σ:St}{H:Hp}{s:Ah}(I:Inv X pins σ H s):interactive X.env=false:=by simp[interactive,I.ok.kind]
def RI(te:TE):TS:=fun D σ H=>te σ H fun _ a=>D.nx σ a
theorem RJ(f:PE X e te)(b:Hg e none pos.line X.env=pure false:=by rfl):PS X (.Expr e pos) (RI te):=by
 intro pins s σ H D I h
 exact wpAny_Expr_any (a6 (f pins s σ H _ I h) fun v g ⟨x,a,c,i,d⟩=>⟨σ,a,c,d⟩) I.quiet b
def RK(te:TE):TS:=fun D σ H=>te σ H D.rt
theorem RL(f:PE X e te):PS X (.Return (some e) pos) (RK te):=by
 intro pins s σ H D I h
 exact wpAny_Return_some (a6 (f pins s σ H _ I h) fun v g ⟨x,a,c,b,d⟩=>⟨x,σ,a,c,b,d⟩)
def RM:TS:=fun D _ H=>D.rt .non H
theorem RN:PS X (.Return none pos) RM:=fun _ _ σ H _ I h=>wpAny_Return_none ⟨.non,σ,H,I,rfl,h⟩
def RO(c:TT)(t u:TS):TS:=fun D σ H=>c σ H fun b a=>if b=true then t D σ a else u D σ a
theorem RP{c:Expr}{a b:List Stmt}{j:TT}(hc:PT X c j)(l:fW X a t)(k:fW X b u):PS X (.If c a b pos) (RO j t u):=by
 intro pins s σ H D I h
 refine wpAny_If (a6 (hc pins s σ H _ I h) fun d f ⟨e,g,i⟩=>?_)
 cases d with
 | true=>exact l pins f σ e D g i
 | false=>exact k pins f σ e D g i
def RQ:TS:=fun _ _ _=>False
theorem RS:PS X st RQ:=fun _ _ _ _ _ _ h=>h.elim
end
abbrev TG:=V->St->Hp->(St->Hp->Prop)->Prop
abbrev jX:=List V->St->Hp->(St->Hp->Prop)->Prop
def PG(X:Cx)(a:Expr)(t:TG):Prop:=
 ∀ (pins:List (Addr×Obj)) (s:Ah) (σ:St) (H:Hp) (v:V) (u:Ae) (Q:St->Hp->Prop),Inv X pins σ H s->RelV v u->t v σ H Q->
  Bf (Bu X.prog X.w) X.A (Lu a X.env u) (fun _ c=>∃ b H',Inv X pins b H' c/\Q b H') X.xe s
def jD(X:Cx)(ts:List Expr)(t:jX):Prop:=
 ∀ (pins:List (Addr×Obj)) (s:Ah) (σ:St) (H:Hp) (vs:List V) (us:List Ae) (Q:St->Hp->Prop),Inv X pins σ H s->aZ vs us->t vs σ H Q->
  Bf (Bu X.prog X.w) X.A (assignInOrder ((Gd ts X.env).map (·.2)) us) (fun _ b=>∃ a H',Inv X pins a H' b/\Q a H') X.xe s
abbrev sG:=V->V->V->Hp->(Hp->Prop)->Prop
def sH(X:Cx)(t:sG):Prop:=
 ∀ (pins:List (Addr×Obj)) (s:Ah) (σ:St) (H:Hp) (o i v:V) (a b u:Ae) (Q:Hp->Prop),Inv X pins σ H s->RelV o a->RelV i b->RelV v u->t o i v H Q->
  Bf (Bu X.prog X.w) X.A (setItem a b u) (fun _ c=>∃ H',Inv X pins σ H' c/\Q H') X.xe s
section
variable {X:Cx}{pos:Pos}
def wC(i:Nat):TG:=fun v σ H Q=>Q (σ.set i (some v)) H
theorem RT{i:Nat}{x:Str}(a:X.N.Nodup)(hi:X.N[i]? = some x)(c:Loc X.env.scope x)(hf:X.fn x=true\/X.env.scope.names.lookup x=some .local:=by first | exact .inl rfl | exact .inr rfl | assumption):PG X (.Name x pos) (wC i):=by
 intro pins s σ H v u Q I r h
 exact wpAny_assign_Name (FF I a hi c r (fun d b=>⟨_,H,b,h⟩) hf)
def RU:jX:=fun vs σ H Q=>vs=[]/\Q σ H
def RV(t:TG)(u:jX):jX:=fun vs σ H Q=>∃ v r,vs=v :: r/\t v σ H fun a H'=>u r a H' Q
theorem RW:jD X [] RU:=by
 intro pins s σ H vs us Q I r h
 obtain⟨e,h⟩:=h
 subst e
 cases r
 exact assignInOrder_nil ⟨σ,H,I,h⟩
theorem RX{e:Expr}{es:List Expr}{t:TG}{u:jX}(g:PG X e t)(c:jD X es u)
  (i:(Gd (e :: es) X.env).map (·.2)=Lu e X.env :: (Gd es X.env).map (·.2):=by rfl):jD X (e :: es) (RV t u):=by
 intro pins s σ H vs us Q I r h
 obtain⟨v,m,j,h⟩:=h
 subst j
 cases r with
 | cons r f=>
  rw[i]
  refine assignInOrder_cons (a6 (g pins s σ H _ _ _ I r h) fun _ d ⟨a,b,k,l⟩=>?_)
  exact c pins d a b _ _ Q k f l
def RY(K:Ac)(n:Nat)(t:jX):TG:=fun v σ H Q=>∃ a xs,v=.ref a/\bV K H a xs/\xs.length=n/\t xs σ H Q
theorem RZ{es:List Expr}{k:Nat}{t:jX}{n:Nat}(hc:X.calm=true)(h:jD X es t)
  (j:(Gd es X.env).length=n:=by rfl) (c:(Gd es X.env).findIdx? (·.1)=none:=by rfl):PG X (.Tuple es k pos) (RY X.K n t):=by
 intro pins s σ H v u Q I r hw
 obtain⟨a,xs,g,f,hl,hw⟩:=hw
 subst g
 cases r
 obtain⟨its,d,ht,hz⟩:=I.tuple f
 refine assign_Tuple_tuple (I.ok.hd hc) ht (by simp[j,<-hl,d.length]) c fun h' l=>?_
 have i:Inv X pins σ H {s with heap:=h'}:=I.kept (t':=s.toks) fun b o e=>l b o (Bj (Bc e)) e
 exact h pins _ σ H xs _ Q i (by simpa using d) hw
def R0(e d:TE)(t:sG):TG:=fun v σ H Q=>e σ H fun o a=>d σ a fun i c=>t o i v c fun b=>Q σ b
theorem R1{o i:Expr}{d c:TE}{t:sG}(A:PE X o d)(hi:PE X i c)(q:sH X t)
  (C:∀ v,Lu (.Subscript o i pos) X.env v=(do
   let a <-Hr [v] (eval o X.env)
   let b <-Hr [v,a] (eval i X.env)
   My pos
   Hr [v,a,b] (setItem a b v)
   release [v,a,b] []):=by intro _;rfl):PG X (.Subscript o i pos) (R0 d c t):=by
 intro pins s σ H v u Q I r h
 rw[C]
 refine Aa (Cy (a6 (A pins s σ H _ I h) fun a e ⟨x,m,B,k,f⟩=>?_))
 refine Aa (Cy (a6 (hi pins e σ m _ B f) fun b l ⟨y,j,z,n,p⟩=>?_))
 refine Aa (Nb (Aa (Cy (a6 (q pins l σ j x y v a b u _ z k n r p) fun _ E ⟨g,w,D⟩=>?_))))
 exact wpAny_release ⟨σ,g,w,D⟩
def sI(te:TE)(g:TG):TS:=fun D σ H=>te σ H fun x a=>g x σ a D.nx
theorem R4{a e:Expr}{te:TE}{g:TG}(m:PE X e te)(j:PG X a g)(i:swapsWithSole [a] e pos.line X.env=pure false:=by rfl)(hw:swappedStores [a] e X.env=pure none:=by rfl)
  (f:(Gd [a] X.env).map (·.2)=[Lu a X.env]:=by rfl):PS X (.Assign [a] e pos) (sI te g):=by
 intro pins s σ H D I h
 refine wpAny_Assign_stores (a6 (m pins s σ H _ I h) fun v c ⟨x,b,k,d,l⟩=>?_) i hw
 rw[f]
 exact a6 (j pins c σ b x v _ k d l) fun _ n q=>q
theorem R5{i:Nat}{x:Str}{e:Expr}{te:TE}{a:Pos}(c:X.N.Nodup)(hi:X.N[i]? = some x)(j:Loc X.env.scope x)(m:PE X e te)(f:Hg e (some (.Name x a)) pos.line X.env=pure false:=by rfl)(hf:X.fn x=true\/X.env.scope.names.lookup x=some .local:=by first | exact .inl rfl | exact .inr rfl | assumption) :
  PS X (.Assign [.Name x a] e pos) (sI te (wC i)):=by
 intro pins s σ H D I h
 refine wpAny_Assign_Name (a6 (m pins s σ H _ I h) fun v n ⟨y,b,g,d,l⟩=>?_) f
 exact FF g c hi j d (fun o k=>⟨_,b,k,l⟩) hf
end
section
variable {X:Cx}{pos:Pos}
def R6(c:TT)(tb:TS):TS:=fun D a H=>∃ W:Nat->St->Hp->Prop,(∃ m,W m a H)/\∀ m a H,W m a H->
 c a H fun b e=>if b=true then ∃ N:St->Hp->Prop,(∀ d g,N d g->∃ f,f < m/\W f d g)/\tb {D with nx:=N,ct:=N,bk:=D.nx} a e else D.nx a e
theorem R7{c:Expr}{body:List Stmt}{tc:TT}{tb:TS}(hp:PassesOwn (Bu X.prog X.w) X.A X.env X.xe)(hc:PT X c tc)(hb:fW X body tb):PS X (.While c body [] pos) (R6 tc tb):=by
 intro pins s σ H D I h
 obtain⟨W,⟨m0,w0⟩,turn⟩:=h
 refine wpAny_While (codeAny_whileLoop (fun n s'=>∃ σ' H',Inv X pins σ' H' s'/\W n σ' H') ?_ m0 ⟨σ,H,I,w0⟩)
 rintro n s1 ⟨σ1,H1,I1,w1⟩
 refine He hp (a6 (hc pins s1 σ1 H1 _ I1 (turn n σ1 H1 w1)) fun b s2 ⟨H2,I2,q2⟩=>?_)
 cases b with
 | true=>
  obtain⟨N,hN,q2⟩:=q2
  rw[if_pos rfl]
  refine He hp (a6 (hb pins s2 σ1 H2 _ I2 q2) fun f s3 q3=>?_)
  cases f with
  | next=>
   obtain⟨σ3,H3,I3,n3⟩:=q3
   obtain⟨m',hm,w3⟩:=hN σ3 H3 n3
   exact⟨m',hm,σ3,H3,I3,w3⟩
  | cont=>
   obtain⟨σ3,H3,I3,n3⟩:=q3
   obtain⟨m',hm,w3⟩:=hN σ3 H3 n3
   exact⟨m',hm,σ3,H3,I3,w3⟩
  | brk=>exact q3
  | ret v=>exact q3
 | false=>
  rw[if_neg Ap]
  exact Mj ⟨σ1,H2,I2,q2⟩
end
structure It where
 go:Nat->Hp->Prop
 yld:Nat->Hp->V->Hp->Prop
 stop:Nat->Hp->Prop
def gZ(X:Cx)(a:List (Addr×Obj))(H:Hp)(b:Addr):Prop:=
 H b=none/\b≠X.env.locals/\b∉X.fs/\(b∈X.ex\/X.s₀.heap.objs.size<=b)/\(∀ x c,X.env.cells.lookup x=some c->c≠b)/\∀ p∈X.pn ++ a,p.1≠b
theorem Inv.fpOk{X:Cx}{a:List (Addr×Obj)}{i:St}{H f:Hp}{s:Ah}{b:Addr}(I:Inv X a i H s)(d:s.heap.objs.size<=b)(g:f b=none):gZ X a f b:=by
 refine⟨g,Gq (Cb I.lt d),I.nofs d,.inr (Bs I.sz d),fun x c e z=>?_,fun p h z=>?_⟩
 ·obtain⟨v,q⟩:=I.cell x c e
  exact absurd (Cb q.lt (by rw[z];exact d)) (Gx _)
 ·exact absurd (Cb (Bc (I.pin p h).1) (by rw[z];exact d)) (Gx _)
structure kF(P:Ay)(w:Bq)(K:Ac)(tg:Expr)(J:It)(fp:List Addr)(it:Addr)(tn:Nat->Heap->Prop):Prop where
 mem:it∈fp
 obj:∀ i h,tn i h->∀ b∈fp,∃ o,h.get? b=some o/\∀ v,o.data≠.cell v
 keep:∀ i h h',tn i h->(∀ b∈fp,∀ o,h.get? b=some o->h'.get? b=some o)->tn i h'
 item:∀ (X:Cx),X.prog=P->X.w=w->X.K=K->X.calm=true->∀ (i:Nat) (pins:List (Addr×Obj)) (s:Ah) (σ:St) (H:Hp) (E:Ae->Ah->Prop),Inv X pins σ H s->(∀ b∈fp,gZ X pins H b)->tn i s.heap->J.go i H->
  Bf (Bu P w) X.A (Gp (.ref it)) (fun r s1=>∃ u,r=some u/\
   Bf (Bu P w) X.A (Ml tg (.ref it) u) (fun _ s2=>∃ x H',Inv X pins σ H' s2/\RelV x u/\J.yld i H x H'/\tn (i + 1) s2.heap/\∀ b∈fp,H' b=none) E s1) E s
 done:∀ (X:Cx),X.prog=P->X.w=w->X.K=K->X.calm=true->∀ (i:Nat) (pins:List (Addr×Obj)) (s:Ah) (σ:St) (H:Hp) (E:Ae->Ah->Prop),Inv X pins σ H s->(∀ b∈fp,gZ X pins H b)->tn i s.heap->J.stop i H->
  Bf (Bu P w) X.A (Gp (.ref it)) (fun r s1=>r=none/\Inv X pins σ H s1) E s
 self:∀ (A:Cr) (i:Nat) (s:Ah) (Q:Ae->Ah->Prop) (E:Ae->Ah->Prop),tn i s.heap->Q (.ref it) s->Bf (Bu P w) A (pyIter (.ref it)) Q E s
abbrev TI:=St->Hp->(It->Hp->Prop)->Prop
def wD(X:Cx)(a:List (Addr×Obj))(h:St)(tg:Expr)(R:It->Hp->Prop)(d:Ae)(f:Ah):Prop:=
 ∃ (g:Addr) (fp:List Addr) (e:Nat->Heap->Prop) (J:It) (c:Hp),d=.ref g/\Inv X a h c f/\kF X.prog X.w X.K tg J fp g e/\e 0 f.heap/\(∀ b∈fp,gZ X a c b)/\R J c
def PI(X:Cx)(tg b:Expr)(e:TI):Prop:=
 ∀ (a:List (Addr×Obj)) (s:Ah) (c:St) (H:Hp) (R:It->Hp->Prop),Inv X a c H s->e c H R->
  Bf (Bu X.prog X.w) X.A (eval b X.env) (fun v d=>Bf (Bu X.prog X.w) X.A (pyIter v) (wD X a c tg R) X.xe d) X.xe s
theorem p5{M:Model}{A:Cr}{E:Ae->Ah->Prop}{s:Ah}{tg:Expr}{b:Addr}{u:Ae}{o:Obj}{n:String}{vs:Array Ae}{Q:Unit->Ah->Prop}(c:s.heap.get? b=some o)(hc:o.cls=.type n)(hd:o.data=.fields vs)
  (d : ["enumerate","zip","dict_itemiterator","dict_reverseitemiterator","odict_iterator","itertools.zip_longest","itertools.pairwise"].contains n=false) (a:Q () s):Bf M A (Ml tg (.ref b) u) Q E s:=by
 unfold Ml
 cases tg <;> first
  | exact Af a
  | (cases u <;> first
    | exact Af a
    | (refine Aa (wpAny_load c ?_)
       rw[hc,hd]
       show Bf M A (if (["enumerate","zip","dict_itemiterator","dict_reverseitemiterator","odict_iterator","itertools.zip_longest","itertools.pairwise"].contains n && vs[0]? == some (Ii _))=true then _ else _) Q E s
       rw[if_neg (by intro h;rw[d,Md] at h;cases h)]
       exact Af a))
def oH(K:Ac)(a:Addr):It:=
 ⟨fun i H=>∃ xs x,bF K H a xs/\xs[i]? = some x,fun i H x b=>b=H/\∀ xs,bF K H a xs->xs[i]? = some x,fun i H=>∃ xs,bF K H a xs/\xs.length<=i⟩
def wF(K:Ac)(a:Addr):It:=
 ⟨fun i H=>∃ xs x,bV K H a xs/\xs[i]? = some x,fun i H x b=>b=H/\∀ xs,bV K H a xs->xs[i]? = some x,fun i H=>∃ xs,bV K H a xs/\xs.length<=i⟩
def sJ(lo:Int)(n:Nat):It:=⟨fun i _=>i < n,fun i H x a=>a=H/\x=.int (lo + i),fun i _=>n<=i⟩
theorem R8{P:Ay}{w:Bq}{K:Ac}{tg:Expr}(a g:Addr):kF P w K tg (oH K a) [g] g (fun i h=>h.IsListIter g a i) where
 mem:=by simp
 obj:=fun i h st b j=>by
  have e:b=g:=by simpa using j
  subst e
  obtain⟨o,e,c,d⟩:=st
  exact⟨o,e,fun v z=>by rw[d] at z;cases z⟩
 keep:=fun i h h' st k=>st.at fun o e=>k g (by simp) o e
 item:=by
  intro X r hw t hc i f s F H E I hf st q
  subst r hw t
  obtain⟨xs,x,l,n⟩:=q
  obtain⟨its,D,p,hz⟩:=I.list l
  obtain⟨u,J,G⟩:=D.get n
  obtain⟨A,y,M,C,B,m⟩:=hf g (by simp)
  refine wpAny_pyNext_list_item st p.isList (x:=u) (by simpa using J) fun h' st' sb=>?_
  have N:Inv X f F H {s with heap:=h'}:=I.turned (t':=s.toks) (fun b o j e=>(sb.2 b j).trans e) A y C B m
  obtain⟨o,e,c,d⟩:=id st'
  exact⟨u,rfl,p5 (s:={s with heap:=h'}) e c d (by decide) ⟨x,H,N,G,⟨rfl,fun ys O=>by rw[I.list_inj O l];exact n⟩,st',fun b j=>(hf b j).1⟩⟩
 done:=by
  intro X r hw t hc i f s F H E I hf st q
  subst r hw t
  obtain⟨xs,l,n⟩:=q
  obtain⟨its,D,p,hz⟩:=I.list l
  obtain⟨A,y,M,C,B,m⟩:=hf g (by simp)
  have hl:=D.length
  exact wpAny_pyNext_list_end (I.ok.hd hc) st p.isList (by simp;lia) fun h' L=>⟨rfl,I.turned (t':=s.toks) (fun b o j e=>L b o j e) A y C B m⟩
 self:=fun _ _ _ _ _ st h=>wpAny_pyIter_listiter st h
theorem R9{P:Ay}{w:Bq}{K:Ac}{tg:Expr}(a g:Addr):kF P w K tg (wF K a) [g] g (fun i h=>h.IsTupleIter g a i) where
 mem:=by simp
 obj:=fun i h st b j=>by
  have e:b=g:=by simpa using j
  subst e
  obtain⟨o,e,c,d⟩:=st
  exact⟨o,e,fun v z=>by rw[d] at z;cases z⟩
 keep:=fun i h h' st k=>st.at fun o e=>k g (by simp) o e
 item:=by
  intro X r hw t hc i f s F H E I hf st q
  subst r hw t
  obtain⟨xs,x,l,n⟩:=q
  obtain⟨its,D,p,hz⟩:=I.tuple l
  obtain⟨u,J,G⟩:=D.get n
  obtain⟨A,y,M,C,B,m⟩:=hf g (by simp)
  refine wpAny_pyNext_tuple_item st (show s.heap.IsTuple a its.toArray from p) (x:=u) (by simpa using J) fun h' st' sb=>?_
  have N:Inv X f F H {s with heap:=h'}:=I.turned (t':=s.toks) (fun b o j e=>(sb.2 b j).trans e) A y C B m
  obtain⟨o,e,c,d⟩:=id st'
  exact⟨u,rfl,p5 (s:={s with heap:=h'}) e c d (by decide) ⟨x,H,N,G,⟨rfl,fun ys O=>by rw[I.tuple_inj O l];exact n⟩,st',fun b j=>(hf b j).1⟩⟩
 done:=by
  intro X r hw t hc i f s F H E I hf st q
  subst r hw t
  obtain⟨xs,l,n⟩:=q
  obtain⟨its,D,p,hz⟩:=I.tuple l
  obtain⟨A,y,M,C,B,m⟩:=hf g (by simp)
  have hl:=D.length
  exact wpAny_pyNext_tuple_end (I.ok.hd hc) st (show s.heap.IsTuple a its.toArray from p) (by simp;lia) fun h' L=>⟨rfl,I.turned (t':=s.toks) (fun b o j e=>L b o j e) A y C B m⟩
 self:=fun _ _ _ _ _ st h=>wpAny_pyIter_tupleiter st h
theorem SA{P:Ay}{w:Bq}{K:Ac}{tg:Expr}(a:Addr)(lo:Int)(n:Nat):kF P w K tg (sJ lo n) [a] a (fun i h=>IsRangeIter h a (lo + (i:Nat) * 1) ((n:Int) - (i:Nat)) 1) where
 mem:=by simp
 obj:=fun i h st b d=>by
  have e:b=a:=by simpa using d
  subst e
  exact⟨_,st,fun v z=>by
   have C:Data.fields _=Data.cell v:=z
   cases C⟩
 keep:=fun i h h' st k=>k a (by simp) _ st
 item:=by
  intro X j hw l hc i c s u H E I hf st g
  subst j hw l
  obtain⟨p,m,y,r,q,f⟩:=hf a (by simp)
  have W:=Walks.range (prog:=X.prog) (w:=X.w) (I.ok.hd hc) a lo 1 n
  refine W.item i s _ _ g st fun v h' tk A st' B=>?_
  obtain⟨t,rfl⟩:=A
  have D:Inv X c u H {s with heap:=h',toks:=tk}:=I.turned (fun b o d e=>B b o (by simpa using d) e) p m r q f
  refine⟨_,rfl,p5 (s:={s with heap:=h',toks:=tk}) (n:="range_iterator") st' rfl rfl (by decide) ⟨.int (lo + i),H,D,⟨t,?_⟩,⟨rfl,rfl⟩,st',fun b d=>(hf b d).1⟩⟩
  rw[Int.mul_one]
 done:=by
  intro X j hw l hc i c s u H E I hf st g
  subst j hw l
  obtain⟨p,m,y,r,q,f⟩:=hf a (by simp)
  exact wpAny_pyNext_range_end (I.ok.hd hc) st (by have:n<=i:=g;lia) fun h' x=>⟨rfl,I.turned (t':=s.toks) (fun b o d e=>x b o d e) p m r q f⟩
 self:=fun _ _ _ _ _ st h=>wpAny_pyIter_rangeiter st h
section
variable {X:Cx}{tg:Expr}
theorem SD{a:List (Addr×Obj)}{c:St}{H:Hp}{s:Ah}{R:It->Hp->Prop}{E:Ae->Ah->Prop}{lo hi:Int}{t u v:Tok}{tk:Nat}(I:Inv X a c H s)(g : -(2 ^ 62)<=lo)(k:lo < 2 ^ 62)(h : -(2 ^ 62)<=hi)(j:hi < 2 ^ 62)
  (q:R (sJ lo (hi - lo).toNat) H):Bf (Bu X.prog X.w) X.A (pyIter (.ref s.heap.objs.size)) (wD X a c tg R) E {s with heap:=s.heap.push {cls:=.type "range",data:=.fields #[.int lo t,.int hi u,.int 1 v]},toks:=tk}:=by
 refine wpAny_pyIter_range (IsRange.new ..) (small_one g k h j) ?_
 have d:Inv X a c H {s with heap:=s.heap.push {cls:=.type "range",data:=.fields #[.int lo t,.int hi u,.int 1 v]},toks:=tk}:=I.kept fun b o e=>Ag _ e
 refine⟨(s.heap.push {cls:=.type "range",data:=.fields #[.int lo t,.int hi u,.int 1 v]}).objs.size,[(s.heap.push {cls:=.type "range",data:=.fields #[.int lo t,.int hi u,.int 1 v]}).objs.size],_,_,H,rfl,
  d.kept (t':=tk) fun b o e=>Ag _ e,SA _ lo (hi - lo).toNat,?_,fun b f=>?_,q⟩
 ·have i:lo + ((0:Nat):Int) * 1=lo:=by simp
  have l:(((hi - lo).toNat:Nat):Int) - ((0:Nat):Int)=Hl lo hi 1:=by rw[rangeSize_one];split <;> lia
  show IsRangeIter _ _ (lo + ((0:Nat):Int) * 1) ((((hi - lo).toNat:Nat):Int) - ((0:Nat):Int)) 1
  rw[i,l]
  exact Ar _ rfl
 ·have e:b=(s.heap.push {cls:=.type "range",data:=.fields #[.int lo t,.int hi u,.int 1 v]}).objs.size:=by simpa using f
  subst e
  exact d.fpOk (Aj _) (d.hok.fresh (Aj _))
def SE(ta:TA):TI:=fun a H R=>ta a H fun vs b=>∃ j:Int,vs=[.int j]/\-(2 ^ 62)<=j/\j < 2 ^ 62/\R (sJ 0 j.toNat) b
theorem SF{a:Expr}{ta:TA}{p pos:Pos}(k:Gl X "range")(i:X.mg "range" = none)(n:PA X [a] ta)(o:Bl [a] X.env=[(false,eval a X.env)]:=by rfl):PI X tg (.Call (.Name "range" p) [a] [] pos) (SE ta):=by
 intro b s l H R I h
 refine Call_ (mG I k i boot_range (El (a6 (n pos b s l H _ I h) fun us v ⟨vs,u,m,g,c⟩=>?_) o rfl))
 obtain⟨j,e,c,d,q⟩:=c
 subst e
 cases g with
 | cons r f=>
  cases f
  obtain⟨t,rfl⟩:=r
  exact call_range_1 (SD m (by lia) (by lia) c d (by simpa using q))
def SG(j:TI)(g:TG)(tb:TS):TS:=fun D a H=>j a H fun J f=>∃ W:Nat->Nat->St->Hp->Prop,(∃ m,W 0 m a f)/\∀ i m a H,W i m a H->
 (J.stop i H/\D.nx a H)\/(J.go i H/\∃ N:St->Hp->Prop,(∀ c b,N c b->∃ e,e < m/\W (i + 1) e c b)/\∀ x b,J.yld i H x b->g x a b fun d h=>tb {D with nx:=N,ct:=N,bk:=D.nx} d h)
def p6(fp:List Addr)(h:Heap):List (Addr×Obj):=fp.filterMap fun b=>(h.get? b).map fun o=>(b,o)
theorem sL{fp:List Addr}{h:Heap}{b:Addr}{o:Obj}(a:b∈fp)(e:h.get? b=some o):(b,o)∈p6 fp h:=List.mem_filterMap.mpr ⟨b,a,by rw[e];rfl⟩
theorem SH{fp:List Addr}{h:Heap}{p:Addr×Obj}(c:p∈p6 fp h):p.1∈fp/\h.get? p.1=some p.2:=by
 obtain⟨b,a,e⟩:=List.mem_filterMap.mp c
 cases q:h.get? b with
 | none=>rw[q] at e;cases e
 | some o=>
  rw[q] at e
  have d:(b,o)=p:=Cp e
  subst d
  exact⟨a,q⟩
theorem Inv.pinned{a:List (Addr×Obj)}{f:St}{H:Hp}{s:Ah}{fp:List Addr}(I:Inv X a f H s)(hf:∀ b∈fp,gZ X a H b)(i:∀ b∈fp,∃ o,s.heap.get? b=some o/\∀ v,o.data≠.cell v):Inv X (a ++ p6 fp s.heap) f H s:=
 I.pins_of fun p j=>(Bh.mp j).elim (fun z=>I.pin p (Ck _ z)) fun z=>by
  obtain⟨c,e⟩:=SH z
  obtain⟨k,l,h,_⟩:=hf p.1 c
  obtain⟨o,g,d⟩:=i p.1 c
  rw[e] at g;cases g
  exact⟨e,k,l,h,d⟩
theorem Inv.unpinned{a pl:List (Addr×Obj)}{b:St}{H:Hp}{s:Ah}(I:Inv X (a ++ pl) b H s):Inv X a b H s:=I.pins_of fun p c=>I.pin p (Ck _ (Co _ c))
theorem SI{j:Expr}{C:List Stmt}{wi:TI}{g:TG}{tb:TS}{pos:Pos}(O:PassesOwn (Bu X.prog X.w) X.A X.env X.xe)(hc:X.calm=true)(hi:PI X tg j wi)(hg:PG X tg g)(y:fW X C tb)
  (hs:∀ x,Fd j X.env x=pure x:=by intro _;rfl):PS X (.For tg j C [] pos) (SG wi g tb):=by
 intro c s σ H D I h
 refine wpAny_For (a6 (hi c s σ H _ I h) fun v s1 h1=>a6 h1 fun itv s2 h2=>?_) hs
 obtain⟨it,fp,tn,J,H2,e,I2,T,S,f2,W,⟨m0,w0⟩,G⟩:=h2
 subst e
 have l:∀ {B:Hp},(∀ b∈fp,B b=none)->∀ b∈fp,gZ X c B b:=fun hn b y=>⟨hn b y,(f2 b y).2⟩
 refine codeAny_forLoop_any (fun n Z=>∃ i t B,Inv X c t B Z/\tn i Z.heap/\(∀ b∈fp,B b=none)/\W i n t B) ?_ m0 ⟨0,σ,H2,I2,S,fun b y=>(f2 b y).1,w0⟩
 rintro n Y ⟨i,k,P,I3,L,K,w3⟩
 rcases G i n k P w3 with⟨stop,qn⟩ | ⟨go,N,hN,step⟩
 ·refine He O (a6 (T.done X rfl rfl rfl hc i c Y k P X.xe I3 (l K) L stop) fun r s4 ⟨hr,I4⟩=>?_)
  subst hr
  exact Mj ⟨k,P,I4,qn⟩
 ·refine He O (a6 (T.item X rfl rfl rfl hc i c Y k P X.xe I3 (l K) L go) fun r s4 ⟨u,hr,h4⟩=>?_)
  subst hr
  refine He O (a6 h4 fun _ s5 ⟨x,H5,I5,r5,y5,F,R⟩=>?_)
  have Q:=I5.pinned (l R) (T.obj _ _ F)
  refine He O (a6 (hg _ s5 k H5 x u _ Q r5 (step x H5 y5)) fun _ s6 ⟨V,H6,I6,q6⟩=>?_)
  refine He O (a6 (y _ s6 V H6 _ I6 q6) fun f U E=>?_)
  have p:∀ {a:St} {z:Hp},Inv X (c ++ p6 fp s5.heap) a z U->N a z->∃ m,m < n/\∃ i t B,Inv X c t B U/\tn i U.heap/\(∀ b∈fp,B b=none)/\W i m t B:=fun {a z} q M=>by
   obtain⟨m',hm,w7⟩:=hN a z M
   refine⟨m',hm,i + 1,a,z,q.unpinned,T.keep _ _ _ F fun b y o e=>(q.pin (b,o) (Ck _ (Ck _ (sL y e)))).1,fun b y=>?_,w7⟩
   obtain⟨o,e,d⟩:=T.obj _ _ F b y
   exact(q.pin (b,o) (Ck _ (Ck _ (sL y e)))).2.1
  cases f with
  | next=>obtain⟨a,z,q,M⟩:=E;exact p q M
  | cont=>obtain⟨a,z,q,M⟩:=E;exact p q M
  | brk=>obtain⟨a,z,q,E⟩:=E;exact⟨a,z,q.unpinned,E⟩
  | ret v=>obtain⟨x7,a,z,q,r7,E⟩:=E;exact⟨x7,a,z,q.unpinned,r7,E⟩
end
abbrev R2:=V->V->Hp->VK->Prop
def a8(X:Cx)(f:Ae->Ae->Sem Ae)(r:R2):Prop:=
 ∀ (a:List (Addr×Obj)) (s:Ah) (b:St) (H:Hp) (x y:V) (v u:Ae) (Q:VK),Inv X a b H s->RelV x v->RelV y u->r x y H Q->
  Bf (Bu X.prog X.w) X.A (f v u) (EP X a b Q) X.xe s
def p7(X:Cx)(f:Ae->Sem Ae)(r:V->Hp->VK->Prop):Prop:=
 ∀ (a:List (Addr×Obj)) (s:Ah) (b:St) (H:Hp) (x:V) (v:Ae) (Q:VK),Inv X a b H s->RelV x v->r x H Q->
  Bf (Bu X.prog X.w) X.A (f v) (EP X a b Q) X.xe s
def cN(X:Cx)(f:Ae)(r:List V->Hp->VK->Prop):Prop:=
 ∀ (a:List (Addr×Obj)) (s:Ah) (b:St) (H:Hp) (xs:List V) (us:List Ae) (Q:VK),Inv X a b H s->aZ xs us->r xs H Q->
  Bf (Bu X.prog X.w) X.A (call f us) (EP X a b Q) X.xe s
def SJ(X:Cx)(r:V->Hp->(Bool->Hp->Prop)->Prop):Prop:=
 ∀ (a:List (Addr×Obj)) (s:Ah) (b:St) (H:Hp) (x:V) (v:Ae) (Q:Bool->Hp->Prop),Inv X a b H s->RelV x v->r x H Q->
  Bf (Bu X.prog X.w) X.A (truthy v) (TP X a b Q) X.xe s
def p8(r:R2)(ta tb:TE):TE:=fun a H Q=>ta a H fun x b=>tb a b fun y c=>r x y c Q
def SM(r:V->Hp->VK->Prop)(ta:TE):TE:=fun a H Q=>ta a H fun x b=>r x b Q
def rI(C:Int->Int->Prop)(g:Int->Int->V):R2:=fun x y H Q=>∃ i j,x=.int i/\y=.int j/\C i j/\Q (g i j) H
def kG(g:Int->Int->V):R2:=fun x y H Q=>∃ i j,x=.int i/\y=.int j/\Q (g i j) H
def rU(g:Int->V):V->Hp->VK->Prop:=fun x H Q=>∃ i,x=.int i/\Q (g i) H
section
variable {X:Cx}{a b c:Expr}{ta tb tc:TE}{pos:Pos}
theorem wH(r:PE X a ta)(m:PE X b tb){c:List (Addr×Obj)}{s:Ah}{d:St}{H:Hp}{R:V->V->Hp->Prop}(I:Inv X c d H s)
  (h:ta d H fun x k=>tb d k fun y e=>R x y e) {Q:Ae->Ah->Prop} {f:Ae->Ae->Sem Ae}
  (hf:∀ v u j x y e,Inv X c d e j->RelV x v->RelV y u->R x y e->Bf (Bu X.prog X.w) X.A (f v u) Q X.xe j) :
  Bf (Bu X.prog X.w) X.A (eval a X.env) (fun v g=>Bf (Bu X.prog X.w) X.A (eval b X.env) (fun u i=>Bf (Bu X.prog X.w) X.A (f v u) Q X.xe i) X.xe g) X.xe s:=by
 refine a6 (r c s d H _ I h) fun v o ⟨x,k,q,n,t⟩=>?_
 refine a6 (m c o d k _ q t) fun u j ⟨y,e,p,z,l⟩=>?_
 exact hf v u j x y e p n z l
theorem SN{op:Operator}{r:R2}(e:a8 X (Dl op) r)(m:PE X a ta)(f:PE X b tb):PE X (.BinOp a op b pos) (p8 r ta tb):=by
 intro c s k H Q I h
 exact wpAny_BinOp (wH m f I h fun v u i x y l j g d q=>e c i k l x y v u Q j g d q)
theorem SO{op:UnaryOp}{r:V->Hp->VK->Prop}(d:p7 X (unaryOp op) r)(k:PE X a ta):PE X (.UnaryOp op a pos) (SM r ta):=by
 intro b s c H Q I h
 exact UnaryOp_ (a6 (k b s c H _ I h) fun v g ⟨x,f,i,j,e⟩=>d b g c f x v Q i j e)
theorem oI{f:Ae->Ae->Sem Ae}{C:Int->Int->Prop}{g:Int->Int->Int}
  (rule:∀ (i j:Int) (t u:Tok) (s:Ah) (Q:Ae->Ah->Prop) (E:Ae->Ah->Prop),C i j->Q (.int (g i j) s.toks) {s with toks:=s.toks + 1}->Bf (Bu X.prog X.w) X.A (f (.int i t) (.int j u)) Q E s) :
  a8 X f (rI C fun i j=>.int (g i j)):=by
 intro a s d H x y v u Q I c b h
 obtain⟨i,j,rfl,rfl,hc,q⟩:=h
 obtain⟨t,rfl⟩:=c
 obtain⟨t',rfl⟩:=b
 exact rule i j t t' s _ _ hc ⟨.int (g i j),H,I.tok _,⟨_,rfl⟩,q⟩
theorem wI{f:Ae->Ae->Sem Ae}{g:Int->Int->Int}
  (rule:∀ (i j:Int) (t u:Tok) (s:Ah) (Q:Ae->Ah->Prop) (E:Ae->Ah->Prop),Q (.int (g i j) s.toks) {s with toks:=s.toks + 1}->Bf (Bu X.prog X.w) X.A (f (.int i t) (.int j u)) Q E s) :
  a8 X f (kG fun i j=>.int (g i j)):=by
 intro a s d H x y v u Q I c b h
 obtain⟨i,j,rfl,rfl,q⟩:=h
 obtain⟨t,rfl⟩:=c
 obtain⟨t',rfl⟩:=b
 exact rule i j t t' s _ _ ⟨.int (g i j),H,I.tok _,⟨_,rfl⟩,q⟩
theorem sM{f:Ae->Ae->Sem Ae}{g:Int->Int->Bool}
  (rule:∀ (i j:Int) (t u:Tok) (s:Ah) (Q:Ae->Ah->Prop) (E:Ae->Ah->Prop),Q (.bool (g i j)) s->Bf (Bu X.prog X.w) X.A (f (.int i t) (.int j u)) Q E s) :
  a8 X f (kG fun i j=>.bl (g i j)):=by
 intro a s d H x y v u Q I c b h
 obtain⟨i,j,rfl,rfl,q⟩:=h
 obtain⟨t,rfl⟩:=c
 obtain⟨t',rfl⟩:=b
 exact rule i j t t' s _ _ ⟨.bl (g i j),H,I,rfl,q⟩
def FG(i j:Int):Prop:=0<=j/\j<=1000000/\i.natAbs < 2 ^ 64
def mH(i j:Int):Prop:=(-(2 ^ 64) < i/\i < 2 ^ 64)\/(-(2 ^ 64) < j/\j < 2 ^ 64)
theorem mH.ok{i j:Int}(h:mH i j):IntMulOk i j:=by
 rcases h with⟨a,b⟩ | ⟨a,b⟩
 ·exact .of_left (intBits_le_64 a b)
 ·exact .of_right (intBits_le_64 a b)
theorem SQ(k:Nat):(0:Int)<=2 ^ k:=by
 rw[two_pow_cast]
 exact Int.natCast_nonneg _
theorem SU:a8 X (Dl .Add) (kG fun i j=>.int (i + j)):=wI fun _ _ _ _ _ _ _ q=>add_int q
theorem SW:a8 X (Dl .Sub) (kG fun i j=>.int (i - j)):=wI fun _ _ _ _ _ _ _ q=>sub_int q
theorem SX:a8 X (Dl .Mult) (rI mH fun i j=>.int (i * j)):=oI fun _ _ _ _ _ _ _ hc q=>mul_int q hc.ok
theorem SY:a8 X (Dl .Mod) (rI (fun _ j=>0 < j) fun i j=>.int (i % j)):=oI fun i j _ _ _ _ _ hc q=>by
 have a:(0:Int) < j:=hc
 exact mod_int' (by lia) (by rw[Int.fmod_eq_emod_of_nonneg i (by lia)];exact q)
theorem S4:a8 X (Dl .Pow) (rI FG fun i j=>.int (i ^ j.toNat)):=oI fun _ _ _ _ _ _ _ hc q=>pow_int_small hc.1 hc.2.1 hc.2.2 q
theorem S5:a8 X (Dl .RShift) (rI (fun _ j=>0<=j) fun i j=>.int (i / 2 ^ j.toNat)):=oI fun i j _ _ _ _ _ hc q=>
 rshift_int hc (by rw[Int.fdiv_eq_ediv_of_nonneg i (SQ _)];exact q)
theorem S6:a8 X (Dl .BitAnd) (kG fun i j=>.int (Builtin.bitAnd i j)):=wI fun _ _ _ _ _ _ _ q=>and_int q
theorem S7{f:Ae->Sem Ae}{g:Int->Int}
  (rule:∀ (i:Int) (t:Tok) (s:Ah) (Q:Ae->Ah->Prop) (E:Ae->Ah->Prop),Q (.int (g i) s.toks) {s with toks:=s.toks + 1}->Bf (Bu X.prog X.w) X.A (f (.int i t)) Q E s) :
  p7 X f (rU fun i=>.int (g i)):=by
 intro a s c H x v Q I b h
 obtain⟨i,rfl,q⟩:=h
 obtain⟨t,rfl⟩:=b
 exact rule i t s _ _ ⟨.int (g i),H,I.tok _,⟨_,rfl⟩,q⟩
theorem S8:p7 X (unaryOp .USub) (rU fun i=>.int (-i)):=S7 fun _ _ _ _ _ q=>neg_int q
end
def sN:V->V->Bool
 | .non,.non=>true | .non,.int _=>true | .int _,.non=>true | .non,.bl _=>true | .bl _,.non=>true | .non,.str _=>true | .str _,.non=>true
 | .int _,.int _=>true | .bl _,.bl _=>true | .str _,.str _=>true | .byt _,.byt _=>true
 | .int _,.str _=>true | .str _,.int _=>true | .bl _,.str _=>true | .str _,.bl _=>true
 | _,_=>false
def rEq:R2:=fun x y H Q=>sN x y=true/\Q (.bl (decide (x=y))) H
def S9:R2:=fun x y H Q=>sN x y=true/\Q (.bl (!decide (x=y))) H
theorem FH{i j:Int}:decide (V.int i=V.int j)=(i == j):=by
 rw[Ef]
 simp
theorem FI{i j:Bool}:decide (V.bl i=V.bl j)=(i == j):=by
 rw[Ef]
 simp
theorem FJ{i j:Str}:decide (V.str i=V.str j)=(i == j):=by
 rw[Ef]
 simp
theorem FK{i j:Array UInt8}:decide (V.byt i=V.byt j)=(i.toList == j.toList):=by
 rw[Ef]
 cases i
 cases j
 simp
section
variable {X:Cx}{a b c:Expr}{ta tb tc:TE}{pos:Pos}
theorem dA{a:List (Addr×Obj)}{c:St}{H:Hp}{s:Ah}{Q:VK}{k b:Bool}(I:Inv X a c H s)(q:Q (.bl k) H)(e:k=b):EP X a c Q (.bool b) s:=by
 subst e
 exact⟨.bl k,H,I,rfl,q⟩
theorem TB:a8 X (Cf .Eq) rEq:=by
 intro pins s σ H x y v u Q I rx ry h
 obtain⟨hs,q⟩:=h
 cases x with
 | non=>
  cases rx
  cases y with
  | non=>cases ry;exact PySem.EqNone.eq_none_none (dA I q (by simp))
  | bl j=>cases ry;exact PySem.EqNone.eq_none_bool (dA I q (by simp))
  | int j=>obtain⟨t',rfl⟩:=ry;exact PySem.EqNone.eq_none_int (dA I q (by simp))
  | str j=>obtain⟨t',rfl⟩:=ry;exact PySem.EqNone.eq_none_str (dA I q (by simp))
  | _=>exact absurd (show false=true from hs) Ap
 | bl i=>
  cases rx
  cases y with
  | non=>cases ry;exact PySem.EqNone.eq_bool_none (dA I q (by simp))
  | bl j=>cases ry;exact eq_bool (dA I q FI)
  | str j=>obtain⟨t',rfl⟩:=ry;exact PySem.EqMixed.eq_bool_str (dA I q (by simp))
  | _=>exact absurd (show false=true from hs) Ap
 | int i=>
  obtain⟨t,rfl⟩:=rx
  cases y with
  | non=>cases ry;exact PySem.EqNone.eq_int_none (dA I q (by simp))
  | int j=>obtain⟨t',rfl⟩:=ry;exact eq_int (dA I q FH)
  | str j=>obtain⟨t',rfl⟩:=ry;exact PySem.EqMixed.eq_int_str (dA I q (by simp))
  | _=>exact absurd (show false=true from hs) Ap
 | str i=>
  obtain⟨t,rfl⟩:=rx
  cases y with
  | non=>cases ry;exact PySem.EqNone.eq_str_none (dA I q (by simp))
  | bl j=>cases ry;exact PySem.EqMixed.eq_str_bool (dA I q (by simp))
  | int j=>obtain⟨t',rfl⟩:=ry;exact PySem.EqMixed.eq_str_int (dA I q (by simp))
  | str j=>obtain⟨t',rfl⟩:=ry;exact eq_str (dA I q FJ)
  | _=>exact absurd (show false=true from hs) Ap
 | byt i=>
  obtain⟨t,rfl⟩:=rx
  cases y with
  | byt j=>obtain⟨t',rfl⟩:=ry;exact PySem.W.eq_bytes (dA I q FK)
  | _=>exact absurd (show false=true from hs) Ap
 | _=>cases y <;> exact absurd (show false=true from hs) Ap
theorem TC:a8 X (Cf .NotEq) S9:=by
 intro pins s σ H x y v u Q I rx ry h
 obtain⟨hs,q⟩:=h
 cases x with
 | non=>
  cases rx
  cases y with
  | non=>cases ry;exact PySem.EqNone.ne_none_none (dA I q (by simp))
  | bl j=>cases ry;exact PySem.EqNone.ne_none_bool (dA I q (by simp))
  | int j=>obtain⟨t',rfl⟩:=ry;exact PySem.EqNone.ne_none_int (dA I q (by simp))
  | str j=>obtain⟨t',rfl⟩:=ry;exact PySem.EqNone.ne_none_str (dA I q (by simp))
  | _=>exact absurd (show false=true from hs) Ap
 | bl i=>
  cases rx
  cases y with
  | non=>cases ry;exact PySem.EqNone.ne_bool_none (dA I q (by simp))
  | bl j=>cases ry;exact ne_bool (dA I q (congrArg not FI))
  | str j=>obtain⟨t',rfl⟩:=ry;exact PySem.EqMixed.ne_bool_str (dA I q (by simp))
  | _=>exact absurd (show false=true from hs) Ap
 | int i=>
  obtain⟨t,rfl⟩:=rx
  cases y with
  | non=>cases ry;exact PySem.EqNone.ne_int_none (dA I q (by simp))
  | int j=>obtain⟨t',rfl⟩:=ry;exact ne_int (dA I q (congrArg not FH))
  | str j=>obtain⟨t',rfl⟩:=ry;exact PySem.EqMixed.ne_int_str (dA I q (by simp))
  | _=>exact absurd (show false=true from hs) Ap
 | str i=>
  obtain⟨t,rfl⟩:=rx
  cases y with
  | non=>cases ry;exact PySem.EqNone.ne_str_none (dA I q (by simp))
  | bl j=>cases ry;exact PySem.EqMixed.ne_str_bool (dA I q (by simp))
  | int j=>obtain⟨t',rfl⟩:=ry;exact PySem.EqMixed.ne_str_int (dA I q (by simp))
  | str j=>obtain⟨t',rfl⟩:=ry;exact ne_str (dA I q (congrArg not FJ))
  | _=>exact absurd (show false=true from hs) Ap
 | byt i=>
  obtain⟨t,rfl⟩:=rx
  cases y with
  | byt j=>obtain⟨t',rfl⟩:=ry;exact PySem.W.ne_bytes (dA I q (congrArg not FK))
  | _=>exact absurd (show false=true from hs) Ap
 | _=>cases y <;> exact absurd (show false=true from hs) Ap
theorem TF:a8 X (Cf .Lt) (kG fun i j=>.bl (decide (i < j))):=sM fun _ _ _ _ _ _ _ q=>lt_int q
theorem TH:a8 X (Cf .LtE) (kG fun i j=>.bl (decide (i<=j))):=sM fun _ _ _ _ _ _ _ q=>le_int q
theorem TJ:a8 X (Cf .Gt) (kG fun i j=>.bl (decide (j < i))):=sM fun _ _ _ _ _ _ _ q=>gt_int q
theorem TL:a8 X (Cf .GtE) (kG fun i j=>.bl (decide (j<=i))):=sM fun _ _ _ _ _ _ _ q=>ge_int q
theorem TM:a8 X (Cf .In) (fun x y H Q=>∃ i j,x=.str i/\y=.str j/\Q (.bl (!(Hs j i 0 j.length 1).isEmpty)) H):=by
 intro a s d H x y v u Q I c b h
 obtain⟨i,j,rfl,rfl,q⟩:=h
 obtain⟨t,rfl⟩:=c
 obtain⟨t',rfl⟩:=b
 exact in_str (dA I q rfl)
theorem TN:a8 X (Cf .NotIn) (fun x y H Q=>∃ i j,x=.str i/\y=.str j/\Q (.bl (!(!(Hs j i 0 j.length 1).isEmpty))) H):=by
 intro a s d H x y v u Q I c b h
 obtain⟨i,j,rfl,rfl,q⟩:=h
 obtain⟨t,rfl⟩:=c
 obtain⟨t',rfl⟩:=b
 exact notIn_str (dA I q rfl)
theorem a8.or{f:Ae->Ae->Sem Ae}{r e:R2}(h:a8 X f r)(h':a8 X f e):a8 X f (fun x y H Q=>r x y H Q\/e x y H Q):=by
 intro a s d H x y v u Q I c b q
 rcases q with q | q
 ·exact h a s d H x y v u Q I c b q
 ·exact h' a s d H x y v u Q I c b q
theorem FL(b:Expr){op:CmpOp}(h:op≠.In:=by decide)(c:op≠.NotIn:=by decide):Hh op b=false:=by
 have a:(op == CmpOp.In)=false:=by cases op <;> first | rfl | exact absurd rfl h
 have d:(op == CmpOp.NotIn)=false:=by cases op <;> first | rfl | exact absurd rfl c
 cases b <;> simp[Hh,a,d]
theorem TQ{op:CmpOp}{r:R2}(e:a8 X (Cf op) r)(n:PE X a ta)(f:PE X b tb)(m:Hh op b=false):PE X (.Compare a [op] [b] pos) (p8 r ta tb):=by
 intro c s l H Q I h
 exact wpAny_Compare1 (wH n f I h fun v u i x y j k g d q=>e c i l j x y v u Q k g d q) m
def FN(t:TE):TT:=fun b H Q=>t b H fun x a=>∃ k,x=.bl k/\Q k a
theorem TR{op:CmpOp}{r:R2}(p:a8 X (Cf op) r)(o:PE X a ta)(C:PE X b tb)(l:Hh op b=false):PT X (.Compare a [op] [b] pos) (FN (p8 r ta tb)):=by
 intro d s f H Q I h
 refine wpAny_isTrue_Compare1 (a6 (o d s f H _ I h) fun v g ⟨x,D,t,w,i⟩=>a6 (C d g f D _ t i) fun u E ⟨y,G,q,A,j⟩=>
  a6 (p d E f G x y v u _ q w A j) fun c J ⟨z,F,m,n,k,e,B⟩=>?_) l
 subst e
 cases n
 exact Fp ⟨F,m,B⟩
def FO(r g:R2)(ta tb tc:TE):TE:=fun a H Q=>ta a H fun x c=>tb a c fun y f=>r x y f fun z b=>∃ k,z=.bl k/\
 (if k=true then tc a b fun d e=>g y d e Q else Q (.bl false) b)
theorem TU{op g:CmpOp}{r p:R2}(O:a8 X (Cf op) r)(j:a8 X (Cf g) p)(M:PE X a ta)(Z:PE X b tb)(hc:PE X c tc)
  (J:lastMarks [op,g] [b,c]=false:=by with_unfolding_all rfl):PT X (.Compare a [op,g] [b,c] pos) (FN (FO r p ta tb tc)):=by
 intro f s i H Q I h
 refine isTrue_chain (a6 (M f s i H _ I h) fun v A ⟨x,H1,V,W,B⟩=>test_link (a6 (Z f A i H1 _ V B) fun u s2 ⟨y,H2,T,m,D⟩=>
  a6 (O f s2 i H2 x y v u _ T W m D) fun d E ⟨z,o,l,L,k,e,n⟩=>?_)) J
 subst e
 cases L
 refine Fp ?_
 cases k with
 | false=>
  obtain⟨k',K,G⟩:=n
  cases K
  exact ite_ff ⟨o,l,G⟩
 | true=>
  refine ite_tt (test_last (a6 (hc f E i o _ l n) fun S C ⟨U,t,R,q,Y⟩=>a6 (j f C i t y U u S _ R m q Y) fun d' s5 ⟨z2,H5,w,P,k2,N,F⟩=>?_))
  subst N
  cases P
  exact Fp ⟨H5,w,F⟩
def FP(K:Ac)(x:V)(H:Hp)(k:Bool):Prop:=
 match x with
 | .non=>k=false
 | .bl b=>k=b
 | .int i=>k=(i != 0)
 | .str y=>y.length<=Ai/\k=((y.length:Int) != 0)
 | .byt y=>y.size<=Ai/\k=((y.size:Int) != 0)
 | .ref p=>(∃ xs,bF K H p xs/\k = !xs.isEmpty)\/(∃ xs,bV K H p xs/\k = !xs.isEmpty)\/∃ kvs,H p=some (.dK kvs)/\k = !kvs.isEmpty
 | _=>False
theorem TV{κ:Type}{kvs:List (κ×V)}{vs:List (κ×Ae)}(r:KV kvs vs):(!vs.isEmpty) = !kvs.isEmpty:=by
 cases r <;> rfl
theorem FQ{xs:List V}{its:List Ae}(r:aZ xs its):(!its.toArray.isEmpty) = !xs.isEmpty:=by
 cases r <;> simp
theorem lG:(Ai:Nat) < 2 ^ 63:=by rw[Ji];decide
theorem TX:SJ X (fun x H Q=>∃ k,FP X.K x H k/\Q k H):=by
 intro pins s σ H x v Q I rx h
 obtain⟨k,e,q⟩:=h
 have hl:=lG
 have hs:Ai=16777216:=Ji
 cases x with
 | non=>
  cases rx
  have e':k=false:=e
  subst e'
  exact truthy_none ⟨H,I,q⟩
 | bl b=>
  cases rx
  have e':k=b:=e
  subst e'
  exact Fp ⟨H,I,q⟩
 | int i=>
  obtain⟨t,rfl⟩:=rx
  have e':k=(i != 0):=e
  subst e'
  exact PySem.P.truthy_int ⟨H,I,q⟩
 | str y=>
  obtain⟨t,rfl⟩:=rx
  obtain⟨hy,e'⟩:y.length<=Ai/\k=((y.length:Int) != 0):=e
  subst e'
  exact PySem.P.truthy_str (by lia) ⟨H,I.tok _,q⟩
 | byt y=>
  obtain⟨t,rfl⟩:=rx
  obtain⟨hy,e'⟩:y.size<=Ai/\k=((y.size:Int) != 0):=e
  subst e'
  exact PySem.W.truthy_bytes (by lia) ⟨H,I.tok _,q⟩
 | ref p=>
  cases rx
  have e':(∃ xs,bF X.K H p xs/\k = !xs.isEmpty)\/(∃ xs,bV X.K H p xs/\k = !xs.isEmpty)\/∃ kvs,H p=some (.dK kvs)/\k = !kvs.isEmpty:=e
  rcases e' with⟨xs,hx,e'⟩ | ⟨xs,hx,e'⟩ | ⟨kvs,hx,e'⟩
  ·subst e'
   obtain⟨its,r,pl,hz⟩:=I.list hx
   have hlen:=r.length
   exact wpAny_truthy_list pl.isList (by simp only[Az];lia) ⟨H,I.tok _,by rw[FQ r];exact q⟩
  ·subst e'
   obtain⟨its,r,pl,hz⟩:=I.tuple hx
   have hlen:=r.length
   exact truthy_tuple pl (by simp only[Az];lia) ⟨H,I.tok _,by rw[FQ r];exact q⟩
  ·subst e'
   obtain⟨hz,hS,vs,r,m⟩:kvs.length<=Ai/\(p == Eg)=false/\∃ vs,KV kvs vs/\s.heap.DictOf (bH X.prog X.w) p vs:=I.hok p _ hx
   have hlen:kvs.length=vs.length:=Cu r
   exact wpAny_truthy_dict hS m (by lia) ⟨H,I.tok _,by rw[TV r];exact q⟩
 | _=>exact(show False from e).elim
theorem TY(m:PE X a ta)(f:∀ b,isTrue a X.env b=(do let v <-b;My a.pos;Hr [v] (truthy v))) :
  PT X a (fun d H Q=>ta d H fun x e=>∃ k,FP X.K x e k/\Q k e):=by
 intro c s d H Q I h
 exact isTrue_plain (a6 (m c s d H _ I h) fun v j ⟨x,i,l,g,n⟩=>TX c j d i x v Q l g n) (f _)
theorem TZ:a8 X (Dl .Add) (fun x y H Q=>∃ i j,x=.str i/\y=.str j/\i.length + j.length<=Ai/\Q (.str (i ++ j)) H):=by
 intro a s d H x y v u Q I c b h
 obtain⟨i,j,rfl,rfl,hz,q⟩:=h
 obtain⟨t,rfl⟩:=c
 obtain⟨t',rfl⟩:=b
 exact add_str (fun t' tk=>⟨.str (i ++ j),H,I.tok _,⟨_,rfl⟩,q⟩) hz
theorem vals1{x:V}{us:List Ae}(r:aZ [x] us):∃ u,us=[u]/\RelV x u:=by
 cases r with
 | cons a b=>cases b;exact⟨_,rfl,a⟩
theorem vals2{x y:V}{us:List Ae}(r:aZ [x,y] us):∃ u a,us=[u,a]/\RelV x u/\RelV y a:=by
 cases r with
 | cons d e=>
  cases e with
  | cons c b=>cases b;exact⟨_,_,rfl,d,c⟩
theorem T1:cN X (.type "str") (fun xs H Q=>∃ i,xs=[.int i]/\i.natAbs.log2 < 1920/\Q (.str (toString i)) H):=by
 intro a s b H xs us Q I r h
 obtain⟨i,rfl,hz,q⟩:=h
 obtain⟨u,rfl,t,rfl⟩:=vals1 r
 exact PySem.P.str_of_int hz ⟨.str _,H,I.tok _,⟨_,rfl⟩,q⟩
end
structure nB(h:Heap)(x dx C:Addr)(mA:Str->Option Ae):Prop where
 obj:h.get? x=some (Fy C dx)
 ns:h.Ns1 dx mA
 ne:dx≠x
theorem T2{h:Heap}{dx:Addr}{mA:Str->Option Ae}(n:h.Ns1 dx mA):∃ c,h.get? dx=some c/\∀ name,Lv name c=some (mA name):=by
 obtain⟨o,es,ep,f,hd,hk,_,i⟩:=n
 refine⟨o,f,fun name=>?_⟩
 have e:=i name
 unfold nsFind findBy at e
 rw[<-Array.find?_toList] at e
 unfold Lv
 rw[hd]
 dsimp only
 split
 ·rename_i y q
  rw[q] at e
  exact congrArg some e
 ·rename_i q
  rw[q] at e
  have a:es.toList.any (·.refKey)=false:=by
   rw[List.any_eq_false]
   intro y d
   obtain⟨z,t,b⟩:=hk y (Array.mem_toList_iff.mp d)
   simp[DictEntry.refKey,b]
  have g:¬ es.toList.any (·.refKey)=true:=by rw[a];exact Ap
  rw[if_neg g]
  exact congrArg some e
theorem nB.look{h:Heap}{x dx C:Addr}{mA:Str->Option Ae}(I:nB h x dx C mA):∃ a,PySem.W.InstAt h x (Fy C dx) C (some a)/\∀ name,Lv name a=some (mA name):=
 let ⟨a,ho,hl⟩:=T2 I.ns
 ⟨a,⟨I.obj,rfl,rfl,ho⟩,hl⟩
section
variable {prog:Ay}{w:Bq}{A:Cr}{E:Ae->Ah->Prop}{s:Ah}{K:Ac}{x dx C f:Addr}{mA:Str->Option Ae}{name:Str}{v:Ae}
theorem T4{a:Bool}{Q:Ae->Ah->Prop}(X:K.In s.heap)(I:nB s.heap x dx C mA)(d:Ku K C name=true)(hh:PySem.W.hasDictIn K C=true)
  (e:Cd K (.ref C) name=some none) (c:mA name=some v) (b:PySem.W.handedIn v=true) (h:Q v {s with toks:=s.toks + 1}) :
  Bf (Bu prog w) A (getAttr (.ref x) name a) Q E s:=by
 obtain⟨f,J,hl⟩:=I.look
 exact PySem.W.get_value X J (Lz d).1 (PySem.W.findObj_own hh e rfl (by rw[hl,c])) b h
theorem T5{pl:Sem Bool}{Q:Ae×List Ae->Ah->Prop}(X:K.In s.heap)(I:nB s.heap x dx C mA)(a:Ku K C name=true)
  (hf:Cd K (.ref C) name=some (some (.ref f))) (ht:Kz K (.ref f)=true) (b:mA name=none) (h:Q (.ref f,[.ref x]) s) :
  Bf (Bu prog w) A (Mz (.ref x) name pl) Q E s:=by
 obtain⟨c,J,hl⟩:=I.look
 exact PySem.W.method_fn X J (Lz a).1 (Lz a).2 hf (beq_iff_eq.mp ht) (by show(Lv name c).map (·.isSome)=some false;rw[hl,b];rfl) h
theorem T6{ns:List Str}{Q:Unit->Ah->Prop}(X:K.In s.heap)(I:nB s.heap x dx C mA)
  (n:Cd K (.ref C) "__setattr__" = some (some (.builtin "object.__setattr__"))) (k:PySem.W.plainOver K C=true) (ht:PySem.W.takerIn K C name=some none) (hh:PySem.W.hasDictIn K C=true)
  (hw:PySem.Within mA ns) (hsz:ns.length<=Ai)
  (h:∀ h',nB h' x dx C (fun y=>if y=name then some v else mA y)->Eo dx s.heap h'->Q () {s with heap:=h',toks:=s.toks + 2}) :
  Bf (Bu prog w) A (setAttr (.ref x) name v) Q E s:=by
 obtain⟨o,J,hl⟩:=I.look
 refine PySem.W.set_plain X J n (PySem.W.osa_open (s:={s with toks:=s.toks + 1}) (r:=none) X J k ht fun b=>?_)
 obtain⟨q,hc,g⟩:=PySem.W.any_some hh
 have l:s.heap.get? x=some ⟨.ref C,some dx,.plain,#[]⟩:=I.obj
 refine Aa (Af (Aa (Aa (wpAny_loadPart l (Aa (PySem.W.Looks.here (s:={s with toks:=s.toks + 1}) (PySem.W.looks_clsIn X hc) ?_))))))
 rw[g]
 refine Af (a:=some dx) (Aa (Af (Aa ?_)))
 refine wpAny_nsSet1 (s:={s with toks:=s.toks + 1}) I.ns fun h' d c=>?_
 obtain⟨p,j,m,i,f,e⟩:=d.count (PySem.Within.cons name v hw)
 refine Aa (wpAny_lookBehind i (by rw[f];exact pastItsLine_dict (Bs e (by rw[Bk];lia))) ?_)
 exact Af (h _ ⟨(c.2 _ (Ca I.ne)).trans I.obj,d,I.ne⟩ c)
theorem T7{R:Result->Ah->Prop}{vs:List Ae}{a:List (Str×Ae)}(X:K.In s.heap)(b:PySem.W.makesIn K C=true)
  (hi:Cd K (.ref C) "__init__" = some (some (.ref f))) (hf:PySem.W.typeIn K (.ref f)=some (.type "function"))
  (h:Kt (Bu prog w) (A.under (.builtin "type.__call__" ⟨.ref C :: vs,a⟩)) (.call (.ref f) ⟨.ref (s.heap.objs.size + 1) :: vs,a⟩) (PySem.W.InitBack (s.heap.objs.size + 1) R)
   {s with heap:=(s.heap.push Eu).push (Fy C s.heap.objs.size)}) :
  Kt (Bu prog w) A (.call (.ref C) ⟨vs,a⟩) R s:=by
 obtain⟨hh,g,d,t,os⟩:=s
 exact PySem.W.make_core (PySem.W.makes_of X b) (PySem.W.looks_findIn X hi) (fun self=>PySem.W.bind_fn X self hf) (.inl rfl) h
end
def putF(f:Str)(v:V):List (Str×V)->List (Str×V)
 | []=>[(f,v)]
 | (g,x) :: r=>if g=f then(g,v) :: r else(g,x) :: putF f v r
theorem FR(f g:Str)(v:V):∀ fs:List (Str×V),(putF f v fs).lookup g=if g=f then some v else fs.lookup g
 | []=>by
  show Bz g [(f,v)]=_
  by_cases h:g=f
  ·have a:(g == f)=true:=beq_iff_eq.mpr h
   simp only[Bz,a,if_pos h]
  ·have a:(g == f)=false:=beq_eq_false_iff_ne.mpr h
   simp only[Bz,a,if_neg h]
 | (k,x) :: r=>by
  have b:=FR f g v r
  rw[show putF f v ((k,x) :: r)=(if k=f then(k,v) :: r else(k,x) :: putF f v r) from rfl]
  by_cases hk:k=f
  ·rw[if_pos hk]
   by_cases h:g=k
   ·have a:(g == k)=true:=beq_iff_eq.mpr h
    simp only[Bz,a,if_pos (h.trans hk)]
   ·have a:(g == k)=false:=beq_eq_false_iff_ne.mpr h
    simp only[Bz,a,if_neg (fun e:g=f=>h (e.trans hk.symm))]
  ·rw[if_neg hk]
   by_cases h:g=k
   ·have a:(g == k)=true:=beq_iff_eq.mpr h
    simp only[Bz,a,if_neg (fun e:g=f=>hk (h.symm.trans e))]
   ·have a:(g == k)=false:=beq_eq_false_iff_ne.mpr h
    simp only[Bz,a]
    exact b
theorem wJ(f:Str)(v:V):∀ fs:List (Str×V),f∈(putF f v fs).map (·.1)/\∀ g,g∈fs.map (·.1)->g∈(putF f v fs).map (·.1)
 | []=>⟨by simp[putF],fun g h=>by simp at h⟩
 | (k,x) :: r=>by
  obtain⟨b,a⟩:=wJ f v r
  rw[show putF f v ((k,x) :: r)=(if k=f then(k,v) :: r else(k,x) :: putF f v r) from rfl]
  by_cases hk:k=f
  ·rw[if_pos hk]
   subst hk
   exact⟨by simp,fun g h=>by simpa using h⟩
  ·rw[if_neg hk]
   refine⟨?_,fun g h=>?_⟩
   ·rw[Au]
    exact An _ b
   ·rw[Au] at h ⊢
    rcases Be.mp h with e | e
    ·exact Be.mpr (.inl e)
    ·exact An _ (a g e)
theorem FT(f:Str)(v:V):∀ fs:List (Str×V),(putF f v fs).length<=fs.length + 1
 | []=>by simp[putF]
 | (k,x) :: r=>by
  have a:=FT f v r
  rw[show putF f v ((k,x) :: r)=(if k=f then(k,v) :: r else(k,x) :: putF f v r) from rfl]
  by_cases hk:k=f
  ·rw[if_pos hk,Bk,Bk];lia
  ·rw[if_neg hk,Bk,Bk];lia
theorem fN.some_of{v:V}{o:Option Ae}(r:fN (some v) o):∃ u,o=some u/\RelV v u:=by
 cases o with
 | none=>exact(show False from r).elim
 | some u=>exact⟨u,rfl,r⟩
theorem fN.none_of{o:Option Ae}(r:fN none o):o=none:=by
 cases o with
 | none=>rfl
 | some u=>exact(show False from r).elim
theorem T8{v:V}{u:Ae}(r:RelV v u):PySem.W.handedIn u=true:=by
 cases v with
 | non=>cases (show u=Value.none from r);rfl
 | bl b=>cases (show u=Value.bool b from r);rfl
 | int i=>obtain⟨t,e⟩:=(show ∃ t,u=Value.int i t from r);cases e;rfl
 | str x=>obtain⟨t,e⟩:=(show ∃ t,u=Value.str x t from r);cases e;rfl
 | byt b=>obtain⟨t,e⟩:=(show ∃ t,u=Value.bytes b t from r);cases e;rfl
 | flt b=>obtain⟨t,e⟩:=(show ∃ t,u=Value.float b t from r);cases e;rfl
 | ref a=>cases (show u=Value.ref a from r);rfl
 | ty n=>cases (show u=Value.type n from r);rfl
section
variable {P:Ay}{w:Bq}{H H':Hp}{h h':Heap}{a C dx:Addr}{fs fs':List (Str×V)}
theorem sO(hok:cR P w H h)(e:H a=some (.ins C dx fs)):∃ b,nB h a dx C b/\(∀ f,fN (fs.lookup f) (b f))/\PySem.Within b (fs.map (·.1))/\fs.length<=1000/\H dx=some (.own a):=by
 obtain⟨d,z,ne,ob,b,n,r,q⟩:=(show cA P w H h a (.ins C dx fs) from hok a _ e)
 exact⟨b,⟨ob,n,ne⟩,r,q,z,d⟩
end
structure gD(K:Ac)(C:Addr):Prop where
 pg:Ku K C Str.empty=true
 hd:PySem.W.hasDictIn K C=true
 po:PySem.W.plainOver K C=true
 sa:Cd K (.ref C) "__setattr__" = some (some (.builtin "object.__setattr__"))
theorem gD.get{K:Ac}{C:Addr}(c:gD K C)(f:Str):Ku K C f=true:=c.pg
def fP(K:Ac)(C:Addr)(f:Str):Prop:=Cd K (.ref C) f=some none
theorem fP.taker{K:Ac}{C:Addr}{f:Str}(n:fP K C f):PySem.W.takerIn K C f=some none:=by
 unfold PySem.W.takerIn
 rw[show Cd K (.ref C) f=some none from n]
 rfl
structure oJ(K:Ac)(C:Addr)(m:Str)(f:Addr):Prop where
 at_:Cd K (.ref C) m=some (some (.ref f))
 fn:Kz K (.ref f)=true
 kp:Fh K (.ref f)=true
section
variable {X:Cx}{pins:List (Addr×Obj)}{σ:St}{H:Hp}{s:Ah}{a C dx:Addr}{fs:List (Str×V)}{f:Str}{v:V}{A:Cr}{E:Ae->Ah->Prop}
theorem T9{b:Bool}{Q:Ae->Ah->Prop}(I:Inv X pins σ H s)(e:H a=some (.ins C dx fs))(c:gD X.K C)(n:fP X.K C f)(l:fs.lookup f=some v)
  (h:∀ u s',Inv X pins σ H s'->RelV v u->Q u s'):Bf (Bu X.prog X.w) A (getAttr (.ref a) f b) Q E s:=by
 obtain⟨g,O,r,_,_,_⟩:=sO I.hok e
 obtain⟨u,i,d⟩:=fN.some_of (v:=v) (o:=g f) (by rw[<-l];exact r f)
 exact T4 I.kIn O (c.get f) c.hd n i (T8 d) (h u _ (I.tok _) d)
theorem FU{m:Str}{g:Addr}{pl:Sem Bool}{Q:Ae×List Ae->Ah->Prop}(I:Inv X pins σ H s)(e:H a=some (.ins C dx fs))(c:gD X.K C)(k:oJ X.K C m g)(l:fs.lookup m=none)
  (h:Q (.ref g,[.ref a]) s):Bf (Bu X.prog X.w) A (Mz (.ref a) m pl) Q E s:=by
 obtain⟨b,O,r,_,_,_⟩:=sO I.hok e
 have d:b m=none:=fN.none_of (by rw[<-l];exact r m)
 exact T5 I.kIn O (c.get m) k.at_ k.fn d h
theorem UA{y:V}{u:Ae}{Q:Unit->Ah->Prop}(I:Inv X pins σ H s)(e:H a=some (.ins C dx fs))(c:gD X.K C)(n:fP X.K C f)(hl:fs.length < 1000)(l:RelV y u)
  (h:∀ s',Inv X pins σ (aR H a (.ins C dx (putF f y fs))) s'->Q () s'):Bf (Bu X.prog X.w) A (setAttr (.ref a) f u) Q E s:=by
 obtain⟨k,O,r,i,_,j⟩:=sO I.hok e
 have hz:(fs.map (·.1)).length<=Ai:=by rw[Ab,Ji];lia
 refine T6 I.kIn O c.sa c.po n.taker c.hd i hz fun h' d sb=>h _ ?_
 have hd:∃ o,h'.get? dx=some o:=let ⟨o,_,_,e',_⟩:=d.ns;⟨o,e'⟩
 refine I.write (x:=a) (e:=dx) (by rw[e];exact True.intro) (.inr j) (fun b q p z=>(sb.2 b p).trans z) hd ?_
 refine⟨by rw[bE O.ne];exact j,?_,O.ne,d.obj,_,d.ns,fun g=>?_,fun g m=>?_⟩
 ·have:=FT f y fs;lia
 ·show fN ((putF f y fs).lookup g) (if g=f then some u else k g)
  rw[FR]
  by_cases q:g=f
  ·rw[if_pos q,if_pos q];exact l
  ·rw[if_neg q,if_neg q];exact r g
 ·by_cases q:g=f
  ·rw[q];exact(wJ f y fs).1
  ·refine(wJ f y fs).2 g (i g fun z=>m ?_)
   show(if g=f then some u else k g)=none
   rw[if_neg q];exact z
theorem Inv.made(I:Inv X pins σ H s):Inv X pins σ (aR (aR H s.heap.objs.size (.own (s.heap.objs.size + 1))) (s.heap.objs.size + 1) (.ins C s.heap.objs.size []))
  {s with heap:=(s.heap.push Eu).push (Fy C s.heap.objs.size)}:=by
 have c:(s.heap.push Eu).get? s.heap.objs.size=some Eu:=Ar s.heap rfl
 have h:((s.heap.push Eu).push (Fy C s.heap.objs.size)).get? (s.heap.objs.size + 1)=some (Fy C s.heap.objs.size):=by
  have:=Ar (s.heap.push Eu) (o:=Fy C s.heap.objs.size) rfl
  rwa [Mb] at this
 have g:(s.heap.push Eu).Ns s.heap.objs.size (fun _=>none):=⟨Eu,#[],_,c,rfl,(fun e d=>absurd d (by simp)),fun _=>rfl⟩
 have f:=I.laid (a:=s.heap.objs.size) (o:=.own (s.heap.objs.size + 1)) (h':=s.heap.push Eu) (t':=s.toks) (fun b u q=>Ag _ q) (Aj _) ⟨_,c⟩
 refine f.laid (a:=s.heap.objs.size + 1) (o:=.ins C s.heap.objs.size []) (t':=s.toks) (fun b u q=>Ag _ q) (Fj (Mb _ _)) ?_
 have ne:s.heap.objs.size≠s.heap.objs.size + 1:=Bj (Lh _)
 refine⟨by rw[bE ne,cM],De _,ne,h,fun _=>none,(Heap.Ns1.of_empty g).at fun o q=>Ag _ q,fun _=>True.intro,fun y i=>absurd rfl i⟩
theorem UB{prog:Ay}{w:Bq}{env:Env}{e:Expr}{f:Str}{pos:Pos}{s:Ah}{Q:Ae->Ah->Prop}(b:Ez e f env (eval e env)=eval e env)
  (h:Bf (Bu prog w) A (eval e env) (fun o a=>Bf (Bu prog w) A (getAttr o f true) Q E a) E s):Bf (Bu prog w) A (eval (.Attribute e f pos) env) Q E s:=
 Attribute_any_ h (by rw[arm_eval_Attribute,b])
end
def UC(K:Ac)(ta:TE)(f:Str):TE:=fun σ H Q=>ta σ H fun x b=>∃ a C dx fs v,x=.ref a/\b a=some (.ins C dx fs)/\gD K C/\fP K C f/\fs.lookup f=some v/\Q v b
def UD(K:Ac)(ta tv:TE)(f:Str):TS:=fun D σ H=>tv σ H fun y c=>ta σ c fun x b=>∃ a C dx fs,x=.ref a/\b a=some (.ins C dx fs)/\gD K C/\fP K C f/\fs.length < 1000/\
 D.nx σ (aR b a (.ins C dx (putF f y fs)))
section
variable {X:Cx}{o e value:Expr}{f:Str}{pos pos' tpos:Pos}{ta tv:TE}
theorem UE(d:PE X e ta)(o:Ez e f X.env (eval e X.env)=eval e X.env):PE X (.Attribute e f pos) (UC X.K ta f):=by
 intro pins s σ H Q I h
 refine UB o (a6 (d pins s σ H _ I h) fun u r ⟨x,g,k,j,a,C,dx,fs,v,ex,m,c,n,l,q⟩=>?_)
 subst ex
 obtain rfl:u=Value.ref a:=j
 exact T9 k m c n l fun p t b i=>⟨v,g,b,i,q⟩
theorem UG(d:PE X o ta)(p:PE X value tv)(v:Hg value (some (.Attribute o f pos')) pos.line X.env=pure false):PS X (.Assign [.Attribute o f pos'] value pos) (UD X.K ta tv f):=by
 intro pins s σ H D I h
 refine plainObj_wpAny_Assign_Attribute (a6 (p pins s σ H _ I h) fun u i ⟨y,e,m,j,q⟩=>a6 (d pins i σ e _ m q) fun r B ⟨x,z,b,k,a,C,dx,fs,ex,t,c,n,l,w⟩=>?_) v
 subst ex
 obtain rfl:r=Value.ref a:=k
 exact UA b t c n l j fun A g=>⟨σ,_,g,w⟩
end
section
variable {X:Cx}{pins:List (Addr×Obj)}{σ:St}{H:Hp}{s:Ah}{A:Cr}{E:Ae->Ah->Prop}{Q:Ae->Ah->Prop}{c:Ae}{b:Bool}
inductive iE(K:Ac)(H:Hp):V->Ae->Prop where
 | non:iE K H .non (.type "NoneType")
 | bl (x:Bool):iE K H (.bl x) (.type "bool")
 | int (i:Int):iE K H (.int i) (.type "int")
 | str (x:Str):iE K H (.str x) (.type "str")
 | flt (x:UInt64):iE K H (.flt x) (.type "float")
 | lst {a:Addr} {xs:List V} (e:H a=some (.lst xs)):iE K H (.ref a) (.type "list")
 | frz {a:Addr} {o:Obj} {xs:List V} (e:H a=some (.frz o (.lst xs))):iE K H (.ref a) (.type "list")
 | tup {a:Addr} {xs:List V} (e:H a=some (.tup xs)):iE K H (.ref a) (.type "tuple")
 | dK {a:Addr} {kvs:List (aD×V)} (e:H a=some (.dK kvs)):iE K H (.ref a) (.type "dict")
 | dT {a:Addr} {kvs:List (List aD×V)} (e:H a=some (.dT kvs)):iE K H (.ref a) (.type "dict")
 | ins {a C dx:Addr} {fs:List (Str×V)} (e:H a=some (.ins C dx fs)) (cl:gD K C) (ha:Cd K (.ref C) "__class__" = some (some (.builtin "object.__class__")))
   (hn:PySem.W.specialIn K (.builtin "object.__class__") "__get__" = some (some (.builtin "getset_descriptor.__get__"))) (htk:PySem.W.takesIn K (.builtin "object.__class__")=some true)
   (hm:PySem.W.mroIn K C (.type "object")=some true):iE K H (.ref a) (.ref C)
theorem UH{x:V}{u t:Ae}(I:Inv X pins σ H s)(f:RelV x u)(ty:iE X.K H x t)(e:Ij X.K t c=some b)(h:∀ tk,Q (.bool b) {s with toks:=tk}) :
  Bf (Bu X.prog X.w) A (call (.builtin "isinstance") [u,c]) Q E s:=by
 cases ty with
 | non=>cases (show u=Value.none from f);exact Ej PySem.W.kitx_none I.kIn True.intro e (fun z=>nomatch z) h
 | bl y=>cases (show u=Value.bool y from f);exact Ej PySem.W.kitx_bool I.kIn True.intro e (fun z=>nomatch z) h
 | int i=>obtain⟨t,q⟩:=(show ∃ t,u=Value.int i t from f);cases q;exact Ej PySem.W.kitx_int I.kIn True.intro e (fun z=>nomatch z) h
 | str y=>obtain⟨t,q⟩:=(show ∃ t,u=Value.str y t from f);cases q;exact Ej PySem.W.kitx_str I.kIn True.intro e (fun z=>nomatch z) h
 | flt y=>obtain⟨t,q⟩:=(show ∃ t,u=Value.float y t from f);cases q;exact Ej PySem.W.kitx_float I.kIn True.intro e (fun z=>nomatch z) h
 | @lst a xs d=>
  cases (show u=Value.ref a from f)
  obtain⟨_,_,n,_,g⟩:=(show cA X.prog X.w H s.heap a (.lst xs) from I.hok a _ d)
  exact Ej PySem.W.kitx_list I.kIn ⟨_,g,rfl⟩ e (fun z=>nomatch z) h
 | @frz a ob xs d=>
  cases (show u=Value.ref a from f)
  obtain⟨_,_,_,n,_,g⟩:=(show cA X.prog X.w H s.heap a (.frz ob (.lst xs)) from I.hok a _ d)
  exact Ej PySem.W.kitx_list I.kIn ⟨_,g,rfl⟩ e (fun z=>nomatch z) h
 | @tup a xs d=>
  cases (show u=Value.ref a from f)
  obtain⟨_,_,_,p⟩:=(show cA X.prog X.w H s.heap a (.tup xs) from I.hok a _ d)
  obtain⟨o,g,j,_⟩:=p
  exact Ej PySem.W.kitx_tuple I.kIn ⟨o,g,j⟩ e (fun z=>nomatch z) h
 | @dK a kvs d=>
  cases (show u=Value.ref a from f)
  obtain⟨_,_,vs,_,p⟩:=(show cA X.prog X.w H s.heap a (.dK kvs) from I.hok a _ d)
  obtain⟨o,es,ep,g,j,_⟩:=p
  exact Ej PySem.W.kitx_dict I.kIn ⟨o,g,j.1⟩ e (fun z=>nomatch z) h
 | @dT a kvs d=>
  cases (show u=Value.ref a from f)
  obtain⟨_,_,xs,_,o,es,ep,g,j,_⟩:=(show cA X.prog X.w H s.heap a (.dT kvs) from I.hok a _ d)
  exact Ej PySem.W.kitx_dict I.kIn ⟨o,g,j.1⟩ e (fun z=>nomatch z) h
 | @ins a C dx fs d cl m l k r=>
  cases (show u=Value.ref a from f)
  obtain⟨B,O,_⟩:=sO I.hok d
  obtain⟨v,J,_⟩:=O.look
  exact Ej (PySem.W.kitx_own (cl.get _) cl.hd m l k r) I.kIn J e (fun z=>nomatch z) h
end
structure cT(k:Nat)(A:Cr):Prop where
 hd:A.handled=none
 dp:A.depth + 3 * k + 5 < recursionLimit
 un:A.units + 16 * k + 200 < Es
theorem cT.mono{j k:Nat}{A:Cr}(r:cT k A)(h:j<=k):cT j A:=⟨r.hd,by have:=r.dp;lia,by have:=r.un;lia⟩
theorem cT.deeper{k:Nat}{A:Cr}(r:cT (k + 1) A)(env:Env):cT k (A.deeper env):=
 ⟨r.hd,by have:=r.dp;show A.depth + 1 + 3 * k + 5 < _;lia,by have:=r.un;show A.units + 3 + 16 * k + 200 < _;lia⟩
theorem UI{A:Cr}{C:Addr}{us:List Ae}{a:List (Str×Ae)}:(A.under (.builtin "type.__call__" ⟨.ref C :: us,a⟩)).depth=A.depth + 1:=by
 first | rfl | simp[Around.under,Code.weight,Code.isCreation,Code.isGuard,Code.isCaller,Code.frames,Code.isFrame,guardIds]
theorem UJ{A:Cr}{C:Addr}{us:List Ae}{a:List (Str×Ae)}:(A.under (.builtin "type.__call__" ⟨.ref C :: us,a⟩)).units=A.units + 1:=by
 first | rfl | simp[Around.under,Code.cUnits,Code.frames,Code.isFrame]
theorem cT.make{k:Nat}{A:Cr}(r:cT (k + 1) A)(C:Addr)(us:List Ae)(a:List (Str×Ae)):cT k (A.under (.builtin "type.__call__" ⟨.ref C :: us,a⟩)):=
 ⟨r.hd,by have:=r.dp;rw[UI];lia,by have:=r.un;rw[UJ];lia⟩
theorem cT.depth{k:Nat}{A:Cr}(r:cT k A):A.depth < recursionLimit:=by have:=r.dp;lia
theorem cT.units{k:Nat}{A:Cr}(r:cT k A):A.units + 64 < Es:=by have:=r.un;lia
def wL:TA:=fun _ H Q=>Q [] H
def UK(ta:TE)(c:TA):TA:=fun σ H Q=>ta σ H fun x a=>c σ a fun xs b=>Q (x :: xs) b
section
variable {X:Cx}{e:Expr}{es:List Expr}{te:TE}{t:TA}{pos:Pos}
theorem UL:PA X [] wL:=fun _ _ _ _ H Q I h=>Calls.spliced_nil ⟨[],H,I,.nil,h⟩
theorem UM(c:PE X e te)(hr:PA X es t)(l:Bl (e :: es) X.env=(false,eval e X.env) :: Bl es X.env:=by rfl):PA X (e :: es) (UK te t):=by
 intro pos pins s σ H Q I h
 rw[l]
 show Bf _ _ (spliced ((false,eval e X.env) :: Fs pos (Bl es X.env))) _ _ s
 refine Calls.spliced_cons (a6 (c pins s σ H _ I h) fun u i ⟨x,g,j,k,f⟩=>?_)
 exact a6 (hr pos pins i σ g _ j f) fun us n ⟨xs,d,a,b,m⟩=>⟨x :: xs,d,a,.cons k b,m⟩
def UN(t:TA):TE:=fun σ H Q=>t σ H fun xs a=>xs.length<=Ai/\∀ p,a p=none->Q (.ref p) (aR a p (.tup xs))
def UO(t:TA):TE:=fun σ H Q=>t σ H fun xs a=>xs.length<=Ai/\∀ p,a p=none->Q (.ref p) (aR a p (.lst xs))
theorem UP{x1}(h:PA X es t):PE X (.Tuple es x1 pos) (UN t):=by
 intro pins s σ H Q I f
 refine wpAny_Tuple_spliced (a6 (h pos pins s σ H _ I f) fun us a ⟨xs,c,d,r,z,q⟩=>⟨by rw[<-r.length];exact z,?_⟩)
 have hf:c a.heap.objs.size=none:=d.hok.fresh (Aj _)
 refine⟨.ref a.heap.objs.size,aR c a.heap.objs.size (.tup xs),d.laid (t':=a.toks) (fun b u e=>Ag _ e) (Aj _) ?_,rfl,q _ hf⟩
 exact⟨z,us,r,⟨_,Ar _ rfl,rfl,_,rfl⟩⟩
theorem FV(h:PA X es t):PE X (.List es pos) (UO t):=by
 intro pins s σ H Q I f
 refine wpAny_List_spliced (a6 (h pos pins s σ H _ I f) fun us a ⟨xs,c,d,r,z,q⟩=>⟨by rw[<-r.length];exact z,?_⟩)
 have hf:c a.heap.objs.size=none:=d.hok.fresh (Aj _)
 refine⟨.ref a.heap.objs.size,aR c a.heap.objs.size (.lst xs),d.laid (t':=a.toks) (fun b u e=>Ag _ e) (Aj _) ?_,rfl,q _ hf⟩
 exact⟨z,us,0,r,Ar _ rfl⟩
end
abbrev Sp:=List V->Hp->VK->XK->Prop
abbrev kH:=List Env->Hp->Ah->XK->Ae->Ah->Prop
structure nC(P:Ay)(w:Bq)(K:Ac)(mg:Str->Option Ae)(base:Heap)(A:Cr)(outer:List Env)(s:Ah)(H:Hp):Prop where
 frames:A.frames=some outer
 mod:Mod K mg base
 bs:∀ b o,base.get? b=some o->s.heap.get? b=some o/\H b=none
 bsz:base.objs.size<=s.heap.objs.size
 funs:s.heap.FunFrames base outer
 frf:∀ b∈iD outer,H b=none
 hok:cR P w H s.heap
 bare:Mi s.gens
def CE(outer:List Env)(P:Ay)(w:Bq)(H:Hp)(s:Ah)(Q:VK)(u:Ae)(s':Ah):Prop:=
 ∃ v H',s'.os=s.os/\Mi s'.gens/\Un (iD outer) [] H H' s.heap s'.heap/\cR P w H' s'.heap/\RelV v u/\Q v H'
def CR(CX:kH)(outer:List Env)(P:Ay)(w:Bq)(H:Hp)(s:Ah)(Q:VK)(E:XK)(r:Result)(s':Ah):Prop:=
 match r with
 | .ok (.ret u)=>CE outer P w H s Q u s'
 | .ok _=>False
 | .error e=>CX outer H s E e s'
structure fB(P:Ay)(w:Bq)(K:Ac)(mg:Str->Option Ae)(base:Heap)(CX:kH)(k:Nat)(f:Addr)(fd:Bo)(ps:List Str)(sp:Sp):Prop where
 len:∀ vs H Q E,sp vs H Q E->vs.length=ps.length
 run:∀ (A:Cr) (outer:List Env) (s:Ah) (H:Hp) (args:Args) (us:List Ae) (vs:List V) (Q:VK) (E:XK),cT k A->nC P w K mg base A outer s H->BindsTo s fd args (ps.zip us)->aZ vs us->sp vs H Q E->
  Kt (Bu P w) A (.call (.ref f) args) (CR CX outer P w H s Q E) s
theorem nC.make{P:Ay}{w:Bq}{K:Ac}{mg:Str->Option Ae}{base:Heap}{A:Cr}{outer:List Env}{s:Ah}{H:Hp}(e:nC P w K mg base A outer s H)(C:Addr)(us:List Ae)(a:List (Str×Ae)) :
  nC P w K mg base (A.under (.builtin "type.__call__" ⟨.ref C :: us,a⟩)) outer s H:=⟨by first | exact e.frames | (simpa [Around.under,Code.envs,Code.isFrame,pushEnvs] using e.frames),e.mod,e.bs,e.bsz,e.funs,e.frf,e.hok,e.bare⟩
section
variable {X:Cx}{pins:List (Addr×Obj)}{σ:St}{H:Hp}{s s':Ah}
theorem Inv.env0(I:Inv X pins σ H s):nC X.prog X.w X.K X.mg X.base X.A X.stack s H:=
 ⟨I.ok.frames,I.ok.mod,I.bs,Bs I.ok.bsz I.sz,I.stack,I.stkFree,I.hok,I.bare⟩
theorem Inv.after{Q:VK}{u:Ae}(I:Inv X pins σ H s)(h:CE X.stack X.prog X.w H s Q u s'):EP X pins σ Q u s':=by
 obtain⟨v,H',os,bare,un,hok,r,q⟩:=h
 obtain⟨hh,g,d,t,a⟩:=s'
 obtain rfl:a=s.os:=os
 exact⟨v,H',I.call (h':=hh) (g':=g) (d':=d) (t':=t) (ch:=[]) un hok bare (fun b z=>absurd z (by simp)),r,q⟩
end
def FW(sp:Sp)(dvs:List V)(E:XK)(t:TA):TE:=fun σ H Q=>t σ H fun vs a=>sp (vs ++ dvs) a Q E
def wM(C:Addr)(m:Str)(sp:Sp)(dvs:List V)(E:XK)(ta:TE)(t:TA):TE:=fun σ H Q=>ta σ H fun x b=>∃ a dx fs,x=.ref a/\b a=some (.ins C dx fs)/\fs.lookup m=none/\
 t σ b fun vs c=>sp (x :: (vs ++ dvs)) c Q E
def FX(C:Addr)(sp:Sp)(dvs:List V)(E:XK)(t:TA):TE:=fun σ H Q=>t σ H fun vs a=>∀ x dx,a x=none->a dx=none->dx≠x->
 sp (.ref x :: (vs ++ dvs)) (aR (aR a dx (.own x)) x (.ins C dx [])) (fun v b=>v=.non/\Q (.ref x) b) E
def Binds(K:Ac)(fd:Bo)(ps:List Str)(ds:List Ae):Prop:=
 ∀ (s:Ah) (us:List Ae),K.In s.heap->(us ++ ds).length=ps.length->BindsTo s fd ⟨us,[]⟩ (ps.zip (us ++ ds))
theorem Binds.all{K:Ac}{fd:Bo}{ps:List Str}(h:∀ us:List Ae,us.length=ps.length->bindArgs fd ⟨us,[]⟩=pure (ps.zip us)):Binds K fd ps []:=fun s us _ hl=>by
 rw[Gf] at hl ⊢
 exact .of_eq (h us hl)
def mI(CX:kH)(X:Cx)(E:XK):Prop:=∀ (pins:List (Addr×Obj)) (σ:St) (H:Hp) (s:Ah) (e:Ae) (s':Ah),Inv X pins σ H s->CX X.stack H s E e s'->X.xe e s'
section
variable {X:Cx}{CX:kH}{k:Nat}{f C:Addr}{fd:Bo}{ps:List Str}{sp:Sp}{dvs:List V}{ds:List Ae}{E:XK}{x m:Str}{p pos apos:Pos}{e o:Expr}{es:List Expr}{ta:TE}{t:TA}
theorem wN{pins:List (Addr×Obj)}{σ:St}{H:Hp}{s:Ah}{Q:VK}{us:List Ae}{vs:List V}(F:fB X.prog X.w X.K X.mg X.base CX k f fd ps sp)(hr:cT k X.A)(hb:Binds X.K fd ps ds)(hd:aZ dvs ds)(hx:mI CX X E)
  (I:Inv X pins σ H s) (r:aZ vs us) (h:sp (vs ++ dvs) H Q E):Bf (Bu X.prog X.w) X.A (call (.ref f) us) (EP X pins σ Q) X.xe s:=by
 have r2:aZ (vs ++ dvs) (us ++ ds):=r.append hd
 have hl:(us ++ ds).length=ps.length:=by rw[<-r2.length];exact F.len _ _ _ _ h
 refine wpAny_call (Me (F.run X.A X.stack s H ⟨us,[]⟩ (us ++ ds) (vs ++ dvs) Q E hr I.env0 (hb s us I.kIn hl) r2 h) fun r s' hq=>?_)
 cases r with
 | error e=>exact hx pins σ H s e s' I hq
 | ok fl=>
  cases fl with
  | ret u=>exact I.after hq
  | next=>exact Fv hq
  | brk=>exact Fv hq
  | cont=>exact Fv hq
theorem UQ(F:fB X.prog X.w X.K X.mg X.base CX k f fd ps sp)(hr:cT k X.A)(i:Gl X x)(j:X.mg x=some (.ref f))(hk:Fh X.K (.ref f)=true)(m:Binds X.K fd ps ds)(hd:aZ dvs ds)(l:mI CX X E)
  (d:PA X (e :: es) t) (b:(x == ("__debug__" : Str))=false:=by decide) (g:Bl (e :: es) X.env=(false,eval e X.env) :: Bl es X.env:=by rfl) (a:(Fs pos (Bl es X.env)).any (·.1)=false:=by rfl) :
  PE X (.Call (.Name x p) (e :: es) [] pos) (FW sp dvs E t):=by
 intro pins s σ H Q I h
 refine Gb (sF I i j ?_ b)
 refine PySem.W.callWith_K (h₀:=X.base) I.ok.mod.kin hk (a6 (d pos pins s σ H _ I h) fun us o ⟨vs,n,c,r,q⟩=>⟨c.kIn,?_⟩) g a
 exact wN F hr m hd l c r q
theorem UR{pl:Sem Bool}(y:PE X o ta)(c:gD X.K C)(i:oJ X.K C m f)(F:fB X.prog X.w X.K X.mg X.base CX k f fd ps sp)(hr:cT k X.A)(L:Binds X.K fd ps ds)(hd:aZ dvs ds)(G:mI CX X E)(p:PA X (e :: es) t)
  (d:Bl (e :: es) X.env=(false,eval e X.env) :: Bl es X.env:=by rfl) (b:(Fs pos (Bl es X.env)).any (·.1)=false:=by rfl)
  (ht:eval (.Call (.Attribute o m apos) (e :: es) [] pos) X.env=(do
   let n <-eval o X.env
   My apos.atName
   let (f,first) <-Hr [n] (Mz n m pl)
   callWith pos f first (Fs pos (Bl (e :: es) X.env)) (Ly pos (Jj [] X.env))):=by rfl) :
  PE X (.Call (.Attribute o m apos) (e :: es) [] pos) (wM C m sp dvs E ta t):=by
 intro pins s σ H Q I h
 refine PySem.W.methodCall_KW (pl:=pl) (a6 (y pins s σ H _ I h) fun u z ⟨x,v,j,B,a,dx,fs,ex,D,l,q⟩=>?_) ht
 subst ex
 obtain rfl:u=Value.ref a:=B
 refine FU j D c i l ?_
 refine PySem.W.callWith_K (first:=[.ref a]) (h₀:=X.base) I.ok.mod.kin i.kp (a6 (p pos pins z σ v _ j q) fun us N ⟨vs,M,g,r,J⟩=>⟨g.kIn,?_⟩) d b
 exact wN (us:=.ref a :: us) (vs:=.ref a :: vs) F hr L hd G g (.cons rfl r) J
theorem US{pl:Sem Bool}(g:PE X o ta)(c:gD X.K C)(d:oJ X.K C m f)(F:fB X.prog X.w X.K X.mg X.base CX k f fd ps sp)(hr:cT k X.A)(p:Binds X.K fd ps ds)(hd:aZ dvs ds)(n:mI CX X E)
  (ht:eval (.Call (.Attribute o m apos) [] [] pos) X.env=(do
   let e <-eval o X.env
   My apos.atName
   let (f,first) <-Hr [e] (Mz e m pl)
   callWith pos f first (Fs pos (Bl [] X.env)) (Ly pos (Jj [] X.env))):=by rfl) :
  PE X (.Call (.Attribute o m apos) [] [] pos) (wM C m sp dvs E ta wL):=by
 intro pins s σ H Q I h
 refine PySem.W.methodCall_KW (pl:=pl) (a6 (g pins s σ H _ I h) fun u t ⟨x,r,b,i,a,dx,fs,ex,j,l,q⟩=>?_) ht
 subst ex
 obtain rfl:u=Value.ref a:=i
 refine FU b j c d l ?_
 exact PySem.W.callWith_K0 (first:=[.ref a]) b.kIn d.kp (wN (us:=[.ref a]) (vs:=[.ref a]) F hr p hd n b (.cons rfl .nil) q)
structure Mk(K:Ac)(C f:Addr):Prop where
 makes:PySem.W.makesIn K C=true
 init:Cd K (.ref C) "__init__" = some (some (.ref f))
 fn:Kz K (.ref f)=true
 kp:Fh K (.ref C)=true
theorem FY{pins:List (Addr×Obj)}{σ:St}{H:Hp}{s:Ah}{Q:VK}{us:List Ae}{vs:List V}(M:Mk X.K C f)(F:fB X.prog X.w X.K X.mg X.base CX k f fd ps sp)(hr:cT (k + 1) X.A)(hb:Binds X.K fd ps ds)(hd:aZ dvs ds)
  (hx:mI CX X E) (I:Inv X pins σ H s) (r:aZ vs us)
  (h:∀ x dx,H x=none->H dx=none->dx≠x->sp (.ref x :: (vs ++ dvs)) (aR (aR H dx (.own x)) x (.ins C dx [])) (fun v H2=>v=.non/\Q (.ref x) H2) E) :
  Bf (Bu X.prog X.w) X.A (call (.ref C) us) (EP X pins σ Q) X.xe s:=by
 have hq:=h (s.heap.objs.size + 1) s.heap.objs.size (I.hok.fresh (Nat.le_succ _)) (I.hok.fresh (Aj _)) (Bj (Lh _))
 have I2:=Inv.made (C:=C) I
 have r2:aZ (V.ref (s.heap.objs.size + 1) :: (vs ++ dvs)) (Value.ref (s.heap.objs.size + 1) :: (us ++ ds)):=.cons rfl (r.append hd)
 have hl:(Value.ref (s.heap.objs.size + 1) :: us ++ ds).length=ps.length:=by
  have e:=r2.length
  rw[F.len _ _ _ _ hq] at e
  exact e.symm
 refine wpAny_call (T7 (f:=f) I.kIn M.makes M.init (beq_iff_eq.mp M.fn) (Me (F.run _ X.stack _ _ ⟨Value.ref (s.heap.objs.size + 1) :: us,[]⟩ (Value.ref (s.heap.objs.size + 1) :: (us ++ ds)) _ _ E (hr.make C us [])
  (I2.env0.make C us []) (hb _ (Value.ref (s.heap.objs.size + 1) :: us) I2.kIn hl) r2 hq) fun r s' hq'=>?_))
 cases r with
 | error e=>exact hx pins σ _ _ e s' I2 hq'
 | ok fl=>
  cases fl with
  | ret u=>
   obtain⟨v,H',I3,rv,ev,q3⟩:=I2.after hq'
   subst ev
   exact⟨rv,⟨V.ref (s.heap.objs.size + 1),H',I3,rfl,q3⟩⟩
  | next=>exact Fv hq'
  | brk=>exact Fv hq'
  | cont=>exact Fv hq'
theorem UT(M:Mk X.K C f)(F:fB X.prog X.w X.K X.mg X.base CX k f fd ps sp)(hr:cT (k + 1) X.A)(i:Gl X x)(j:X.mg x=some (.ref C))(m:Binds X.K fd ps ds)(hd:aZ dvs ds)(l:mI CX X E)
  (d:PA X (e :: es) t) (b:(x == ("__debug__" : Str))=false:=by decide) (g:Bl (e :: es) X.env=(false,eval e X.env) :: Bl es X.env:=by rfl) (a:(Fs pos (Bl es X.env)).any (·.1)=false:=by rfl) :
  PE X (.Call (.Name x p) (e :: es) [] pos) (FX C sp dvs E t):=by
 intro pins s σ H Q I h
 refine Gb (sF I i j ?_ b)
 refine PySem.W.callWith_K (h₀:=X.base) I.ok.mod.kin M.kp (a6 (d pos pins s σ H _ I h) fun us o ⟨vs,n,c,r,q⟩=>⟨c.kIn,?_⟩) g a
 exact FY M F hr m hd l c r q
theorem UU(M:Mk X.K C f)(F:fB X.prog X.w X.K X.mg X.base CX k f fd ps sp)(hr:cT (k + 1) X.A)(b:Gl X x)(c:X.mg x=some (.ref C))(e:Binds X.K fd ps ds)(hd:aZ dvs ds)(d:mI CX X E)
  (a:(x == ("__debug__" : Str))=false:=by decide):PE X (.Call (.Name x p) [] [] pos) (FX C sp dvs E wL):=by
 intro pins s σ H Q I h
 refine Gb (sF I b c ?_ a)
 exact PySem.W.callWith_K0 I.kIn M.kp (FY (us:=[]) M F hr e hd d I .nil h)
end
structure oK(N P:List Str)(sc:Iw):Prop where
 kind:sc.kind=.function
 co:sc.isCoroutine=false
 gen:sc.isGenerator=false
 nd:N.Nodup
 pre:N.take P.length=P
 par:∀ x∈P,sc.names.lookup x=some .local\/sc.names.lookup x=some .cell
 nofree:∀ y∈sc.names,y.2≠.free
theorem FZ{a:Str->Option Hx}{x:Str}:∀ {binds:List (Str×Ae)} {m:Str->Option Ae},(∀ v,(x,v)∉binds)->bindL a binds m x=m x
 | [],_,_=>rfl
 | (n,v) :: r,m,h=>by
  unfold bindL
  rw[FZ fun w hw=>h w (An _ hw)]
  split
  ·have:x≠n:=by rintro rfl;exact h v Ba
   simp[this]
  ·rfl
theorem F0{a:Str->Option Hx}{x:Str}:∀ {binds:List (Str×Ae)} {m:Str->Option Ae},(∀ v,(x,v)∉binds)->bindC a binds m x=m x
 | [],_,_=>rfl
 | (n,v) :: r,m,h=>by
  unfold bindC
  rw[F0 fun w hw=>h w (An _ hw)]
  split
  ·rfl
  ·have:x≠n:=by rintro rfl;exact h v Ba
   simp[this]
theorem F1{a:Str->Option Hx}{x:Str}{v:Ae}:∀ {P:List Str} {vs:List Ae} {i:Nat} {m:Str->Option Ae},P.Nodup->P[i]? = some x->vs[i]? = some v->a x=some .local->
  bindL a (P.zip vs) m x=some v
 | [],_,_,_,_,h,_,_=>by simp at h
 | _ :: _,[],_,_,_,_,h,_=>by simp at h
 | p :: P,w :: vs,0,m,nd,c,b,hk=>by
  simp at c b;subst c;subst b
  show bindL a ((p,w) :: P.zip vs) m p=_
  unfold bindL
  rw[FZ fun v d=>(Dh.mp nd).1 (List.of_mem_zip d).1,if_pos hk]
  simp
 | p :: P,w :: vs,i + 1,m,nd,c,b,hk=>by
  show bindL a ((p,w) :: P.zip vs) m x=_
  unfold bindL
  exact F1 (i:=i) (Dh.mp nd).2 (by simpa using c) (by simpa using b) hk
theorem F2{a:Str->Option Hx}{x:Str}{v:Ae}:∀ {P:List Str} {vs:List Ae} {i:Nat} {m:Str->Option Ae},P.Nodup->P[i]? = some x->vs[i]? = some v->a x≠some .local->
  bindC a (P.zip vs) m x=some v
 | [],_,_,_,_,h,_,_=>by simp at h
 | _ :: _,[],_,_,_,_,h,_=>by simp at h
 | p :: P,w :: vs,0,m,nd,c,b,hk=>by
  simp at c b;subst c;subst b
  show bindC a ((p,w) :: P.zip vs) m p=_
  unfold bindC
  rw[F0 fun v d=>(Dh.mp nd).1 (List.of_mem_zip d).1,if_neg hk]
  simp
 | p :: P,w :: vs,i + 1,m,nd,c,b,hk=>by
  show bindC a ((p,w) :: P.zip vs) m x=_
  unfold bindC
  exact F2 (i:=i) (Dh.mp nd).2 (by simpa using c) (by simpa using b) hk
def start(N:List Str)(vs:List V):St:=vs.map some ++ Br (N.length - vs.length) none
def mJ(CX:kH)(P:Ay)(w:Bq)(K:Ac)(mg:Str->Option Ae)(base:Heap)(N:List Str)(b:Str)(a:Iw)(f:Addr)(d:Ae)(A:Cr)(outer:List Env)(s:Ah)(H:Hp)(E:XK):Cx where
 prog:=P
 w:=w
 K:=K
 mg:=mg
 base:=base
 A:=A.deeper (Ls b a s.heap.objs.size f d)
 N:=N
 s₀:=s
 H₀:=H
 env:=Ls b a s.heap.objs.size f d
 outer:=outer
 stack:=Ls b a s.heap.objs.size f d :: outer
 ex:=[]
 calm:=true
 fn:=fun _=>true
 pn:=[]
 xe:=fun e s'=>Bf (Bu P w) (A.deeper (Ls b a s.heap.objs.size f d)) (leaving (Ls b a s.heap.objs.size f d) e) (fun _ c=>CX outer H s E e c) (fun g c=>CX outer H s E g c) s'
theorem F5{sc:Iw}{n:Nat}{x:Str}(h:sc.names.lookup x=some .cell):∃ c,(cellsFrom n sc.names []).lookup x=some c:=by
 have q:=PySem.W.cellsFrom_some sc.names n [] (.inl h)
 exact Gg.mp q
theorem UW{CX:kH}{P:Ay}{w:Bq}{K:Ac}{mg:Str->Option Ae}{base:Heap}{N ps:List Str}{g:Str}{d:Iw}{f:Addr}{D:Ae}{A:Cr}{outer:List Env}{s F:Ah}{H:Hp}{E:XK}{us:List Ae}{vs:List V}
  (S:oK N ps d) (hd:A.handled=none) (l:nC P w K mg base A outer s H) (hl:vs.length=ps.length) (r:aZ vs us)
  (x:InCallC s s.heap.objs.size (bindL (Ls g d s.heap.objs.size f D).kindOf (ps.zip us) fun _=>none) (cellsFrom (s.heap.objs.size + 1) d.names []) (bindC (Ls g d s.heap.objs.size f D).kindOf (ps.zip us) fun _=>none) F) :
  Inv (mJ CX P w K mg base N g d f D A outer s H E) [] (start N vs) H F:=by
 have I:ps.length<=N.length:=by have:=congrArg Bg S.pre;rw[Cw] at this;lia
 obtain⟨C,tk,rfl,hk⟩:=x.done
 have m:∀ b:Addr,b∉(mJ CX P w K mg base N g d f D A outer s H E).ex:=fun b z=>absurd (show b∈([]:List Addr) from z) (by simp)
 refine⟨⟨l.mod,S.kind,rfl,rfl,Aj _,fun y z c C j=>?_,fun y o=>?_,fun y c _ h=>?_,fun _=>hd,Around.frames_deeper l.frames,.inr ⟨rfl,rfl⟩,fun b z=>absurd z (m b),l.bs,l.bsz,fun b _ _=>m b,fun b z=>absurd z (m b),l.funs,l.frf⟩,
  rfl,l.bare,Un.kept hk,⟨_,x.toInCall.ns,fun i y v C j M=>?_⟩,fun y c h=>⟨_,x.cell y c h⟩,l.hok.fresh (Aj _),fun y c h=>?_,fun p t=>absurd (show p∈([]:List (Addr×Obj)) from t) (by simp),l.hok.kept hk,?_⟩
 ·exact name_of_addr x.apart (Gk C) (Gk j)
 ·have o:d.names.lookup y=some .cell\/d.names.lookup y=some .free:=o
  rcases o with o | o
  ·exact F5 o
  ·exact absurd rfl (S.nofree _ (Gk o))
 ·exact Jz (x.above y c (Gk h))
 ·have hi:i < vs.length:=by
   unfold start at j
   by_cases hi:i < vs.length
   ·exact hi
   ·rw[Kf (by simpa using hi)] at j
    rw[List.getElem?_replicate] at j
    split at j <;> cases j
  have J:vs[i]? = some v:=by
   unfold start at j
   rw[List.getElem?_append_left (by simpa using hi),Aw] at j
   cases e:vs[i]? with
   | none=>rw[e] at j;cases j
   | some a=>rw[e] at j;cases j;rfl
  obtain⟨u,G,L⟩:=r.get J
  have t:ps[i]? = some y:=by
   rw[<-S.pre,List.getElem?_take_of_lt (by lia)];exact C
  have B:ps.Nodup:=by rw[<-S.pre];exact S.nd.sublist (List.take_sublist _ _)
  refine⟨u,L,?_⟩
  rcases S.par y (Av t) with k | k
  ·exact .inl ⟨k,F1 B t G k⟩
  ·obtain⟨c,e⟩:=F5 (n:=s.heap.objs.size + 1) k
   refine .inr ⟨.inl k,c,e,?_⟩
   have q:=x.cell y c e
   rw[F2 B t G (by show d.names.lookup y≠_;rw[k];decide)] at q
   exact q
 ·exact l.hok.fresh (Jz (x.above y c (Gk h)))
 ·unfold start
  show _=N.length
  rw[Am,Ab,List.length_replicate]
  lia
theorem UX{CX:kH}{P:Ay}{w:Bq}{K:Ac}{mg:Str->Option Ae}{base:Heap}{k:Nat}{f:Addr}{name qual:Str}{params:Arguments}{body:List Stmt}{scope:Iw}{dV kV doc pm cdv ct oc:Ae}{an od:Option Addr}
  {osl:Array (Option Ae)} {N ps:List Str} {sp:Sp} (lk:K.lookup f=some ⟨oc,od,.func (Ek name qual params body scope dV kV doc pm an cdv ct),osl⟩) (hcd:Ik K cdv qual=true) (S:oK N ps scope)
  (len:∀ vs H Q E,sp vs H Q E->vs.length=ps.length)
  (hbody:∀ (A:Cr) (outer:List Env) (s:Ah) (H:Hp) (vs:List V) (Q:VK) (E:XK),cT k (A.deeper (Ls qual scope s.heap.objs.size f cdv))->sp vs H Q E->
   ∃ t,fW (mJ CX P w K mg base N qual scope f cdv A outer s H E) body t/\t {nx:=fun _ H'=>Q .non H',rt:=Q} (start N vs) H) :
  fB P w K mg base CX (k + 1) f (Ek name qual params body scope dV kV doc pm an cdv ct) ps sp:=by
 refine⟨len,fun A outer s H args us vs Q E hr e0 hb r hsp=>?_⟩
 have hl:=len _ _ _ _ hsp
 have KX:K.In s.heap:=e0.mod.kin.keeps fun b o e=>(e0.bs b o e).1
 have lim:s.heap.NoLimit:=e0.mod.nolimit.keeps fun b o e=>(e0.bs b o e).1
 have hkind:∀ y∈ps.zip us,scope.names.lookup y.1=some .local\/(scope.names.lookup y.1=some .cell/\((cellsFrom (s.heap.objs.size + 1) scope.names []).lookup y.1).isSome=true):=fun⟨n,v⟩ hy=>by
  rcases S.par n (List.of_mem_zip hy).1 with q | q
  ·exact .inl q
  ·exact .inr ⟨q,PySem.W.cellsFrom_some _ _ _ (.inl q)⟩
 refine codeAny_call_function hr.depth (KX _ _ lk) rfl S.co S.gen rfl (PySem.W.codeRec_of KX hcd) (hb _ _ _ _ ?_)
 refine wpAny_newFunctionEnv_cells S.kind hkind fun env he s1 x=>?_
 subst he
 refine⟨lim.keeps x.toInCall.keep,codeAny_func ?_⟩
 obtain⟨t,ht,hq⟩:=hbody A outer s H vs Q E (hr.deeper _) hsp
 have I:Inv (mJ CX P w K mg base N qual scope f cdv A outer s H E) [] (start N vs) H s1:=UW S hr.hd e0 hl r x
 refine Ha (ht [] s1 (start N vs) H _ I hq) (fun fl s' hs=>?_) fun e s' hs=>hs
 have fin:∀ {σ':St} {H':Hp} {v:V} {u:Ae},Inv (mJ CX P w K mg base N qual scope f cdv A outer s H E) [] σ' H' s'->RelV v u->Q v H'->CE outer P w H s Q u s':=
  fun {σ' H' v u} J rv q=>⟨v,H',J.os,J.bare,J.base,J.hok,rv,q⟩
 cases fl with
 | ret u=>
  obtain⟨v,σ',H',J,rv,q⟩:=hs
  exact fin J rv q
 | next=>
  obtain⟨σ',H',J,q⟩:=hs
  exact fin (v:=V.non) (u:=Value.none) J rfl q
 | brk=>
  obtain⟨_,_,_,q⟩:=hs
  exact Fv q
 | cont=>
  obtain⟨_,_,_,q⟩:=hs
  exact Fv q
section
variable {X:Cx}{x:Str}{p pos:Pos}{e:Expr}{es:List Expr}{t:TA}{id T:String}{r:List V->Hp->VK->Prop}
def wO(r:List V->Hp->VK->Prop)(t:TA):TE:=fun σ H Q=>t σ H fun vs a=>r vs a Q
theorem UY(hc:cN X (.builtin id) r)(j:Gl X x)(k:X.mg x=none)(n:Ct x=some (.builtin id))(c:PA X (e :: es) t)(o:x≠"__name__":=by decide)(b:(x == ("__debug__" : Str))=false:=by decide)
  (g:Bl (e :: es) X.env=(false,eval e X.env) :: Bl es X.env:=by rfl) (a:(Fs pos (Bl es X.env)).any (·.1)=false:=by rfl):PE X (.Call (.Name x p) (e :: es) [] pos) (wO r t):=by
 intro pins s σ H Q I h
 refine Gb (mG I j k n ?_ o b)
 exact PyProof.Rows.callWith_builtin1 (a6 (c pos pins s σ H _ I h) fun us i ⟨vs,f,l,m,d⟩=>hc pins i σ f vs us Q l m d) g a
theorem UZ(hc:cN X (.type T) r)(j:Gl X x)(k:X.mg x=none)(n:Ct x=some (.type T))(c:PA X (e :: es) t)(o:x≠"__name__":=by decide)(b:(x == ("__debug__" : Str))=false:=by decide)
  (g:Bl (e :: es) X.env=(false,eval e X.env) :: Bl es X.env:=by rfl) (a:(Fs pos (Bl es X.env)).any (·.1)=false:=by rfl):PE X (.Call (.Name x p) (e :: es) [] pos) (wO r t):=by
 intro pins s σ H Q I h
 refine Gb (mG I j k n ?_ o b)
 exact El (a6 (c pos pins s σ H _ I h) fun us i ⟨vs,f,l,m,d⟩=>hc pins i σ f vs us Q l m d) g a
end
end L2
namespace HT
open PySem PyProof.Rows
section
variable {prog:Ay}{w:Bq}{A:Cr}{E:Ae->Ah->Prop}{s:Ah}
theorem cat_tup{t b:Addr}{vs ws:List Ae}{Q:Ae->Ah->Prop}(ht:IsTup s.heap t vs.toArray)(q:IsTup s.heap b ws.toArray)(m:vs≠[])
  (o:ws=[]->Q (.ref t) s) (p:ws≠[]->Q (.ref s.heap.objs.size) {s with heap:=s.heap.push {cls:=.type "tuple",data:=.seq (vs ++ ws).toArray}})
  (hsz:vs.length + ws.length<=Ai):Bf (Bu prog w) A (Dl .Add (.ref t) (.ref b)) Q E s:=by
 obtain⟨⟨cls,k,data,sl⟩,h,hc,n,hd⟩:=id ht
 obtain⟨⟨l,f,i,d⟩,a,g,j,c⟩:=id q
 simp only at hc hd g c
 subst hc hd g c
 have e:vs.toArray ++ ws.toArray=(vs ++ ws).toArray:=by simp
 by_cases hw:ws=[]
 ·exact concat_meets ⟨_,h,rfl⟩ ⟨_,a,rfl⟩ noFill_tuple_add seq_tuple_add La Kv (Kk _ _)
   (tuple_addW1 t b vs.toArray ws.toArray n j k f sl d (by simpa using m) (by simp[hw])) ⟨h,a,o hw⟩
 ·refine concat_meets ⟨_,h,rfl⟩ ⟨_,a,rfl⟩ noFill_tuple_add seq_tuple_add La Kv (Kk _ _)
   (tuple_addW2 t b vs.toArray ws.toArray n j k f sl d (by simpa using m) (by simpa using hw) (by rw[Az,Az];exact hsz)) ⟨h,a,?_⟩
  rw[e]
  exact p hw
def sIx(n d:Nat):Option Int->Nat
 | none=>d
 | some v=>if v < 0 then(v + (n:Int)).toNat else min v.toNat n
theorem sIx_nat(n d k:Nat):sIx n d (some (k:Int))=min k n:=by
 show(if (k:Int) < 0 then((k:Int) + (n:Int)).toNat else min (k:Int).toNat n)=min k n
 rw[if_neg (by lia),Du]
theorem U0(n d:Nat)(hd:d<=n)(o:Option Int):sIx n d o<=n:=by
 cases o with
 | none=>exact hd
 | some v=>
  show(if v < 0 then(v + (n:Int)).toNat else min v.toNat n)<=n
  by_cases a:v < 0
  ·rw[if_pos a];lia
  ·rw[if_neg a];exact Nat.min_le_right _ _
theorem F6(v:Int)(n d:Nat):(if v < 0 then max (v + (n:Int)) 0 else min v (n:Int))=((sIx n d (some v):Nat):Int):=by
 show(if v < 0 then max (v + (n:Int)) 0 else min v (n:Int))=(((if v < 0 then(v + (n:Int)).toNat else min v.toNat n):Nat):Int)
 by_cases a:v < 0
 ·simp only[if_pos a];lia
 ·simp only[if_neg a];lia
theorem U1(lo hi:Option Int)(n:Nat):Jo lo hi 1 (n:Int)=(((sIx n 0 lo:Nat):Int),((sIx n n hi:Nat):Int)):=by
 have a:¬ ((1:Int) < 0):=by lia
 unfold Jo
 simp only[a,if_false]
 refine Kd ?_ ?_
 ·cases lo with
  | none=>rfl
  | some v=>exact F6 v n 0
 ·cases hi with
  | none=>rfl
  | some v=>exact F6 v n n
theorem U2(i j:Nat):Gr (i:Int) (j:Int) 1=j - i:=by
 unfold Gr
 have a:(1:Int) > 0:=by lia
 simp only[a,if_true,Int.ediv_one]
 split <;> lia
theorem F7{v:Ae}{o:Option Int}{Q:Option Int->Ah->Prop}(p:IsPart v o)(h:Q o s):Bf (Bu prog w) A (Builtin.Slice.slicePartIndex v) Q E s:=by
 cases p with
 | none=>exact slicePart_none h
 | int i t=>exact slicePart_int h
theorem U3{sl:Addr}{c d:Ae}{lo hi:Option Int}{n:Nat}{Q:Int×Int×Nat->Ah->Prop}(e:s.heap.IsSliceOf sl c d .none)(pl:IsPart c lo)(g:IsPart d hi)
  (h:Q (((sIx n 0 lo:Nat):Int),1,sIx n n hi - sIx n 0 lo) s):Bf (Bu prog w) A (Builtin.Slice.sliceApplied (.ref sl) (pure (n:Int))) Q E s:=by
 obtain⟨os,b,f,a⟩:=id e
 unfold Builtin.Slice.sliceApplied Builtin.Slice.sliceFields
 refine Aa (Aa (Hw b a (x:=c) rfl (Aa (Hw b a (x:=d) rfl (Aa (Hw b a (x:=.none) rfl (Af ?_)))))))
 refine Aa (slicePart_none ?_)
 show Bf _ _ (if ((1:Int) == 0)=true then _ else _) _ _ s
 rw[if_neg (by decide)]
 refine Aa (F7 pl (Aa (F7 g (Aa (Af ?_)))))
 show Bf _ _ (match Jo lo hi 1 (n:Int) with | (lo,hi)=>pure (lo,(1:Int),Gr lo hi 1)) _ _ s
 rw[U1 lo hi n]
 show Bf _ _ (pure (((sIx n 0 lo:Nat):Int),(1:Int),Gr ((sIx n 0 lo:Nat):Int) ((sIx n n hi:Nat):Int) 1)) _ _ s
 rw[U2]
 exact Af h
theorem U4(xs:Array Ae)(i k:Nat):((Cv k).filterMap fun(m:Nat)=>xs[((i:Int) + (m:Int) * 1).toNat]?).toArray=((xs.toList.drop i).take k).toArray:=by
 have e:(fun(m:Nat)=>xs[((i:Int) + (m:Int) * 1).toNat]?)=fun m=>xs[i + m]?:=by
  funext m
  have:((i:Int) + (m:Int) * 1).toNat=i + m:=by lia
  rw[this]
 rw[e]
 have:=pick_run xs i k
 rw[List.filterMap_map] at this
 have a:((fun x=>xs[x]?) ∘ fun x=>i + x)=fun m=>xs[i + m]?:=rfl
 rw[a] at this
 rw[this]
theorem getItem_tuple_cut{t sl:Addr}{items:Array Ae}{g i:Ae}{lo hi:Option Int}{Q:Ae->Ah->Prop}(ht:IsTup s.heap t items)(f:s.heap.IsSliceOf sl g i .none)(pl:IsPart g lo)(j:IsPart i hi)
  (hw:¬ (sIx items.size 0 lo=0/\sIx items.size items.size hi=items.size))
  (h:Q (.ref s.heap.objs.size) {s with heap:=s.heap.push {cls:=.type "tuple",data:=.seq ((items.toList.drop (sIx items.size 0 lo)).take (sIx items.size items.size hi - sIx items.size 0 lo)).toArray}})
  (hsz:items.size<=Ai):Bf (Bu prog w) A (getItem (.ref t) (.ref sl)) Q E s:=by
 have a:sizeOk (.seq ((items.toList.drop (sIx items.size 0 lo)).take (sIx items.size items.size hi - sIx items.size 0 lo)).toArray):=by
  show((items.toList.drop (sIx items.size 0 lo)).take (sIx items.size items.size hi - sIx items.size 0 lo)).toArray.size<=Ai
  rw[Az,Cw,Ft,Fn]
  lia
 have o:sIx items.size items.size hi<=items.size:=U0 _ _ (Aj _) hi
 obtain⟨os,e,c,k⟩:=id f
 have d:s.TypeIs (.ref sl) "slice":=⟨os,e,c⟩
 unfold getItem
 try with_reducible refine Cy ?_
 first | refine Aa (Af ?_) | skip
 refine Aa (wpAny_sequenceKey ht.typeIs (by decide) ?_)
 refine Aa (Ew (name:=Bw "__getitem__") ht.typeIs Hz
  (Dc Hz ht.typeIs entry_tuple_getitem ?_ (args_tuple_getitem _ _)))
 show Bf _ _ (Builtin.Tuple.tupleItemsOf (.ref t) >>= _) _ _ s
 refine Aa (tupleItemsOf_ ht ?_)
 refine Aa (Kr d ?_)
 rw[if_pos (by decide)]
 refine Aa (U3 f pl j ?_)
 have b:¬ ((((sIx items.size 0 lo:Nat):Int) == 0 && (1:Int) == 1 && (sIx items.size items.size hi - sIx items.size 0 lo) == items.size)=true):=by
  intro q
  rw[Ce,Ce] at q
  have l:((sIx items.size 0 lo:Nat):Int)=0:=eq_of_beq q.1.1
  have n:sIx items.size items.size hi - sIx items.size 0 lo=items.size:=eq_of_beq q.2
  exact hw ⟨by lia,by lia⟩
 show Bf _ _ (if (((sIx items.size 0 lo:Nat):Int) == 0 && (1:Int) == 1 && (sIx items.size items.size hi - sIx items.size 0 lo) == items.size)=true then _ else _) _ _ s
 rw[if_neg b,U4]
 first
  | exact Aa (m:=Ex _) (Cm (Af ⟨_,rfl,Af h⟩) a)
  | exact Aa (m:=Ex _) (Cm (Aa (Af (Af ⟨_,rfl,Af h⟩))) a)
  | exact Aa (Aa (m:=Ex _) (Cm (Af (Af ⟨_,rfl,Af h⟩)) a))
  | exact Aa (Aa (m:=Ex _) (Cm (Af ⟨_,rfl,Af h⟩) a))
end
end HT
namespace L2
open PySem PySem.Spec PyProof.Rows
abbrev TO:=St->Hp->(Option Int->Hp->Prop)->Prop
def PO(X:Cx)(e:Option Expr)(t:TO):Prop:=
 ∀ (pins:List (Addr×Obj)) (s:Ah) (σ:St) (H:Hp) (Q:Option Int->Hp->Prop),Inv X pins σ H s->t σ H Q->
  Bf (Bu X.prog X.w) X.A (evalPart e X.env) (fun u b=>∃ o a,Inv X pins σ a b/\IsPart u o/\Q o a) X.xe s
def U5:TO:=fun _ H Q=>Q none H
def U6(t:TE):TO:=fun σ H Q=>t σ H fun x a=>∃ i,x=.int i/\Q (some i) a
section
variable {X:Cx}{e:Expr}{te:TE}{lo hi:Option Expr}{tl th:TO}{pos p2:Pos}
theorem U7:PO X none U5:=by
 intro pins s σ H Q I h
 rw[evalPart_none]
 exact Af ⟨none,H,I,.none,h⟩
theorem U8(h:PE X e te):PO X (some e) (U6 te):=by
 intro pins s σ H Q I hw
 rw[evalPart_some]
 refine a6 (h pins s σ H _ I hw) fun u f ⟨x,a,d,c,b⟩=>?_
 obtain⟨i,rfl,q⟩:=b
 obtain⟨t,rfl⟩:=c
 exact⟨some i,a,d,.int i t,q⟩
def sP(X:Cx)(r:V->Option Int->Option Int->Hp->VK->Prop):Prop:=
 ∀ (pins:List (Addr×Obj)) (s:Ah) (σ:St) (H:Hp) (x:V) (v a b:Ae) (lo hi:Option Int) (sl:Addr) (Q:VK),Inv X pins σ H s->RelV x v->s.heap.IsSliceOf sl a b .none->IsPart a lo->IsPart b hi->r x lo hi H Q->
  ∃ T id,typeLookup (.type T) "__getitem__" = pure (some (.builtin id))/\s.TypeIs v T/\Bf (Bu X.prog X.w) X.A (getItem v (.ref sl)) (EP X pins σ Q) X.xe s
def U9(r:V->Option Int->Option Int->Hp->VK->Prop)(te:TE)(tl th:TO):TE:=fun σ H Q=>te σ H fun x a=>tl σ a fun l b=>th σ b fun u c=>r x l u c Q
theorem VA{r:V->Option Int->Option Int->Hp->VK->Prop}(hr:sP X r)(z:PE X e te)(hl:PO X lo tl)(p:PO X hi th):PE X (.Subscript e (.Slice lo hi none p2) pos) (U9 r te tl th):=by
 intro pins s σ H Q I h
 refine Subscript_ (a6 (z pins s σ H _ I h) fun v G ⟨x,n,o,k,i⟩=>?_)
 refine wpAny_Slice (a6 (hl pins G σ n _ o i) fun c C ⟨l,y,m,pl,j⟩=>a6 (p pins C σ y _ m j) fun d a ⟨u,f,D,F,g⟩=>?_)
 rw[evalPart_none]
 refine Af ?_
 have t:Inv X pins σ f {a with heap:=a.heap.push {cls:=.type "slice",data:=.fields #[c,d,.none]}}:=D.kept (t':=a.toks) fun b ob q=>Ag _ q
 obtain⟨T,id,E,ht,B⟩:=hr pins {a with heap:=a.heap.push {cls:=.type "slice",data:=.fields #[c,d,.none]}} σ f x v c d l u a.heap.objs.size Q t k (Heap.IsSliceOf.new ..) pl F g
 show Bf (Bu X.prog X.w) X.A (subscriptTail e (.Slice lo hi none p2) v (.ref a.heap.objs.size)) (EP X pins σ Q) X.xe {a with heap:=a.heap.push {cls:=.type "slice",data:=.fields #[c,d,.none]}}
 exact tail_any (ops:=[.ref a.heap.objs.size,v]) ht E B (by with_unfolding_all rfl)
def mK(xs:List V)(lo hi:Option Int):List V:=(xs.drop (HT.sIx xs.length 0 lo)).take (HT.sIx xs.length xs.length hi - HT.sIx xs.length 0 lo)
theorem F8(xs:List V)(lo hi:Option Int):(mK xs lo hi).length<=xs.length:=by
 unfold mK
 rw[Cw,Ft]
 lia
def VB(K:Ac):V->Option Int->Option Int->Hp->VK->Prop:=fun x lo hi H Q=>∃ a xs,x=.ref a/\bV K H a xs/\
 ¬ (HT.sIx xs.length 0 lo=0/\HT.sIx xs.length xs.length hi=xs.length)/\∀ p,H p=none->Q (.ref p) (aR H p (.tup (mK xs lo hi)))
theorem VC:sP X (VB X.K):=by
 intro pins s σ H x v i j lo hi sl Q I g e pl f h
 obtain⟨a,xs,rfl,d,hw,q⟩:=h
 cases g
 obtain⟨its,r,ht,hz⟩:=I.tuple d
 have c:its.toArray.size=xs.length:=by rw[Az];exact r.length.symm
 refine⟨"tuple",_,Hz.lookup,ht.typeIs,?_⟩
 refine HT.getItem_tuple_cut ht e pl f (by rw[c];exact hw) ?_ (by rw[c];exact hz)
 rw[c]
 refine⟨.ref s.heap.objs.size,_,I.laid (t':=s.toks) (o:=.tup (mK xs lo hi)) (fun b ob q=>Ag _ q) (Aj _) ?_,rfl,q _ (I.hok.fresh (Aj _))⟩
 exact⟨Bs (F8 xs lo hi) hz,_,(r.drop (HT.sIx xs.length 0 lo)).take (HT.sIx xs.length xs.length hi - HT.sIx xs.length 0 lo),IsTup.new _ _⟩
def VD(K:Ac):R2:=fun x y H Q=>∃ a b xs ys,x=.ref a/\y=.ref b/\bV K H a xs/\bV K H b ys/\xs≠[]/\xs.length + ys.length<=Ai/\
 (ys=[]->Q (.ref a) H)/\(ys≠[]->∀ p,H p=none->Q (.ref p) (aR H p (.tup (xs ++ ys))))
theorem aZ.nil_iff{xs:List V}{us:List Ae}(r:aZ xs us):us=[]↔xs=[]:=by
 cases r with
 | nil=>simp
 | cons _ _=>simp
theorem VE:a8 X (Dl .Add) (VD X.K):=by
 intro pins s σ H x y v u Q I m g h
 obtain⟨a,b,xs,ys,rfl,rfl,k,n,f,hz,i,l⟩:=h
 cases m
 cases g
 obtain⟨its,d,j,_⟩:=I.tuple k
 obtain⟨e,c,p2,_⟩:=I.tuple n
 refine HT.cat_tup j p2 (fun z=>f (d.nil_iff.mp z)) (fun z=>⟨.ref a,H,I,rfl,i (c.nil_iff.mp z)⟩) (fun z=>?_) (by rw[<-d.length,<-c.length];exact hz)
 refine⟨.ref s.heap.objs.size,_,I.laid (t':=s.toks) (o:=.tup (xs ++ ys)) (fun b ob q=>Ag _ q) (Aj _) ?_,rfl,l (fun w=>z (c.nil_iff.mpr w)) _ (I.hok.fresh (Aj _))⟩
 exact⟨by rw[Am];exact hz,_,d.append c,IsTup.new _ _⟩
end
def fY(n:Nat)(i:Int):Option Nat:=if 0<=i then(if i < n then some i.toNat else none) else if -(n:Int)<=i then some (i + n).toNat else none
def bI{a:Type}(xs:List a)(i:Int):Option a:=(fY xs.length i).bind fun j=>xs[j]?
theorem wQ{n:Nat}{i:Int}{j:Nat}(h:fY n i=some j):seqIndex? i n=some j/\j < n/\-(n:Int)<=i/\i < n:=by
 unfold fY at h
 by_cases b:0<=i
 ·rw[if_pos b] at h
  by_cases a:i < n
  ·rw[if_pos a] at h
   have e:i.toNat=j:=Cp h
   exact⟨by rw[seqIndex_of b a,e],by lia,by lia,a⟩
  ·rw[if_neg a] at h;cases h
 ·rw[if_neg b] at h
  by_cases a : -(n:Int)<=i
  ·rw[if_pos a] at h
   have e:(i + n).toNat=j:=Cp h
   exact⟨by rw[seqIndex_neg (by lia) a,e],by lia,a,by lia⟩
  ·rw[if_neg a] at h;cases h
theorem wR{a:Type}{xs:List a}{i:Int}{v:a}(h:bI xs i=some v):∃ j,seqIndex? i xs.length=some j/\xs[j]? = some v/\j < xs.length/\-(xs.length:Int)<=i/\i < xs.length:=by
 unfold bI at h
 cases e:fY xs.length i with
 | none=>rw[e] at h;cases h
 | some j=>
  rw[e] at h
  obtain⟨b,c,d,f⟩:=wQ e
  exact⟨j,b,h,c,d,f⟩
theorem iW{a:Type}{xs:List a}{j:Nat}{v:a}(h:xs[j]? = some v):bI xs (j:Int)=some v:=by
 have b:j < xs.length:=(Ak.mp h).1
 have e:fY xs.length (j:Int)=some j:=by
  unfold fY
  rw[if_pos (by lia),if_pos (by lia)];simp
 unfold bI;rw[e];exact h
theorem F9{a:Type}(xs:List a)(v:a):bI (xs ++ [v]) (-1)=some v:=by
 have hl:(xs ++ [v]).length=xs.length + 1:=by simp
 have e:fY (xs ++ [v]).length (-1)=some xs.length:=by
  unfold fY
  rw[hl,if_neg (by decide),if_pos (by lia)]
  congr 1
  lia
 unfold bI
 rw[e]
 show(xs ++ [v])[xs.length]? = some v
 simp
def GA(b:Expr):Prop:=∀ o i,subscripted b false o i=operate [o,i] (getItem o i)
def jE(X:Cx)(r:R2):Prop:=
 ∀ (b a:Expr) (pins:List (Addr×Obj)) (s:Ah) (σ:St) (H:Hp) (x y:V) (v u:Ae) (Q:VK),Inv X pins σ H s->RelV x v->RelV y u->r x y H Q->
  subscripted a false v u=operate [v,u] (getItem v u)->Bf (Bu X.prog X.w) X.A (subscriptTail b a v u) (EP X pins σ Q) X.xe s
def fD(X:Cx)(id:String)(r:V->List V->Hp->VK->Prop):Prop:=
 ∀ (pins:List (Addr×Obj)) (s:Ah) (σ:St) (H:Hp) (x:V) (xs:List V) (v:Ae) (us:List Ae) (Q:VK),Inv X pins σ H s->RelV x v->aZ xs us->r x xs H Q->
  Bf (Bu X.prog X.w) X.A (call (.builtin id) (v :: us)) (EP X pins σ Q) X.xe s
section
variable {X:Cx}{a b:Expr}{ta tb:TE}{pos:Pos}
theorem jE.or{r d:R2}(h:jE X r)(h':jE X d):jE X (fun x y H Q=>r x y H Q\/d x y H Q):=by
 intro b a pins s σ H x y v u Q I f c q e
 rcases q with q | q
 ·exact h b a pins s σ H x y v u Q I f c q e
 ·exact h' b a pins s σ H x y v u Q I f c q e
theorem VF{r:R2}(hr:jE X r)(f:PE X a ta)(j:PE X b tb)(i:GA b):PE X (.Subscript a b pos) (p8 r ta tb):=by
 intro pins s σ H Q I h
 exact Subscript_ (wH f j I h fun v u g x y c d k e q=>hr a b pins g σ c x y v u Q d k e q (i _ _))
def VG(K:Ac):R2:=fun x y H Q=>∃ p xs i v,x=.ref p/\y=.int i/\bF K H p xs/\bI xs i=some v/\Q v H
def VH(K:Ac):R2:=fun x y H Q=>∃ p xs i v,x=.ref p/\y=.int i/\bV K H p xs/\bI xs i=some v/\Q v H
def VI:R2:=fun x y H Q=>∃ z i c,x=.str z/\y=.int i/\z.length<=Ai/\bI z.cps.toList i=some c/\Q (.str ⟨#[c]⟩) H
theorem VJ:jE X (VG X.K):=by
 intro e b pins s σ H x y v u Q I D C h g
 obtain⟨p,xs,i,z,rfl,rfl,l,o,q⟩:=h
 cases D
 obtain⟨t,rfl⟩:=C
 obtain⟨its,r,pl,hz⟩:=I.list l
 obtain⟨j,a,m,F,A,B⟩:=wR o
 obtain⟨w,f,c⟩:=r.get m
 have hl:=r.length
 have E:=lG
 have fin:EP X pins σ Q w s:=⟨z,H,I,c,q⟩
 by_cases k:0<=i
 ·have d:i.toNat=j:=by
   rw[seqIndex_of k B] at a
   exact Cp a
  exact item_listR pl.isList k (by lia) (by rw[d];simpa using f) fin g
 ·have d:(i + (its.toArray.size:Int)).toNat=j:=by
   rw[seqIndex_neg (by lia) A] at a
   rw[Az,<-hl]
   exact Cp a
  exact subscriptTail_builtinR (x:=w) pl.isList.typeIs slot_list_getitem.lookup
   (wpAny_getItem_list_neg (Q:=fun r n=>r=w/\EP X pins σ Q r n) pl.isList (by lia) (by rw[Az] <;> lia) (by lia) (by rw[d];simpa using f) ⟨rfl,fin⟩) g
theorem VL:jE X (VH X.K):=by
 intro c a pins s σ H x y v u Q I l k h n
 obtain⟨p,xs,i,z,rfl,rfl,e,g,q⟩:=h
 cases l
 obtain⟨t,rfl⟩:=k
 obtain⟨its,r,pl,hz⟩:=I.tuple e
 obtain⟨j,d,f,B,C,D⟩:=wR g
 obtain⟨w,o,b⟩:=r.get f
 have hl:=r.length
 have A:=lG
 have fin:EP X pins σ Q w s:=⟨z,H,I,b,q⟩
 exact subscriptTail_builtinR (x:=w) pl.typeIs slot_tuple_getitem.lookup
  (getItem_tuple (j:=j) (Q:=fun r m=>r=w/\EP X pins σ Q r m) pl (by lia) (by lia) (by rw[Az,<-hl];exact d) (by simpa using o) ⟨rfl,fin⟩) n
theorem VM:jE X VI:=by
 intro b a pins s σ H x y v u Q I o g h n
 obtain⟨z,i,c,rfl,rfl,hz,f,q⟩:=h
 obtain⟨t,rfl⟩:=o
 obtain⟨t',rfl⟩:=g
 obtain⟨j,d,e,w,m,p⟩:=wR f
 have hl:z.cps.toList.length=z.length:=by simp[Kj]
 rw[hl] at d m p
 have r:=lG
 exact tail_any (typeIs_str s z t) slot_str_getitem.lookup (getItem_str (c:=c) (by
  have l:decide (i < -(2 ^ 63:Int))=false:=decide_eq_false (by lia)
  have k:decide (i ≥ 2 ^ 63)=false:=decide_eq_false (by lia)
  rw[l,k,Bool.or_false]) (by rw[d];simpa using e) ⟨.str ⟨#[c]⟩,H,I.tok _,⟨_,rfl⟩,q⟩) n
theorem VN(its:List Ae)(n j:Nat)(u:Ae):Obj.mapSeq (·.setIfInBounds j u) {cls:=.type "list",data:=.seq its.toArray n} = {cls:=.type "list",data:=.seq (its.set j u).toArray n}:=by
 simp[Obj.mapSeq]
theorem Inv.lst{pins:List (Addr×Obj)}{σ:St}{H:Hp}{s:Ah}{p:Addr}{xs:List V}(I:Inv X pins σ H s)(h:H p=some (.lst xs)) :
  ∃ (its:List Ae) (n:Nat),aZ xs its/\s.heap.get? p=some {cls:=.type "list",data:=.seq its.toArray n}/\xs.length<=Ai:=by
 obtain⟨z,its,n,r,e⟩:=I.hok p _ h
 exact⟨its,n,r,e,z⟩
theorem Inv.lstUpd{pins:List (Addr×Obj)}{σ:St}{H:Hp}{s:Ah}{p:Addr}{xs ys:List V}{its its':List Ae}{n a:Nat}{f:Obj->Obj}(I:Inv X pins σ H s)(h:H p=some (.lst xs))
  (d:s.heap.get? p=some {cls:=.type "list",data:=.seq its.toArray n}) (hf:f {cls:=.type "list",data:=.seq its.toArray n} = {cls:=.type "list",data:=.seq its'.toArray a}) (r:aZ ys its') (hz:ys.length<=Ai) (t:Nat) :
  Inv X pins σ (aR H p (.lst ys)) {s with heap:=s.heap.update p f,toks:=t}:=by
 have e:(s.heap.update p f).get? p=some {cls:=.type "list",data:=.seq its'.toArray a}:=by
  rw[Gy f d (by rw[hf] <;> rfl),hf]
 refine I.write (x:=p) (e:=p) (by rw[h];trivial) (.inl rfl) (fun b u c q=>(Heap.get?_update_other _ _ (Ca c)).trans q) ⟨_,e⟩ ?_
 exact⟨hz,its',a,r,e⟩
def VO:V->V->V->Hp->(Hp->Prop)->Prop:=fun o i v H Q=>∃ p xs k j,o=.ref p/\i=.int k/\H p=some (.lst xs)/\fY xs.length k=some j/\Q (aR H p (.lst (xs.set j v)))
theorem VP:sH X VO:=by
 intro pins s σ H o i v A B u Q I l x m h
 obtain⟨p,xs,k,j,rfl,rfl,e,w,q⟩:=h
 cases l
 obtain⟨t,rfl⟩:=x
 obtain⟨its,n,r,b,hz⟩:=I.lst e
 obtain⟨a,y,d,f⟩:=wQ w
 have hl:=r.length
 have z:=lG
 have c:Inv X pins σ (aR H p (.lst (xs.set j v))) {s with heap:=s.heap.update p (Obj.mapSeq (·.setIfInBounds j u))}:=
  I.lstUpd e b (VN its n j u) (r.set m j) (by rw[List.length_set];exact hz) s.toks
 by_cases g:0<=k
 ·have hk:k.toNat=j:=by
   rw[seqIndex_of g f] at a
   exact Cp a
  exact PySem.W.ki_setAt b g (by lia) (by rw[Az,<-hl];exact f) (by rw[hk];exact⟨_,c,q⟩)
 ·have hk:(k + (its.toArray.size:Int)).toNat=j:=by
   rw[seqIndex_neg (by lia) d] at a
   rw[Az,<-hl]
   exact Cp a
  exact PySem.W.ki_setBack b (by lia) (by rw[Az,<-hl];exact d) (by lia) (by rw[hk];exact⟨_,c,q⟩)
theorem VQ(lo hi:Option Int)(n:Nat):(Jy lo hi none n).1=((HT.sIx n 0 lo:Nat):Int)/\(Jy lo hi none n).2.1=((HT.sIx n n hi:Nat):Int)/\(Jy lo hi none n).2.2=1:=by
 refine⟨?_,?_,rfl⟩
 ·cases lo with
  | none=>simp[Jy,HT.sIx]
  | some i=>
   simp only[Jy,HT.sIx,Option.getD_none,show(1:Int) > 0 by decide,if_true]
   by_cases h:i < 0
   ·simp only[h,if_true] <;> lia
   ·simp only[h,if_false] <;> lia
 ·cases hi with
  | none=>simp[Jy,HT.sIx]
  | some i=>
   simp only[Jy,HT.sIx,Option.getD_none,show(1:Int) > 0 by decide,if_true]
   by_cases h:i < 0
   ·simp only[h,if_true] <;> lia
   ·simp only[h,if_false] <;> lia
theorem VR(its:List Ae)(lo hi:Option Int):slicePick its.toArray lo hi none=((its.drop (HT.sIx its.length 0 lo)).take (HT.sIx its.length its.length hi - HT.sIx its.length 0 lo)).toArray:=by
 obtain⟨a,b,c⟩:=VQ lo hi its.toArray.size
 unfold slicePick
 rw[a,b,c]
 simp only[sliceRange_one,pick_run,Az] <;> rfl
def VS(K:Ac):V->Option Int->Option Int->Hp->VK->Prop:=fun x lo hi H Q=>∃ a xs,x=.ref a/\bF K H a xs/\∀ p,H p=none->Q (.ref p) (aR H p (.lst (mK xs lo hi)))
theorem wU:sP X (VS X.K):=by
 intro pins s σ H x v i j lo hi sl Q I g e pl f h
 obtain⟨a,xs,rfl,d,q⟩:=h
 cases g
 obtain⟨its,r,ht,hz⟩:=I.list d
 have c:=r.length
 refine⟨"list",_,slot_list_getitem.lookup,ht.isList.typeIs,?_⟩
 refine wpAny_getItem_list_slice ht.isList e pl f .none (by simp) ?_ (by rw[Az] <;> lia)
 rw[VR,<-c]
 refine⟨.ref s.heap.objs.size,_,I.laid (t':=s.toks) (o:=.lst (mK xs lo hi)) (fun b ob q=>Ag _ q) (Aj _) ?_,rfl,q _ (I.hok.fresh (Aj _))⟩
 exact⟨Bs (F8 xs lo hi) hz,_,0,(r.drop (HT.sIx xs.length 0 lo)).take (HT.sIx xs.length xs.length hi - HT.sIx xs.length 0 lo),Ar _ rfl⟩
def kI:V->Bool
 | .non=>true
 | .bl _=>true
 | .int _=>true
 | .str _=>true
 | _=>false
def kJ:V->V->Bool
 | .non,.non=>true
 | .bl a,.bl b=>a == b
 | .bl a,.int b=>(if a then 1 else 0) == b
 | .int a,.bl b=>a == (if b then 1 else 0)
 | .int a,.int b=>a == b
 | .str a,.str b=>a == b
 | _,_=>false
theorem VT{A:Cr}{s:Ah}{y x:V}{u v:Ae}(d:RelV y u)(c:RelV x v)(f:kI y=true)(e:kI x=true):SeqAt.EqAt A s u v (kJ y x):=by
 cases y with
 | non=>
  cases d
  cases x with
  | non=>cases c;exact SeqAt.EqAt.same _
  | bl b=>cases c;exact SeqAt.EqAt.none_bool b
  | int b=>obtain⟨t,rfl⟩:=c;exact SeqAt.EqAt.none_int b t
  | str b=>obtain⟨t,rfl⟩:=c;exact SeqAt.EqAt.none_str b t
  | _=>exact absurd (show false=true from e) Ap
 | bl a=>
  cases d
  cases x with
  | non=>cases c;exact SeqAt.EqAt.bool_none a
  | bl b=>cases c;exact SeqAt.EqAt.bool_bool a b
  | int b=>obtain⟨t,rfl⟩:=c;exact SeqAt.EqAt.bool_int a b t
  | str b=>obtain⟨t,rfl⟩:=c;exact SeqAt.EqAt.bool_str a b t
  | _=>exact absurd (show false=true from e) Ap
 | int a=>
  obtain⟨t',rfl⟩:=d
  cases x with
  | non=>cases c;exact SeqAt.EqAt.int_none a t'
  | bl b=>cases c;exact SeqAt.EqAt.int_bool a t' b
  | int b=>obtain⟨t,rfl⟩:=c;exact SeqAt.EqAt.int_int a t' b t
  | str b=>obtain⟨t,rfl⟩:=c;exact SeqAt.EqAt.int_str a t' b t
  | _=>exact absurd (show false=true from e) Ap
 | str a=>
  obtain⟨t',rfl⟩:=d
  cases x with
  | non=>cases c;exact SeqAt.EqAt.str_none a t'
  | bl b=>cases c;exact SeqAt.EqAt.str_bool a t' b
  | int b=>obtain⟨t,rfl⟩:=c;exact SeqAt.EqAt.str_int a t' b t
  | str b=>obtain⟨t,rfl⟩:=c;exact SeqAt.EqAt.str_str a t' b t
  | _=>exact absurd (show false=true from e) Ap
 | _=>exact absurd (show false=true from f) Ap
def g7(x:V)(u:Ae):Bool:=match u with
 | .none=>kJ .non x
 | .bool b=>kJ (.bl b) x
 | .int i _=>kJ (.int i) x
 | .str z _=>kJ (.str z) x
 | _=>false
theorem GB{x y:V}{u:Ae}(r:RelV y u)(f:kI y=true):g7 x u=kJ y x:=by
 cases y with
 | non=>cases r;rfl
 | bl b=>cases r;rfl
 | int i=>obtain⟨t,rfl⟩:=r;rfl
 | str z=>obtain⟨t,rfl⟩:=r;rfl
 | _=>exact absurd (show false=true from f) Ap
theorem p9{x:V}:∀ {xs:List V} {us:List Ae},aZ xs us->xs.all kI=true->us.any (g7 x)=xs.any fun y=>kJ y x
 | _,_,.nil,_=>rfl
 | y :: xs,u :: us,.cons r t,f=>by
  rw[Ib,Ce] at f
  rw[Em,Em,GB r f.1,p9 t f.2]
theorem qA{A:Cr}{s:Ah}{x:V}{v:Ae}(b:RelV x v)(c:kI x=true):∀ {xs:List V} {us:List Ae},aZ xs us->xs.all kI=true->∀ u∈us,SeqAt.EqAt A s u v (g7 x u)
 | _,_,.nil,_=>fun u a=>by cases a
 | y :: xs,u :: us,.cons r t,f=>fun d a=>by
  rw[Ib,Ce] at f
  rcases Be.mp a with rfl | a
  ·rw[GB r f.1];exact VT r b f.1 c
  ·exact qA b c t f.2 d a
def inV(x:V)(xs:List V):Bool:=xs.any fun y=>kJ y x
def rIn(K:Ac)(a:Bool):R2:=fun x y H Q=>∃ p xs,y=.ref p/\(bF K H p xs\/bV K H p xs)/\kI x=true/\xs.all kI=true/\Q (.bl (if a then !inV x xs else inV x xs)) H
theorem VU:a8 X (Cf .In) (rIn X.K false):=by
 intro pins s σ H x y v u Q I b d h
 obtain⟨p,xs,rfl,a,c,fs,q⟩:=h
 cases d
 rcases a with a | a
 ·obtain⟨its,r,pl,hz⟩:=I.list a
  refine SeqAt.in_listAt (g7 x) pl.isList (fun w hw=>qA b c r fs w (by simpa using hw)) ⟨.bl _,H,I,rfl,?_⟩
  rw[show its.toArray.any (g7 x)=its.any (g7 x) by simp,p9 r fs]
  exact q
 ·obtain⟨its,r,pl,hz⟩:=I.tuple a
  refine SeqAt.in_tupleAt (g7 x) pl (fun w hw=>qA b c r fs w (by simpa using hw)) ⟨.bl _,H,I,rfl,?_⟩
  rw[show its.toArray.any (g7 x)=its.any (g7 x) by simp,p9 r fs]
  exact q
theorem VW:a8 X (Cf .NotIn) (rIn X.K true):=by
 intro pins s σ H x y v u Q I b d h
 obtain⟨p,xs,rfl,a,c,fs,q⟩:=h
 cases d
 rcases a with a | a
 ·obtain⟨its,r,pl,hz⟩:=I.list a
  refine SeqAt.notIn_listAt (g7 x) pl.isList (fun w hw=>qA b c r fs w (by simpa using hw)) ⟨.bl _,H,I,rfl,?_⟩
  rw[show its.toArray.any (g7 x)=its.any (g7 x) by simp,p9 r fs]
  exact q
 ·obtain⟨its,r,pl,hz⟩:=I.tuple a
  refine SeqAt.notIn_tupleAt (g7 x) pl (fun w hw=>qA b c r fs w (by simpa using hw)) ⟨.bl _,H,I,rfl,?_⟩
  rw[show its.toArray.any (g7 x)=its.any (g7 x) by simp,p9 r fs]
  exact q
theorem VX:cN X (.builtin "len") (fun xs H Q=>∃ p ys,xs=[.ref p]/\(bF X.K H p ys\/bV X.K H p ys)/\Q (.int ys.length) H):=by
 intro pins s σ H xs us Q I r h
 obtain⟨p,ys,rfl,b,q⟩:=h
 obtain⟨u,rfl,d⟩:=vals1 r
 cases d
 have e:=lG
 rcases b with b | b
 ·obtain⟨its,c,pl,hz⟩:=I.list b
  have a:=c.length
  exact Calls.call_len_list pl.isList (by simp only[Az] <;> lia) ⟨.int ys.length,H,I.tok _,⟨s.toks + 1,by rw[Az,a]⟩,q⟩
 ·obtain⟨its,c,pl,hz⟩:=I.tuple b
  have a:=c.length
  exact len_tuple pl (by simp only[Az] <;> lia) ⟨.int ys.length,H,I.tok _,⟨s.toks + 1,by rw[Az,a]⟩,q⟩
theorem VY:cN X (.builtin "len") (fun xs H Q=>∃ z,xs=[.str z]/\z.length<=Ai/\Q (.int z.length) H):=by
 intro pins s σ H xs us Q I r h
 obtain⟨z,rfl,hz,q⟩:=h
 obtain⟨u,rfl,t,rfl⟩:=vals1 r
 have a:=lG
 exact len_str (by lia) ⟨.int z.length,H,I.tok _,⟨_,rfl⟩,q⟩
theorem cN.or{f:Ae}{r a:List V->Hp->VK->Prop}(h:cN X f r)(h':cN X f a):cN X f (fun xs H Q=>r xs H Q\/a xs H Q):=by
 intro pins s σ H xs us Q I rs q
 rcases q with q | q
 ·exact h pins s σ H xs us Q I rs q
 ·exact h' pins s σ H xs us Q I rs q
theorem VZ:cN X (.type "list") (fun xs H Q=>∃ p ys,xs=[.ref p]/\(bF X.K H p ys\/bV X.K H p ys)/\∀ l,H l=none->Q (.ref l) (aR H l (.lst ys))):=by
 intro pins s σ H xs us Q I r h
 obtain⟨p,ys,rfl,d,q⟩:=h
 obtain⟨u,rfl,j⟩:=vals1 r
 cases j
 have fin:∀ (its:List Ae),aZ ys its->ys.length<=Ai->∀ (h':Heap) (a:Nat),(∀ b i,s.heap.get? b=some i->h'.get? b=some i)->
   h'.get? s.heap.objs.size=some {cls:=.type "list",dict:=none,data:=.seq its.toArray a,slots:=#[]}->EP X pins σ Q (.ref s.heap.objs.size) {s with heap:=h'}:=fun its c hz h' a kp e=>
  ⟨.ref s.heap.objs.size,_,I.laid (t':=s.toks) kp (Aj _) (show cA X.prog X.w _ h' _ (.lst ys) from⟨hz,its,a,c,e⟩),rfl,q _ (I.hok.fresh (Aj _))⟩
 rcases d with d | d
 ·obtain⟨its,c,pl,hz⟩:=I.list d
  have f:=c.length
  obtain⟨o,g,hc,n,hd⟩:=pl.isList
  exact call_list_seq p (.inl rfl) g hc hd (fun h' a kp e=>fin its c hz h' a kp e) (by simp only[Az] <;> lia)
 ·obtain⟨its,c,pl,hz⟩:=I.tuple d
  have f:=c.length
  obtain⟨o,g,hc,n,hd⟩:=pl
  exact call_list_seq p (.inr rfl) g hc hd (fun h' a kp e=>fin its c hz h' a kp e) (by simp only[Az] <;> lia)
theorem V0:cN X (.type "tuple") (fun xs H Q=>∃ p ys,xs=[.ref p]/\((bF X.K H p ys/\∀ l,H l=none->Q (.ref l) (aR H l (.tup ys)))\/(bV X.K H p ys/\Q (.ref p) H))):=by
 intro pins s σ H xs us Q I r h
 obtain⟨p,ys,rfl,h⟩:=h
 obtain⟨u,rfl,i⟩:=vals1 r
 cases i
 rcases h with⟨a,q⟩ | ⟨a,q⟩
 ·obtain⟨its,c,pl,hz⟩:=I.list a
  have d:=c.length
  refine call_tuple_list pl.isList (fun h' kp=>?_) (by simp only[Az] <;> lia)
  have f:Inv X pins σ H {s with heap:=h'}:=I.kept (t':=s.toks) kp
  have g:Inv X pins σ (aR H h'.objs.size (.tup ys)) {s with heap:=h'.push {cls:=.type "tuple",data:=.seq its.toArray}}:=
   f.laid (t':=s.toks) (fun b o e=>Ag _ e) (Aj _) (show cA X.prog X.w _ _ _ (.tup ys) from⟨hz,its,c,IsTup.new _ _⟩)
  exact⟨.ref h'.objs.size,_,g,rfl,q _ (f.hok.fresh (Aj _))⟩
 ·obtain⟨its,c,pl,hz⟩:=I.tuple a
  exact call_tuple_same pl ⟨.ref p,H,I,rfl,q⟩
def sQ(K:Ac)(T:String)(x:V)(H:Hp):Prop:=match x with
 | .str _=>T = "str"
 | .int _=>T = "int"
 | .ref p=>(T = "list"/\∃ xs,bF K H p xs)\/(T = "tuple"/\∃ o,K.lookup p=some o/\o.cls=.type "tuple"/\o.dict=none)\/
   (T = "dict"/\((∃ kvs,Rd H p (.dK kvs))\/∃ kvs,Rd H p (.dT kvs)))\/(T = "set"/\∃ S n,H p=some (.set S n))
 | _=>False
theorem GC{pins:List (Addr×Obj)}{σ:St}{H:Hp}{s:Ah}{T:String}{x:V}{v:Ae}(I:Inv X pins σ H s)(r:RelV x v)(ty:sQ X.K T x H) :
  s.TypeIs v T/\∀ a,v=.ref a->∃ ob,s.heap.get? a=some ob/\ob.dict=none:=by
 cases x with
 | str z=>
  obtain⟨t,rfl⟩:=r
  cases (show T = "str" from ty)
  exact⟨typeIs_str s z t,fun _ e=>nomatch e⟩
 | int i=>
  obtain⟨t,rfl⟩:=r
  cases (show T = "int" from ty)
  exact⟨typeIs_int s i t,fun _ e=>nomatch e⟩
 | ref p=>
  cases r
  rcases ty with⟨rfl,xs,d⟩ | ⟨rfl,o,hk,hc,hd⟩ | ⟨rfl,hk⟩ | ⟨rfl,S,n,hk⟩
  ·obtain⟨its,_,pl,_⟩:=I.list d
   refine⟨pl.isList.typeIs,fun a e=>?_⟩
   cases e
   obtain⟨o,n,e,c,hd,_⟩:=pl
   exact⟨o,e,hd⟩
  ·refine⟨⟨o,I.kIn p o hk,hc⟩,fun a e=>?_⟩
   cases e
   exact⟨o,I.kIn _ o hk,hd⟩
  ·have z:∃ o,s.heap.get? p=some o/\o.ExactDict:=by
    rcases hk with⟨kvs,hk⟩ | ⟨kvs,hk⟩
    ·obtain⟨_,_,_,_,o,_,_,e,ex,_⟩:=hk.ok I.hok
     exact⟨o,e,ex⟩
    ·obtain⟨_,_,_,_,o,_,_,e,ex,_⟩:=hk.ok I.hok
     exact⟨o,e,ex⟩
   obtain⟨o,e,ex⟩:=z
   refine⟨⟨o,e,ex.1⟩,fun a b=>?_⟩
   cases b
   exact⟨o,e,ex.2.1⟩
  ·obtain⟨o,_,_,_,e,ex,_⟩:=I.hok p _ hk
   refine⟨⟨o,e,ex.1⟩,fun a b=>?_⟩
   cases b
   exact⟨o,e,ex.2.1⟩
 | _=>exact Fv ty
def V1(K:Ac)(T:String)(r:V->List V->Hp->VK->Prop)(to:TE):TE:=fun σ H Q=>to σ H fun x a=>sQ K T x a/\r x [] a Q
def V2(K:Ac)(T:String)(r:V->List V->Hp->VK->Prop)(to:TE)(t:TA):TE:=fun σ H Q=>to σ H fun x a=>sQ K T x a/\t σ a fun xs b=>r x xs b Q
variable {o e:Expr}{es:List Expr}{to:TE}{t:TA}{name:Str}{apos cpos:Pos}{T id:String}{r:V->List V->Hp->VK->Prop}
theorem GD(i:Mg T)(slot:Slot T name id)(c:typeOf (.builtin id)=pure (.type "method_descriptor"))(m:fD X id r)(k:PE X o to)
  (b:Ez o name X.env (eval o X.env)=eval o X.env:=by rfl) (a:(apos.endLine == cpos.line)=true:=by rfl):PE X (.Call (.Attribute o name apos) [] [] cpos) (V1 X.K T r to):=by
 intro pins s σ H Q I h
 refine wpAny_Call_method0_late b a (a6 (k pins s σ H _ I h) fun v n ⟨x,j,e,d,ty,l⟩=>?_)
 obtain⟨f,g⟩:=GC e d ty
 exact⟨T,id,i,slot,c,f,g,Iy rfl (PySem.evalArgs_none (m pins n σ j x [] v [] Q e d .nil l))⟩
theorem V3(z:Mg T)(slot:Slot T name id)(f:typeOf (.builtin id)=pure (.type "method_descriptor"))(D:fD X id r)(k:PE X o to)(m:PA X (e :: es) t)
  (b:Ez o name X.env (eval o X.env)=eval o X.env:=by rfl)
  (d:((Fs cpos (Bl (e :: es) X.env)).all (fun x=>!x.1) && (Ly cpos (Jj [] X.env)).all (fun x=>x.1.isSome)
   && decide ((e :: es).length + ([]:List Na).length + (if ([]:List Na).isEmpty then 0 else 1) < 30))=true:=by rfl)
  (c:(apos.endLine == cpos.line)=true:=by rfl) (B:Bl (e :: es) X.env=(false,eval e X.env) :: Bl es X.env:=by rfl) (a:(Fs cpos (Bl es X.env)).any (·.1)=false:=by rfl) :
  PE X (.Call (.Attribute o name apos) (e :: es) [] cpos) (V2 X.K T r to t):=by
 intro pins s σ H Q I h
 refine wpAny_Call_method_late b d c rfl (a6 (k pins s σ H _ I h) fun v E ⟨x,w,j,i,ty,l⟩=>?_)
 obtain⟨p,q⟩:=GC j i ty
 refine⟨T,id,z,slot,f,p,q,?_⟩
 have g:=m cpos pins E σ w _ j l
 rw[B] at g ⊢
 refine Iy (by show(false || (Fs cpos (Bl es X.env)).any (·.1))=false;rw[a] <;> rfl) (Calls.evalArgs_plain ?_)
 exact a6 g fun us C ⟨vs,A,u,y,n⟩=>D pins C σ A x vs v us Q u i y n
end
def qB(X:Cx)(id:String)(r:V->List V->Hp->VK->Prop):Prop:=
 ∀ (pins:List (Addr×Obj)) (s:Ah) (σ:St) (H:Hp) (x:V) (xs:List V) (v:Ae) (us:List Ae) (Q:VK),Inv X pins σ H s->RelV x v->aZ xs us->r x xs H Q->
  Bf (Bu X.prog X.w) X.A (call (.builtin id) (v :: us)) (EP X pins σ Q) X.xe s
theorem aZ.one:∀ {x:V} {us:List Ae},aZ [x] us->∃ u,us=[u]/\RelV x u
 | _,_,.cons r .nil=>⟨_,rfl,r⟩
theorem aZ.zero:∀ {us:List Ae},aZ [] us->us=[]
 | _,.nil=>rfl
theorem aZ.dropLast{xs:List V}{us:List Ae}(h:aZ xs us):aZ xs.dropLast us.dropLast:=by
 induction h with
 | nil=>exact .nil
 | cons r t a=>
  cases t with
  | nil=>exact .nil
  | cons q t'=>exact .cons r a
theorem aZ.rep{xs:List V}{us:List Ae}(h:aZ xs us):∀ k:Nat,aZ (Br k xs).flatten (Br k us).flatten
 | 0=>.nil
 | k + 1=>by
  rw[Dx,Dx,Gi,Gi]
  exact aZ.append h (aZ.rep h k)
theorem V4{c:Type}(l:List c):l.eraseIdx (l.length - 1)=l.dropLast:=by
 induction l with
 | nil=>rfl
 | cons a r d=>
  cases r with
  | nil=>rfl
  | cons b r=>
   have e:(a :: b :: r).length - 1=((b :: r).length - 1) + 1:=by
    have f:(a :: b :: r).length=r.length + 2:=rfl
    have g:(b :: r).length=r.length + 1:=rfl
    lia
   rw[e,List.eraseIdx_cons_succ,d]
   all_goals rfl
theorem foldl_rep(its:List Ae):∀ (k:Nat) (acc:List Ae),
  List.foldl (fun x1 x2=>x1 ++ x2) acc.toArray (Br k its.toArray)=(acc ++ (Br k its).flatten).toArray
 | 0,acc=>by simp
 | k + 1,acc=>by
  have e:acc.toArray ++ its.toArray=(acc ++ its).toArray:=by simp
  have a:(acc ++ its) ++ (Br k its).flatten=acc ++ (Br (k + 1) its).flatten:=by
   rw[Dx,Gi,Hc]
  rw[<-a,<-foldl_rep its k (acc ++ its),<-e,Dx,Dj]
section
variable {X:Cx}{pins:List (Addr×Obj)}{σ:St}{H:Hp}{s:Ah}{l b:Addr}{xs ys zs:List V}
theorem Inv.lset{its its':List Ae}{n:Nat}{f:Array Ae->Array Ae}{t':Nat}(I:Inv X pins σ H s)(d:H l=some (.lst xs))
  (e:s.heap.get? l=some {cls:=.type "list",data:=.seq its.toArray n}) (hf:f its.toArray=its'.toArray) (a:aZ ys its') (hz:ys.length<=Ai) :
  Inv X pins σ (aR H l (.lst ys)) {s with heap:=s.heap.update l (Obj.mapSeq f),toks:=t'}:=by
 have q:=PySem.IsL.update e f
 rw[hf] at q
 refine I.write (x:=l) (e:=l) (by rw[d];exact trivial) (.inl rfl) (fun g u b c=>(Heap.get?_update_other s.heap (Obj.mapSeq f) (Ca b)).trans c) ⟨_,q⟩ ?_
 exact⟨hz,its',_,a,q⟩
theorem Inv.lnew{its:List Ae}{t':Nat}(I:Inv X pins σ H s)(a:aZ ys its)(hz:ys.length<=Ai) :
  Inv X pins σ (aR H s.heap.objs.size (.lst ys)) {s with heap:=s.heap.push {cls:=.type "list",data:=.seq its.toArray},toks:=t'}:=
 I.laid (fun _ _ q=>Ag _ q) (Aj _) ⟨hz,its,0,a,Ar _ rfl⟩
theorem Inv.fresh(I:Inv X pins σ H s):H s.heap.objs.size=none:=I.hok.fresh (Aj _)
theorem Inv.lstM(I:Inv X pins σ H s)(a:H l=some (.lst xs)):xs.length<=Ai/\∃ (its:List Ae) (n:Nat),aZ xs its/\xs.length=its.length/\s.heap.get? l=some {cls:=.type "list",data:=.seq its.toArray n}:=by
 obtain⟨z,its,n,r,e⟩:=I.hok l _ a
 exact⟨z,its,n,r,r.length,e⟩
theorem V5{n:Nat}(h:n<=Ai):Jt n=false:=by
 unfold Jt
 exact decide_eq_false (by lia)
end
section
variable {X:Cx}
def rAppend:V->List V->Hp->VK->Prop:=fun x vs H Q=>∃ l xs y,x=.ref l/\vs=[y]/\H l=some (.lst xs)/\xs.length < Ai/\Q .non (aR H l (.lst (xs ++ [y])))
theorem GF:qB X "list.append" rAppend:=by
 intro pins s σ H x vs v us Q I d c h
 obtain⟨l,xs,y,rfl,rfl,a,hz,q⟩:=h
 cases d
 obtain⟨u,rfl,b⟩:=c.one
 obtain⟨z,its,n,r,hl,e⟩:=I.lstM a
 refine Jf Dd ⟨_,e,rfl⟩ F.entry_list_append (F.args_list_append_2 _ _) (PySem.list_append l its.toArray n u (by rw[Az];lia)) ⟨e,?_⟩
 refine⟨.non,_,I.lset (its':=its ++ [u]) a e (by simp) (r.append (.cons b .nil)) ?_,rfl,q⟩
 rw[Am,Bn]
 lia
def rPop:V->List V->Hp->VK->Prop:=fun x vs H Q=>∃ l xs y,x=.ref l/\vs=[]/\H l=some (.lst xs)/\xs[xs.length - 1]? = some y/\Q y (aR H l (.lst xs.dropLast))
theorem V6:qB X "list.pop" rPop:=by
 intro pins s σ H x vs v us Q I i f h
 obtain⟨l,xs,y,rfl,rfl,c,g,q⟩:=h
 cases i
 have b:=f.zero
 subst b
 obtain⟨z,its,n,r,hl,e⟩:=I.lstM c
 obtain⟨u,j,d⟩:=r.get g
 have a:its.toArray[its.toArray.size - 1]? = some u:=by
  show its.toArray[its.length - 1]? = some u
  rw[<-Fx,<-hl]
  exact j
 refine Jf Ka ⟨_,e,rfl⟩ F.entry_list_pop (F.args_list_pop_1 _) (MeetsSeq.list_pop_last l its.toArray n u a (by rw[Az];lia)) ⟨e,?_⟩
 refine⟨y,_,I.lset (its':=its.dropLast) c e ?_ r.dropLast ?_,d,q⟩
 ·show its.toArray.eraseIdxIfInBounds (its.toArray.size - 1)=its.dropLast.toArray
  rw[Az,List.eraseIdxIfInBounds_toArray,V4]
 ·rw[List.length_dropLast]
  lia
def rClear:V->List V->Hp->VK->Prop:=fun x vs H Q=>∃ l xs,x=.ref l/\vs=[]/\H l=some (.lst xs)/\Q .non (aR H l (.lst []))
theorem V7:qB X "list.clear" rClear:=by
 intro pins s σ H x vs v us Q I d c h
 obtain⟨l,xs,rfl,rfl,b,q⟩:=h
 cases d
 have a:=c.zero
 subst a
 obtain⟨z,its,n,r,hl,e⟩:=I.lstM b
 refine Jf F.slot_list_clear ⟨_,e,rfl⟩ F.entry_list_clear (F.args_list_clear_1 _) (AutoSeq1.list_clear_list_0 l its.toArray n (by rw[Az];lia)) ⟨e,?_⟩
 exact⟨.non,_,I.lset (its':=[]) (ys:=[]) b e rfl .nil (De _),rfl,q⟩
def V8:R2:=fun x y H Q=>∃ l b xs zs,x=.ref l/\y=.ref b/\H l=some (.lst xs)/\H b=some (.lst zs)/\xs.length + zs.length<=Ai/\∀ p,H p=none->Q (.ref p) (aR H p (.lst (xs ++ zs)))
theorem V9:a8 X (Dl .Add) V8:=by
 intro pins s σ H x y v u Q I j c h
 obtain⟨l,b,xs,zs,rfl,rfl,m,k,hz,q⟩:=h
 cases j
 cases c
 obtain⟨z,its,n,r,hl,e⟩:=I.lstM m
 obtain⟨z2,a,o,g,i,d⟩:=I.lstM k
 refine PySem.P.add_list e d ?_ (by rw[Az,Az];lia)
 have f:its.toArray ++ a.toArray=(its ++ a).toArray:=by simp
 rw[f]
 exact⟨.ref _,_,I.lnew (t':=s.toks) (r.append g) (by rw[Am];lia),rfl,q _ I.fresh⟩
def WA:R2:=fun x y H Q=>∃ l k xs,x=.ref l/\y=.int k/\H l=some (.lst xs)/\-(2 ^ 63)<=k/\k < 2 ^ 63/\xs.length * k.toNat<=Ai/\
 ∀ p,H p=none->Q (.ref p) (aR H p (.lst (Br k.toNat xs).flatten))
theorem WB{a:Type}(xs:List a)(k:Nat):(Br k xs).flatten.length=k * xs.length:=by
 induction k with
 | zero=>simp
 | succ k b=>rw[Dx,Gi,Am,b,Lw,Nat.add_comm]
theorem WC:a8 X (Dl .Mult) WA:=by
 intro pins s σ H x y v u Q I rx ry h
 obtain⟨l,k,xs,rfl,rfl,hH,h1,h2,hz,q⟩:=h
 cases rx
 obtain⟨t,rfl⟩:=ry
 obtain⟨z,its,n,r,hl,e⟩:=I.lstM hH
 have hlen:its.toArray.size * k.toNat<=Ai:=by rw[Az,<-hl];exact hz
 have hcap:¬ its.toArray.size * k.toNat > (2 ^ 63 - 1) / 8:=by
  have:(Ai:Nat)<=(2 ^ 63 - 1) / 8:=by decide
  lia
 have hfit:¬ (!Builtin.List.listFitsIndex k)=true:=by
  rw[fitsIndex_both h1 h2]
  exact Ap
 have hlong:¬ Jt (its.toArray.size * k.toNat)=true:=by
  rw[V5 hlen]
  exact Ap
 have hnew:List.foldl (fun x1 x2=>x1 ++ x2) #[] (Br (if its.toArray.isEmpty=true then 0 else k.toNat) its.toArray)=(Br k.toNat its).flatten.toArray:=by
  have f0:∀ m:Nat,List.foldl (fun x1 x2=>x1 ++ x2) #[] (Br m its.toArray)=(Br m its).flatten.toArray:=fun m=>by
   have:=foldl_rep its m []
   rw[Ie] at this
   exact this
  rw[f0]
  cases its with
  | nil=>simp
  | cons a r'=>rw[if_neg (by simp)]
 refine wpAny_binaryOp_repeat_ref (T:="list") (U:="int") (by decide) ⟨_,e,rfl⟩ (fun s'=>typeIs_int s' k t) noFill_list_mul F.fills_int_mul F.slot_int_rmul repeat_list F.slot_int_index.lookup
  (Jf F.slot_int_rmul (typeIs_int s k t) F.entry_int_rmul (F.args_int_rmul_2 _ _) (int___rmul___int_list k t l its.toArray n)
   ⟨e,rfl,⟨_,e,rfl⟩,Jf F.slot_list_mul ⟨_,e,rfl⟩ F.entry_list_mul (F.args_list_mul_2 _ _) (AutoListH.list___mul___list_int_3 l its.toArray n k t hfit hcap hlong) ⟨e,?_⟩⟩)
 rw[hnew]
 exact⟨.ref _,_,I.lnew (t':=s.toks) (r.rep k.toNat) (by rw[WB,Nat.mul_comm];exact hz),rfl,q _ I.fresh⟩
end
section
variable {κ:Type}[DecidableEq κ]
def fZ(kvs:List (κ×V))(k:κ):Option V:=(kvs.find? fun a=>decide (a.1=k)).map (·.2)
def dY(kvs:List (κ×V))(k:κ)(v:V):List (κ×V):=
 if (kvs.any fun a=>decide (a.1=k))=true then kvs.map (fun a=>if a.1=k then(a.1,v) else a) else kvs ++ [(k,v)]
def nD(kvs:List (κ×V))(k:κ):List (κ×V):=kvs.filter fun a=>decide (a.1≠k)
theorem sR{p:κ×V}{r:List (κ×V)}{k:κ}(e:p.1=k):fZ (p :: r) k=some p.2:=by simp[fZ,Cs,e]
theorem sS{p:κ×V}{r:List (κ×V)}{k:κ}(e:¬ p.1=k):fZ (p :: r) k=fZ r k:=by simp[fZ,Cs,e]
theorem GG(k:κ):∀ kvs:List (κ×V),(kvs.any fun a=>decide (a.1=k))=(fZ kvs k).isSome
 | []=>rfl
 | p :: r=>by
  rw[Em]
  by_cases e:p.1=k
  ·simp only[sR e,decide_eq_true e,Bool.true_or,Option.isSome_some]
  ·rw[sS e,decide_eq_false e,Bool.false_or];exact GG k r
theorem oM(kvs:List (κ×V))(k:κ)(v:V):(dY kvs k v).length<=kvs.length + 1:=by
 unfold dY
 split
 ·rw[Ab];lia
 ·rw[Am,Bk,Js];lia
theorem fN.isSome_eq{o:Option V}{u:Option Ae}(r:fN o u):o.isSome=u.isSome:=by
 cases o with
 | none=>cases u with
  | none=>rfl
  | some _=>exact(show False from r).elim
 | some _=>cases u with
  | none=>exact(show False from r).elim
  | some _=>rfl
theorem fN.getD{o:Option V}{u:Option Ae}{d:V}{d':Ae}(r:fN o u)(a:RelV d d'):RelV (o.getD d) (u.getD d'):=by
 cases o with
 | none=>cases u with
  | none=>exact a
  | some _=>exact(show False from r).elim
 | some _=>cases u with
  | none=>exact(show False from r).elim
  | some _=>exact r
theorem KV.val{kvs:List (κ×V)}{vs:List (κ×Ae)}(r:KV kvs vs)(k:κ):fN (fZ kvs k) (valueAt vs k):=by
 unfold KV at r
 induction r with
 | nil=>exact True.intro
 | @cons p q ps qs h t f=>
  obtain⟨c,d⟩:=h
  by_cases e:p.1=k
  ·have a:q.1=k:=c.symm.trans e
   have b:valueAt (q :: qs) k=some q.2:=by simp[valueAt,Cs,a]
   rw[sR e,b];exact d
  ·have a:¬ q.1=k:=fun z=>e (c.trans z)
   have b:valueAt (q :: qs) k=valueAt qs k:=by simp[valueAt,Cs,a]
   rw[sS e,b];exact f
theorem KV.any{kvs:List (κ×V)}{vs:List (κ×Ae)}(r:KV kvs vs)(k:κ):(kvs.any fun a=>decide (a.1=k))=vs.any fun a=>decide (a.1=k):=by
 unfold KV at r
 induction r with
 | nil=>rfl
 | cons h t b=>rw[Em,Em,b,h.1]
theorem KV.repl{kvs:List (κ×V)}{vs:List (κ×Ae)}(r:KV kvs vs)(k:κ){y:V}{u:Ae}(d:RelV y u) :
  KV (kvs.map fun a=>if a.1=k then(a.1,y) else a) (vs.map fun a=>if a.1=k then(a.1,u) else a):=by
 unfold KV at r ⊢
 induction r with
 | nil=>exact .nil
 | @cons p q ps qs h t f=>
  rw[Au,Au]
  refine .cons ?_ f
  obtain⟨b,c⟩:=h
  by_cases e:p.1=k
  ·rw[if_pos e,if_pos (b.symm.trans e)];exact⟨b,d⟩
  ·rw[if_neg e,if_neg (fun z=>e (b.trans z))];exact⟨b,c⟩
theorem KV.put{kvs:List (κ×V)}{vs:List (κ×Ae)}(r:KV kvs vs)(k:κ){y:V}{u:Ae}(a:RelV y u):KV (dY kvs k y) (stored vs k u):=by
 unfold dY stored
 rw[r.any k]
 by_cases e:(vs.any fun b=>decide (b.1=k))=true
 ·rw[if_pos e,if_pos e];exact r.repl k a
 ·rw[if_neg e,if_neg e];exact Paired.snoc r ⟨rfl,a⟩
theorem KV.length{kvs:List (κ×V)}{vs:List (κ×Ae)}(r:KV kvs vs):kvs.length=vs.length:=Cu r
theorem WD(kvs:List (κ×V))(k:κ):(nD kvs k).length<=kvs.length:=List.length_filter_le _ _
end
theorem jY{P:Ay}{w:Bq}{k:aD}{u:Ae}(r:RelV (kV k) u):(bH P w).is k u=true:=by
 cases k with
 | inl i=>obtain⟨t,e⟩:=(show ∃ t,u=Value.int i t from r);subst e;exact QK P w i t
 | inr x=>obtain⟨t,e⟩:=(show ∃ t,u=Value.str x t from r);subst e;exact QL P w x t
theorem GH{P:Ay}{w:Bq}:∀ {ks:List aD} {us:List Ae},aZ (ks.map kV) us->ItemsAre (bH P w) ks us
 | [],_,r=>by rw[Jd] at r;cases r;exact .nil
 | k :: ks,_,r=>by
  rw[Au] at r
  cases r with
  | cons h t=>exact .cons (jY h) (GH t)
abbrev KT(H:Hp):List (List aD×V)->List (List aD×Addr×Ae)->Prop:=Fm fun p q=>p.1=q.1/\H q.2.1=some (.tup (p.1.map kV))/\RelV p.2 q.2.2
theorem KT.val{H:Hp}{kvs:List (List aD×V)}{xs:List (List aD×Addr×Ae)}(r:KT H kvs xs)(k:List aD):fN (fZ kvs k) ((Jr xs k).map (·.2)):=by
 induction r with
 | nil=>exact True.intro
 | @cons p q ps qs h t f=>
  obtain⟨c,_,d⟩:=h
  by_cases e:p.1=k
  ·have a:q.1=k:=c.symm.trans e
   have b:Jr (q :: qs) k=some q.2:=by simp[Jr,Cs,a]
   rw[sR e,b];exact d
  ·have a:¬ q.1=k:=fun z=>e (c.trans z)
   have b:Jr (q :: qs) k=Jr qs k:=by simp[Jr,Cs,a]
   rw[sS e,b];exact f
theorem KT.repl{H:Hp}{kvs:List (List aD×V)}{xs:List (List aD×Addr×Ae)}(r:KT H kvs xs)(k:List aD){y:V}{u:Ae}(g:RelV y u) :
  KT H (kvs.map fun b=>if b.1=k then(b.1,y) else b) (xs.map (putAt k u)):=by
 induction r with
 | nil=>exact .nil
 | @cons p q ps qs h t f=>
  rw[Au,Au]
  refine .cons ?_ f
  obtain⟨a,c,d⟩:=h
  unfold putAt
  by_cases e:p.1=k
  ·rw[if_pos e,if_pos (a.symm.trans e)];exact⟨a,c,g⟩
  ·rw[if_neg e,if_neg (fun z=>e (a.trans z))];exact⟨a,c,d⟩
theorem KT.put{H:Hp}{kvs:List (List aD×V)}{xs:List (List aD×Addr×Ae)}(r:KT H kvs xs)(k:List aD){b:Addr}{y:V}{u:Ae}(d:H b=some (.tup (k.map kV)))(a:RelV y u) :
  KT H (dY kvs k y) (Ll xs k b u):=by
 have e:(kvs.any fun c=>decide (c.1=k))=(Jr xs k).isSome:=by
  rw[GG,(r.val k).isSome_eq,Gs]
 unfold dY Ll
 rw[e]
 by_cases q:(Jr xs k).isSome=true
 ·rw[if_pos q,if_pos q];exact r.repl k a
 ·rw[if_neg q,if_neg q];exact Paired.snoc r ⟨rfl,d,a⟩
theorem KT.keeps{H a:Hp}{kvs:List (List aD×V)}{xs:List (List aD×Addr×Ae)}(r:KT H kvs xs)(ht:∀ b ys,H b=some (.tup ys)->a b=some (.tup ys)):KT a kvs xs:=
 Paired.mapP r fun _ _ z=>⟨z.1,ht _ _ z.2.1,z.2.2⟩
section
variable {P:Ay}{w:Bq}{H:Hp}{h:Heap}{a:Addr}
theorem GJ{u:HO}(ok:cR P w H h)(e:Rd H a u):cA P w H h a u:=e.ok ok
theorem mL{kvs:List (aD×V)}(ok:cR P w H h)(e:Rd H a (.dK kvs)):kvs.length<=Ai/\(a == Eg)=false/\∃ vs,KV kvs vs/\h.DictOf (bH P w) a vs:=
 show cA P w H h a (.dK kvs) from GJ ok e
theorem GK{kvs:List (aD×V)}(ok:cR P w H h)(e:H a=some (.dK kvs)):kvs.length<=Ai/\(a == Eg)=false/\∃ vs,KV kvs vs/\h.DictOf (bH P w) a vs:=mL ok (.inl e)
theorem jZ{ks:List aD}(ok:cR P w H h)(e:H a=some (.tup (ks.map kV))):(Fq (bH P w)).is h ks a:=by
 obtain⟨_,its,r,o,c,b,n,d⟩:=(show cA P w H h a (.tup (ks.map kV)) from ok a _ e)
 exact⟨o,its.toArray,n,c,b,d,by simpa using GH r⟩
theorem nE{kvs:List (List aD×V)}(ok:cR P w H h)(e:Rd H a (.dT kvs)):kvs.length<=Ai/\(a == Eg)=false/\
  ∃ xs,KT H kvs xs/\h.DictOfH (Fq (bH P w)) a xs:=by
 obtain⟨z,y,xs,r,o,es,ep,g,k,d,f,i⟩:=(show cA P w H h a (.dT kvs) from GJ ok e)
 refine⟨z,y,xs,r,o,es,ep,g,k,d,f,fun x b=>?_,i⟩
 have all:∀ {l:List (List aD×V)} {m:List (List aD×Addr×Ae)},KT H l m->∀ x∈m,(Fq (bH P w)).is h x.1 x.2.1:=by
  intro l m q
  induction q with
  | nil=>intro x b;exact nomatch b
  | @cons p q ps qs c t j=>
   intro x b
   rcases Be.mp b with e | b
   ·subst e
    exact jZ ok (by rw[<-c.1];exact c.2.1)
   ·exact j x b
 exact all r x b
theorem wV{kvs:List (List aD×V)}(ok:cR P w H h)(e:H a=some (.dT kvs)):kvs.length<=Ai/\(a == Eg)=false/\
  ∃ xs,KT H kvs xs/\h.DictOfH (Fq (bH P w)) a xs:=nE ok (.inl e)
end
def g8(H:Hp)(a:Addr)(y:V)(r:Option V):Prop:=
 (∃ kvs k,Rd H a (.dK kvs)/\y=kV k/\r=fZ kvs k)\/∃ kvs k b,Rd H a (.dT kvs)/\y=.ref b/\H b=some (.tup (k.map kV))/\r=fZ kvs k
def mM(H:Hp)(a:Addr)(y v:V)(c:Hp):Prop:=
 (∃ kvs k,H a=some (.dK kvs)/\y=kV k/\kvs.length < Ai/\c=aR H a (.dK (dY kvs k v)))\/
 ∃ kvs k b,H a=some (.dT kvs)/\y=.ref b/\H b=some (.tup (k.map kV))/\kvs.length < Ai/\c=aR H a (.dT (dY kvs k v))
theorem mM.k{H:Hp}{a:Addr}{kvs:List (aD×V)}{k:aD}{v:V}(e:H a=some (.dK kvs))(hl:kvs.length < Ai):mM H a (kV k) v (aR H a (.dK (dY kvs k v))):=.inl ⟨kvs,k,e,rfl,hl,rfl⟩
theorem mM.t{H:Hp}{a b:Addr}{kvs:List (List aD×V)}{k:List aD}{v:V}(e:H a=some (.dT kvs))(c:H b=some (.tup (k.map kV)))(hl:kvs.length < Ai) :
  mM H a (.ref b) v (aR H a (.dT (dY kvs k v))):=.inr ⟨kvs,k,b,e,rfl,c,hl,rfl⟩
section
variable {X:Cx}{pins:List (Addr×Obj)}{σ:St}{H:Hp}{s:Ah}{a:Addr}{y v:V}{u r:Ae}{o:Option V}{A:Cr}{E:Ae->Ah->Prop}
theorem Inv.big(I:Inv X pins σ H s):Eg < s.heap.objs.size:=by
 have h:Ea < s.heap.objs.size:=(I.mod.glob.keeps I.bk).lt
 exact Hu (by decide) h
theorem WE{Q:Ae->Ah->Prop}(x:A.units + 1 < Es)(I:Inv X pins σ H s)(g:g8 H a y (some v))(q:RelV y u)(h:∀ f n,Inv X pins σ H n->RelV v f->Q f n) :
  Bf (Bu X.prog X.w) A (getItem (.ref a) u) Q E s:=by
 rcases g with⟨kvs,k,e,j,l⟩ | ⟨kvs,k,b,e,j,t,l⟩
 ·subst j
  obtain⟨z,hd,vs,c,m⟩:=mL I.hok e
  obtain⟨f,hw,d⟩:=fN.some_of (v:=v) (o:=valueAt vs k) (by rw[l];exact c.val k)
  exact wpAny_getItem_of (jY q) m.mapOf hw (h f _ (I.tok _) d)
 ·subst j
  cases (show u=Value.ref b from q)
  obtain⟨z,hd,xs,c,m⟩:=nE I.hok e
  obtain⟨f,hw,d⟩:=fN.some_of (v:=v) (o:=(Jr xs k).map (·.2)) (by rw[l];exact c.val k)
  obtain⟨p,r,i⟩:=Bb.mp hw
  refine wpAny_getItem_heap (Et x) (jZ I.hok t) m r ?_
  rw[i]
  exact h f _ (I.tok _) d
theorem WG{Q:Ae->Ah->Prop}(n:A.units + 1 < Es)(I:Inv X pins σ H s)(g:g8 H a y o)(j:RelV y u)(h:∀ i,Inv X pins σ H i->Q (.bool o.isSome) i) :
  Bf (Bu X.prog X.w) A (Cf .In u (.ref a)) Q E s:=by
 rcases g with⟨kvs,k,e,d,l⟩ | ⟨kvs,k,b,e,d,m,l⟩
 ·subst d
  obtain⟨z,hd,vs,c,f⟩:=mL I.hok e
  refine wpAny_in_of (jY j) hd f.mapOf ?_
  rw[<-(c.val k).isSome_eq,<-l]
  exact h _ (I.tok _)
 ·subst d
  cases (show u=Value.ref b from j)
  obtain⟨z,hd,xs,c,f⟩:=nE I.hok e
  refine wpAny_in_heap (Et n) (jZ I.hok m) hd f ?_
  have q:=(c.val k).isSome_eq
  rw[Gs] at q
  rw[<-q,<-l]
  exact h _ (I.tok _)
theorem WH{Q:Ae->Ah->Prop}(n:A.units + 1 < Es)(I:Inv X pins σ H s)(g:g8 H a y o)(j:RelV y u)(h:∀ i,Inv X pins σ H i->Q (.bool (!o.isSome)) i) :
  Bf (Bu X.prog X.w) A (Cf .NotIn u (.ref a)) Q E s:=by
 rcases g with⟨kvs,k,e,d,l⟩ | ⟨kvs,k,b,e,d,m,l⟩
 ·subst d
  obtain⟨z,hd,vs,c,f⟩:=mL I.hok e
  refine wpAny_notIn_of (jY j) hd f.mapOf ?_
  rw[<-(c.val k).isSome_eq,<-l]
  exact h _ (I.tok _)
 ·subst d
  cases (show u=Value.ref b from j)
  obtain⟨z,hd,xs,c,f⟩:=nE I.hok e
  refine wpAny_notIn_heap (Et n) (jZ I.hok m) hd f ?_
  have q:=(c.val k).isSome_eq
  rw[Gs] at q
  rw[<-q,<-l]
  exact h _ (I.tok _)
theorem oN{h':Heap}{t':Nat}{ob:HO}(I:Inv X pins σ H s)(d:pZ (H a))(f:Eo a s.heap h')(c:∃ q,h'.get? a=some q)(new:cA X.prog X.w (aR H a ob) h' a ob) :
  Inv X pins σ (aR H a ob) {s with heap:=h',toks:=t'}:=
 I.write (x:=a) (e:=a) d (.inl rfl) (fun b q g z=>(f.2 b g).trans z) c new
theorem GN{P:Ay}{w:Bq}{d:Hp}{h':Heap}{kvs:List (aD×V)}{vs:List (aD×Ae)}(z:kvs.length<=Ai)(hd:(a == Eg)=false)(b:KV kvs vs)(c:h'.DictOf (bH P w) a vs) :
  cA P w d h' a (.dK kvs):=⟨z,hd,vs,b,c⟩
theorem WI{p:Hp}{Q:Unit->Ah->Prop}(G:A.units + 1 < Es)(I:Inv X pins σ H s)(g:mM H a y v p)(B:RelV y u)(C:RelV v r)(h:∀ x,Inv X pins σ p x->Q () x) :
  Bf (Bu X.prog X.w) A (setItem (.ref a) u r) Q E s:=by
 rcases g with⟨kvs,k,e,m,l,j⟩ | ⟨kvs,k,b,e,m,t,l,j⟩
 ·subst m j
  obtain⟨z,hd,vs,d,o⟩:=GK I.hok e
  have hz:vs.length<=Ai:=by rw[<-d.length];exact z
  have hl:(dY kvs k v).length<=Ai:=by have:=oM kvs k v;lia
  refine wpAny_setItem_pairs (hsz:=hz) (jY B) o fun h' f n=>h _ ?_
  have K:∃ q,h'.get? a=some q:=let ⟨q,_,_,i,_⟩:=f;⟨q,i⟩
  exact oN I (by rw[e];exact True.intro) n K (GN hl hd (d.put k C) f)
 ·subst m j
  cases (show u=Value.ref b from B)
  obtain⟨z,hd,xs,d,o⟩:=wV I.hok e
  have hz:xs.length<=Ai:=by rw[<-Cu d];exact z
  have hl:(dY kvs k v).length<=Ai:=by have:=oM kvs k v;lia
  refine wpAny_setItem_heap (hsz:=hz) (Et G) (jZ I.hok t) o fun h' f n=>h _ ?_
  obtain⟨q,es,ep,i,L,F,J,_,M⟩:=f
  refine oN I (by rw[e];exact True.intro) n ⟨q,i⟩ ⟨hl,hd,_,(d.put k t C).keeps fun c ys D=>?_,q,es,ep,i,L,F,J,M⟩
  rw[bE (wA D e (fun z=>nomatch z))]
  exact D
end
section
variable {X:Cx}{pins:List (Addr×Obj)}{σ:St}{H:Hp}{s:Ah}{a:Addr}{kvs:List (aD×V)}{k:aD}{u:Ae}{A:Cr}{E:Ae->Ah->Prop}
theorem WJ{Q:Ae->Ah->Prop}(I:Inv X pins σ H s)(e:Rd H a (.dK kvs))(h:∀ t c,Inv X pins σ H c->Q (.int kvs.length t) c):Bf (Bu X.prog X.w) A (call (.builtin "len") [.ref a]) Q E s:=by
 obtain⟨z,hd,vs,b,d⟩:=mL I.hok e
 refine call_len_dict hd d (by rw[<-b.length];rw[Ji] at z;lia) ?_
 rw[<-b.length]
 exact h _ _ (I.tok _)
end
theorem WK{X:Cx}{pins:List (Addr×Obj)}{σ:St}{H:Hp}{s:Ah}{a:Addr}{y:V}{o:Option V}(I:Inv X pins σ H s)(g:g8 H a y o):s.TypeIs (.ref a) "dict":=by
 rcases g with⟨kvs,k,e,_,_⟩ | ⟨kvs,k,b,e,_,_,_⟩
 ·obtain⟨_,_,vs,_,c⟩:=mL I.hok e
  exact c.typeIs
 ·obtain⟨_,_,xs,_,c⟩:=nE I.hok e
  exact c.typeIs
theorem GO{P:Ay}{w:Bq}{H:Hp}(h:Heap)(a:Eg < h.objs.size):cA P w H (h.push {cls:=.type "dict",data:=.dict #[]}) h.objs.size (.dK []):=
 ⟨De _,beq_eq_false_iff_ne.mpr (Ca (Bj a)),[],.nil,Heap.DictOf.new h⟩
theorem WL{P:Ay}{w:Bq}{H:Hp}(h:Heap)(a:Eg < h.objs.size):cA P w H (h.push {cls:=.type "dict",data:=.dict #[]}) h.objs.size (.dT []):=
 ⟨De _,beq_eq_false_iff_ne.mpr (Ca (Bj a)),[],.nil,_,#[],0,Ar _ rfl,⟨rfl,rfl,rfl⟩,rfl,rfl,Fw⟩
def WM:TE:=fun _ H Q=>∀ p,H p=none->Q (.ref p) (aR H p (.dK []))
def WN:TE:=fun _ H Q=>∀ p,H p=none->Q (.ref p) (aR H p (.dT []))
section
variable {X:Cx}{pos:Pos}
theorem WO:PE X (.Dict [] [] pos) WM:=fun pins s σ H Q I h=>
 wpAny_Dict_empty ⟨.ref s.heap.objs.size,_,I.laid (a:=s.heap.objs.size) (o:=.dK []) (t':=s.toks) (fun _ _ q=>Ag _ q) (Aj _) (GO s.heap I.big),rfl,h _ (I.hok.fresh (Aj _))⟩
theorem WQ:PE X (.Dict [] [] pos) WN:=fun pins s σ H Q I h=>
 wpAny_Dict_empty ⟨.ref s.heap.objs.size,_,I.laid (a:=s.heap.objs.size) (o:=.dT []) (t':=s.toks) (fun _ _ q=>Ag _ q) (Aj _) (WL s.heap I.big),rfl,h _ (I.hok.fresh (Aj _))⟩
end
def wW:List (TE×TE)->St->Hp->(List (V×V)->Hp->Prop)->Prop
 | [],_,H,Q=>Q [] H
 | (tk,c) :: r,σ,H,Q=>tk σ H fun x a=>c σ a fun y d=>wW r σ d fun ps b=>Q ((x,y) :: ps) b
abbrev VV:List (V×V)->List (Ae×Ae)->Prop:=Fm fun p q=>RelV p.1 q.1/\RelV p.2 q.2
def sU(X:Cx)(pos:Pos)(keys:List (Option Expr))(a:List Expr)(b:List (TE×TE)):Prop:=
 ∀ (pins:List (Addr×Obj)) (s:Ah) (σ:St) (H:Hp) (Q:List (V×V)->Hp->Prop),Inv X pins σ H s->wW b σ H Q->
  Bf (Bu X.prog X.w) X.A (evalPairs (pairTrees keys a X.env pos)) (fun vs d=>∃ ps c,Inv X pins σ c d/\VV ps vs/\Q ps c) X.xe s
theorem WR{X:Cx}{pos:Pos}:sU X pos [] [] []:=fun pins s σ H Q I h=>pairTrees_nil_walk ⟨[],H,I,.nil,h⟩
theorem WS{X:Cx}{pos:Pos}{k v:Expr}{ks:List (Option Expr)}{vs:List Expr}{tk c:TE}{a:List (TE×TE)}(hk:PE X k tk)(d:PE X v c)(hr:sU X pos ks vs a) :
  sU X pos (some k :: ks) (v :: vs) ((tk,c) :: a):=fun pins s σ H Q I h=>
 pairTrees_cons_walk (a6 (hk pins s σ H _ I h) fun u e ⟨x,m,n,g,f⟩=>a6 (d pins e σ m _ n f) fun z q ⟨y,i,p,o,r⟩=>
  a6 (hr pins q σ i _ p r) fun ws w ⟨ps,j,t,b,l⟩=>⟨(x,y) :: ps,j,t,.cons ⟨g,o⟩ b,l⟩)
def qC(kvs more:List (aD×V)):List (aD×V):=more.foldl (fun acc a=>dY acc a.1 a.2) kvs
theorem KV.merge:∀ {more:List (aD×V)} {rs:List (aD×Ae)} {kvs:List (aD×V)} {vs:List (aD×Ae)},KV more rs->KV kvs vs->KV (qC kvs more) (merged vs rs):=by
 intro more rs kvs vs r
 unfold KV at r
 induction r generalizing kvs vs with
 | nil=>intro q;exact q
 | @cons p q ps qs h t a=>
  intro b
  have e:KV (dY kvs p.1 p.2) (stored vs q.1 q.2):=by
   have:=b.put p.1 h.2
   rw[<-h.1];exact this
  exact a e
theorem GP:∀ (more kvs:List (aD×V)),(qC kvs more).length<=kvs.length + more.length
 | [],kvs=>by show kvs.length<=kvs.length + 0;lia
 | p :: r,kvs=>by
  have b:=GP r (dY kvs p.1 p.2)
  have a:=oM kvs p.1 p.2
  show(qC (dY kvs p.1 p.2) r).length<=_
  rw[Bk];lia
theorem GQ{P:Ay}{w:Bq}:∀ {kvs:List (aD×V)} {ws:List (Ae×Ae)},VV (kvs.map fun d=>(kV d.1,d.2)) ws->∃ rs,Carries (bH P w) ws rs/\KV kvs rs
 | [],_,r=>by rw[Jd] at r;cases r;exact⟨[],True.intro,.nil⟩
 | p :: kvs,_,r=>by
  rw[Au] at r
  cases r with
  | @cons a b f bs h t=>
   obtain⟨rs,c,q⟩:=GQ (P:=P) (w:=w) t
   obtain⟨g,e⟩:=b
   exact⟨(p.1,e) :: rs,⟨jY h.1,rfl,c⟩,.cons ⟨rfl,h.2⟩ q⟩
def WT(a:List (TE×TE)):TE:=fun σ H Q=>∀ p,H p=none->wW a σ (aR H p (.dK [])) fun ps c=>c p=some (.dK [])/\∃ kvs:List (aD×V),ps=kvs.map (fun b=>(kV b.1,b.2))/\kvs.length<=15/\Q (.ref p) (aR c p (.dK (qC [] kvs)))
theorem WU{X:Cx}{pos:Pos}{keys:List (Option Expr)}{b:List Expr}{g:List (TE×TE)}(h:sU X pos keys b g)(f:keys.all (·.isSome)=true)(hl:keys.length=b.length)(t:keys≠[])
  (j:keys.length<=15):PE X (.Dict keys b pos) (WT g):=by
 intro pins s σ H Q I q
 have n:=I.hok.fresh (Aj s.heap.objs.size)
 have u:=I.laid (a:=s.heap.objs.size) (o:=.dK []) (h':=s.heap.push {cls:=.type "dict",data:=.dict #[]}) (t':=s.toks) (fun _ _ q=>Ag _ q) (Aj _) (GO s.heap I.big)
 refine wpAny_Dict_walk (knd:=bH X.prog X.w) f hl t j (a6 (h pins _ σ _ _ u (q _ n)) fun ws D ⟨ps,B,k,i,e,kvs,ep,C,A⟩=>?_)
 subst ep
 obtain⟨rs,c,m⟩:=GQ (P:=X.prog) (w:=X.w) i
 obtain⟨z,hd,y,p,x⟩:=GK k.hok e
 cases p
 refine⟨rs,c,x,fun h' d r=>⟨.ref s.heap.objs.size,_,?_,rfl,A⟩⟩
 have hz:(qC [] kvs).length<=Ai:=by
  have l:=GP kvs []
  rw[Js] at l
  rw[Ji];lia
 have v:∃ q,h'.get? s.heap.objs.size=some q:=let ⟨q,_,_,hq,_⟩:=d;⟨q,hq⟩
 exact oN k (by rw[e];exact True.intro) r v (GN hz hd (m.merge .nil) d)
section
variable {X:Cx}{pins:List (Addr×Obj)}{σ:St}{H:Hp}{s:Ah}{a:Addr}{y d:V}{u r:Ae}{o:Option V}{A:Cr}{E:Ae->Ah->Prop}
theorem GR{Q:Ae->Ah->Prop}(p:A.units + 1 < Es)(I:Inv X pins σ H s)(g:g8 H a y o)(m:RelV y u)(h:∀ i j,Inv X pins σ H j->RelV (o.getD .non) i->Q i j) :
  Bf (Bu X.prog X.w) A (call (.builtin "dict.get") [.ref a,u]) Q E s:=by
 rcases g with⟨kvs,k,e,f,l⟩ | ⟨kvs,k,b,e,f,n,l⟩
 ·subst f
  obtain⟨z,hd,vs,c,d⟩:=mL I.hok e
  refine Hb Jc d.typeIs Il (PySem.F.args_dict_get_2 _ _) (meets_dict_get (bH X.prog X.w) a (jY m) hd) ⟨_,d.mapOf,h _ _ (I.tok _) ?_⟩
  rw[l]
  exact(c.val k).getD rfl
 ·subst f
  cases (show u=Value.ref b from m)
  obtain⟨z,hd,xs,c,d⟩:=nE I.hok e
  refine Hb Jc d.typeIs Il (PySem.F.args_dict_get_2 _ _) (meetsH_dict_get (Fq (bH X.prog X.w)) a b hd) ⟨Et p,k,xs,jZ I.hok n,d,h _ _ (I.tok _) ?_⟩
  rw[l]
  exact(c.val k).getD rfl
theorem GS{Q:Ae->Ah->Prop}(t:A.units + 1 < Es)(I:Inv X pins σ H s)(g:g8 H a y o)(n:RelV y u)(p:RelV d r)(h:∀ j m,Inv X pins σ H m->RelV (o.getD d) j->Q j m) :
  Bf (Bu X.prog X.w) A (call (.builtin "dict.get") [.ref a,u,r]) Q E s:=by
 rcases g with⟨kvs,k,e,i,l⟩ | ⟨kvs,k,b,e,i,q,l⟩
 ·subst i
  obtain⟨z,hd,vs,c,f⟩:=mL I.hok e
  refine Hb Jc f.typeIs Il (PySem.F.args_dict_get_3 _ _ _) (meets_dict_get_default (bH X.prog X.w) a (jY n) hd r) ⟨_,f.mapOf,h _ _ (I.tok _) ?_⟩
  rw[l]
  exact(c.val k).getD p
 ·subst i
  cases (show u=Value.ref b from n)
  obtain⟨z,hd,xs,c,f⟩:=nE I.hok e
  refine Hb Jc f.typeIs Il (PySem.F.args_dict_get_3 _ _ _) (meetsH_dict_get_default (Fq (bH X.prog X.w)) a b hd r) ⟨Et t,k,xs,jZ I.hok q,f,h _ _ (I.tok _) ?_⟩
  rw[l]
  exact(c.val k).getD p
end
end L2
namespace Att
open PySem PySem.W PySem.Calls PyProof.Rows
theorem WV{P:Params}{h:Heap}:∀ (ns:List Int) (vs:List Ae),WellAll P h vs (ns.map WData.int)->IntsAre vs ns:=by
 intro ns
 induction ns with
 | nil=>
  intro vs w
  rw[Jd] at w
  cases w
  exact .nil
 | cons n ns c=>
  intro vs w
  rw[Au] at w
  cases w with
  | cons a b=>
   cases a
   exact .cons _ _ (c _ b)
theorem WW{l:OpenLaw}{n:Nat}(t:l.most=some n){P:Params}{h:Heap}{args:List WData}{vals:List Ae}
  (b:l.row.toRowW.claim.pre args=true) (j:WellAll P h vals args) :
  ∃ a vs ns,vals=[Value.ref a]/\args=[WData.list (ns.map WData.int)]/\h.get? a=some {cls:=.type "list",data:=.seq vs.toArray}/\IntsAre vs ns/\ns.length<=n:=by
 have i:WShape.hasAll [] args [.list .int]=true:=(pre_splitW b).1
 have hc:l.pre.holds [] {args:=args} = true:=(pre_splitW b).2
 obtain⟨d,r,rfl,o,u⟩:=hasAllW_cons i
 obtain rfl:=hasAllW_nil u
 obtain⟨xs,rfl,k⟩:=hasW_list o
 obtain⟨ns,rfl⟩:=items_int k
 have c:ns.length<=n:=by
  unfold OpenLaw.pre at hc
  have f:(WTm.not (.lt (.lit (.int (n:Int))) (.len (.arg 0)))).holds [] {args:=[.list (ns.map .int)]} = true:=by
   have f:=(holds_andW hc).1
   rw[t] at f
   exact f
  have g:=condW_of f (w_not (w_lt w_lit (w_len_list (w_arg rfl))))
  rw[Ab] at g
  refine Nat.le_of_not_lt fun q=>?_
  have v:(n:Int) < ((ns.length:Nat):Int):=by lia
  first
   | (rw[decide_eq_true v] at g;exact absurd g (by decide))
   | (simp at g;lia)
 cases j with
 | cons p s=>
  cases s
  cases p with
  | list m e=>exact⟨_,_,ns,rfl,rfl,m,WV ns _ e,c⟩
theorem WX(l:OpenLaw)(args:List WData):l.row.toRowW.claim.post args (.bool true) args=true:=
 postW_of (r:=l.row.toRowW) (X:=(true == true))
  (show WShape.has [] (.bool true) .bool=true by first | rfl | decide | simp[WShape.has,WShape.arms,WShape.armsAll])
  (show(WTm.eq .res (.lit (.bool true))).value [] {args:=args,res:=some (.bool true),after:=args} = some (.bool (true == true)) from w_eq_bool (w_res rfl) w_lit) rfl
theorem attach_call{l:OpenLaw}{n:Nat}{q:Ay}{loose:List Str}{XP:(Str->Option Ae)->Heap->Prop}{YP:Bq->Heap->Prop}{d:DefRec}
  (B:l.most=some n) (v:d.params.defaults=[])
  (call:∀ (w:Bq) (s₀ b:Ah) (mg s:Str->Option Ae) (i:Addr) (o:Obj) (t m e:Ae) (a:Addr) (vs:List Ae) (ns:List Int),
   Ground q loose [] XP w s₀ mg s b.heap->YP w b.heap->
   b.heap.get? i=some o->o.data=.func (docDef d.name d.params d.body d.scope t m e)->b.heap.CodeRec m d.name->mg d.name=some (.ref i)->
   b.heap.get? a=some {cls:=.type "list",data:=.seq vs.toArray}->IntsAre vs ns->ns.length<=n->b.gens = #[]->
   Kt (Bu l.prog w) callerA (.call (.ref i) ⟨[.ref a],[]⟩) (fun r k=>r=.ok (.ret (.bool true))/\OldK b.heap k.heap/\k.os=b.os/\Mi k.gens) b) :
  WalkO q loose XP YP l.row.toRowW d [] (fun f vs=>PySem.call f vs):=by
 intro w s₀ b mg s G Y i o t m e dV kV F hd u z p E args vals L g y K x H
 obtain rfl:dV=.none:=Dflts.none z v
 obtain rfl:kV=.none:=Dflts.noKw z
 obtain⟨a,vs,ns,rfl,rfl,h,c,j⟩:=WW B g x
 refine enter_call (Me (call w s₀ b mg s i o t m e a vs ns G Y F (fd_plain hd) u p h c j E) fun r k C=>?_)
 obtain⟨rfl,J,A,I⟩:=C
 exact⟨.inl ⟨.bool true,.bool true,[],rfl,fun _=>rfl,.bool true,WX l _,fun _=>⟨List.Pairwise.nil,fun _ D=>(nomatch D)⟩⟩,J,A,I⟩
end Att
namespace L2
open PySem PySem.Spec PyProof.Rows
theorem GU:∀ {vs:List Ae} {ns:List Int},IntsAre vs ns->aZ (ns.map V.int) vs
 | _,_,.nil=>.nil
 | _,_,.cons n t h=>.cons ⟨t,rfl⟩ (GU h)
def sW(H:Hp):Prop:=∀ b,H b=none\/∃ o xs,H b=some (.frz o (.lst xs))
theorem WY{P:Ay}{w:Bq}{K:Ac}{mg mb:Str->Option Ae}{CX:kH}{k:Nat}{fa a:Addr}{fd:Bo}{x:Str}{sp:Sp}{s₁:Ah}{vs:List Ae}{ns:List Int}
  (KX:K.In s₁.heap) (hns:s₁.heap.Ns Ea mg) (hb:s₁.heap.Ns builtinsNs mb) (hbb:∀ x:Str,x≠"__name__"->mb x=Ct x) (hlim:s₁.heap.NoLimit) (hg:s₁.gens = #[])
  (ha:s₁.heap.get? a=some {cls:=.type "list",data:=.seq vs.toArray}) (hi:IntsAre vs ns) (hl:ns.length<=Ai) (hr:cT k callerA)
  (F:∀ base:Heap,K.In base->base.Ns Ea mg->fB P w K mg base CX k fa fd [x] sp) (hbind:∀ (s:Ah) (u:Ae),BindsTo s fd ⟨[u],[]⟩ [(x,u)])
  (hsp:∀ H:Hp,sW H->bF K H a (ns.map V.int)->sp [.ref a] H (fun v _=>v=.bl true) fun _ _ _=>False)
  (hCX:∀ H e s',CX [] H s₁ (fun _ _ _=>False) e s'->False) :
  Kt (Bu P w) callerA (.call (.ref fa) ⟨[.ref a],[]⟩) (fun r s'=>r=.ok (.ret (.bool true))/\OldK s₁.heap s'.heap/\s'.os=s₁.os/\Mi s'.gens) s₁:=by
 have rv:=GU hi
 have lenV:=hi.length
 have core:∀ H:Hp,sW H->bF K H a (ns.map V.int)->cR P w H s₁.heap->(∀ b,H b≠none->b=a)->(H a≠none->K.lookup a=none)->
   Kt (Bu P w) callerA (.call (.ref fa) ⟨[.ref a],[]⟩) (fun r s'=>r=.ok (.ret (.bool true))/\OldK s₁.heap s'.heap/\s'.os=s₁.os/\Mi s'.gens) s₁:=by
  intro H hO hS hok hA hK
  have base_of:∀ {b:Addr} {o:Obj},s₁.heap.get? b=some o->H b=none->(lE s₁.heap H).get? b=some o:=fun e n=>QN e n
  have noA:∀ {b:Addr} {o:Obj} {es:Array Dw} {ep:Nat},s₁.heap.get? b=some o->o.data=.dict es ep->H b=none:=fun {b o es ep} e d=>by
   cases q:H b with
   | none=>rfl
   | some u=>
    have e':b=a:=hA b (by rw[q];simp)
    subst e'
    rw[ha] at e;cases e
    have d':Data.seq vs.toArray _=Data.dict es ep:=d
    cases d'
  have nsK:∀ {b:Addr} {m:Str->Option Ae},s₁.heap.Ns b m->(lE s₁.heap H).Ns b m:=fun {b m} ⟨o,es,ep,e,d,r⟩=>⟨o,es,ep,base_of e (noA e d),d,r⟩
  have hKb:K.In (lE s₁.heap H):=fun b o e=>base_of (KX b o e) (by
   cases q:H b with
   | none=>rfl
   | some u=>
    have e':b=a:=hA b (by rw[q];simp)
    subst e'
    rw[hK (by rw[q];simp)] at e;cases e)
  have hM:Mod K mg (lE s₁.heap H):=⟨hKb,nsK hns,⟨mb,nsK hb,hbb⟩,let ⟨mc,h1,h2⟩:=hlim;⟨mc,nsK h1,h2⟩⟩
  have e0:nC P w K mg (lE s₁.heap H) callerA [] s₁ H:=⟨rfl,hM,fun b o e=>QO e,Fj (QM _ _),trivial,fun b hb=>absurd (show b∈([]:List Addr) from hb) (by simp),hok,.of_eq hg⟩
  refine Me ((F _ hKb (nsK hns)).run callerA [] s₁ H ⟨[.ref a],[]⟩ [.ref a] [.ref a] _ _ hr e0 (hbind s₁ (.ref a)) (.cons rfl .nil) (hsp H hO hS)) fun r s' h=>?_
  cases r with
  | error e=>exact(hCX H e s' h).elim
  | ok fl=>
   cases fl with
   | next=>exact Fv h
   | brk=>exact Fv h
   | cont=>exact Fv h
   | ret u=>
    obtain⟨v,H',os,bare,un,hok',r',q⟩:=h
    have q':v=.bl true:=q
    subst q'
    obtain rfl:u=Value.bool true:=r'
    refine⟨rfl,OldK.of_keep fun b o e=>?_,os,bare⟩
    cases q:H b with
    | none=>exact un.keep b o e q (by intro z;exact absurd (show b∈([]:List Addr) from z) (by simp)) (by simp)
    | some u=>
     rcases hO b with z | ⟨ob,xs,z⟩
     ·rw[q] at z;cases z
     ·have z2:=un.frzs b ob _ z
      obtain⟨e1,_⟩:=hok b _ z
      obtain⟨e2,_⟩:=hok' b _ z2
      rw[e] at e1;cases e1
      exact e2
 cases hk:K.lookup a with
 | some o=>
  have e:=KX a o hk
  rw[ha] at e
  cases e
  refine core (fun _=>none) (fun _=>.inl rfl) (.inr ⟨_,vs.toArray,_,hk,rfl,rfl,rfl,by rw[Az,lenV];exact hl,by simpa using rv⟩) (fun b u z=>by have z':(none:Option HO)=some u:=z;cases z') (fun b z=>absurd rfl z) fun z=>absurd rfl z
 | none=>
  refine core (fun b=>if b=a then some (.frz {cls:=.type "list",data:=.seq vs.toArray} (.lst (ns.map V.int))) else none) (fun b=>?_) (.inl (.inr ⟨{cls:=.type "list",data:=.seq vs.toArray},if_pos rfl⟩)) (fun b u z=>?_) (fun b z=>?_) fun _=>hk
  ·by_cases hb:b=a
   ·exact .inr ⟨_,_,if_pos hb⟩
   ·exact .inl (if_neg hb)
  ·by_cases hb:b=a
   ·have z':=(if_pos hb).symm.trans z
    cases z'
    subst hb
    exact⟨ha,by rw[Ab];exact hl,vs,_,rv,ha⟩
   ·have z':=(if_neg hb).symm.trans z
    cases z'
  ·by_cases hb:b=a
   ·exact hb
   ·exact absurd (if_neg hb) z
theorem WZ{l:PySem.W.OpenLaw}{n k:Nat}{q:Ay}{loose:List Str}{XP:(Str->Option Ae)->Heap->Prop}{YP:Bq->Heap->Prop}{d:DefRec}{K:Params->Ac}{CX:Bq->kH}{sp:Bq->Sp}{x:Str}
  (D:l.most=some n) (z:n<=Ai) (A:d.params.defaults=[]) (hr:cT k callerA)
  (L:∀ (w:Bq) (h:Heap),YP w h->(K w.params).In h)
  (F:∀ (w:Bq) (mg:Str->Option Ae) (p:Addr) (h:Heap),(K w.params).In h->h.Ns Ea mg->mg d.name=some (.ref p)->
   ∃ fd:Bo,(∀ (s:Ah) (u:Ae),BindsTo s fd ⟨[u],[]⟩ [(x,u)])/\
    ∀ base:Heap,(K w.params).In base->base.Ns Ea mg->fB l.prog w (K w.params) mg base (CX w) k p fd [x] (sp w))
  (y:∀ (w:Bq) (H:Hp) (a:Addr) (ns:List Int),ns.length<=n->sW H->bF (K w.params) H a (ns.map V.int)->sp w [.ref a] H (fun v _=>v=.bl true) fun _ _ _=>False)
  (B:∀ (w:Bq) (H:Hp) (s:Ah) (e:Ae) (t:Ah),CX w [] H s (fun _ _ _=>False) e t->False) :
  PySem.W.WalkO q loose XP YP l.row.toRowW d [] (fun f vs=>PySem.call f vs):=by
 refine Att.attach_call D A fun w s₀ m mg R p o S U E a vs ns G Y Q hd M r j i c I=>?_
 have C:=L w _ Y
 obtain⟨fd,N,O⟩:=F w mg p _ C G.T.g r
 exact WY C G.T.g G.T.b G.T.builtins G.T.nolimit I j i (Bs c z) hr O N (fun H J P=>y w H a ns c J P) fun H e t=>B w H m e t
abbrev gP:kH:=fun _ _ _ _ _ _=>False
abbrev E0:XK:=fun _ _ _=>False
theorem qD{X:Cx}:mI gP X E0:=fun _ _ _ _ _ _ _ h=>h.elim
structure kK(K:Ac)(x qual:Str)(st:Stmt)(f:Addr)(fd:Bo):Prop where
 ex:∃ (oc:Ae) (od:Option Addr) (kV doc pm:Ae) (an:Option Addr) (cdv ct:Ae) (osl:Array (Option Ae)),
  fd=Ek x qual (jC st) (gY st) (eS st) .none kV doc pm an cdv ct/\K.lookup f=some ⟨oc,od,.func fd,osl⟩/\Ik K cdv qual=true
 kp:Fh K (.ref f)=true
section
variable {P:Ay}{w:Bq}{K:Ac}{mg:Str->Option Ae}{base:Heap}
theorem kK.ok{x a:Str}{st:Stmt}{f:Addr}{fd:Bo}{N ps:List Str}{k:Nat}{sp:Sp}(F:kK K x a st f fd)(S:oK N ps (eS st))(len:∀ vs H Q E,sp vs H Q E->vs.length=ps.length)
  (c:∀ (b:Ae) (A:Cr) (outer:List Env) (s:Ah) (H:Hp) (vs:List V) (Q:VK) (E:XK),cT k (A.deeper (Ls a (eS st) s.heap.objs.size f b))->sp vs H Q E->
   ∃ t,fW (mJ gP P w K mg base N a (eS st) f b A outer s H E).nox (gY st) t/\t {nx:=fun _ j=>Q .non j,rt:=Q} (start N vs) H):fB P w K mg base gP (k + 1) f fd ps sp:=by
 obtain⟨m,n,kV,g,p,o,b,ct,l,rfl,i,d⟩:=F.ex
 refine UX i d S len fun A outer s H vs Q E hr e=>?_
 obtain⟨t,h,q⟩:=c b A outer s H vs Q E hr e
 exact⟨t,h.nox,q⟩
theorem kK.binds{x a:Str}{st:Stmt}{f:Addr}{fd:Bo}{ps:List Str}(F:kK K x a st f fd)
  (h:∀ (kV b e:Ae) (d:Option Addr) (c ct:Ae) (us:List Ae),us.length=ps.length->bindArgs (Ek x a (jC st) (gY st) (eS st) .none kV b e d c ct) ⟨us,[]⟩=pure (ps.zip us)):Binds K fd ps []:=by
 obtain⟨k,l,kV,b,e,d,c,ct,i,rfl,j,g⟩:=F.ex
 exact .all (h kV b e d c ct)
theorem oO{x a:Str}{st:Stmt}{f:Addr}{i:Ae}{j g:Option Addr}{e:Array (Option Ae)}{kV d h b ct:Ae}(l:K.lookup f=some ⟨i,j,.func (Ek x a (jC st) (gY st) (eS st) .none kV d h g b ct),e⟩)
  (c:Ik K b a=true) (k:Fh K (.ref f)=true):kK K x a st f (Ek x a (jC st) (gY st) (eS st) .none kV d h g b ct):=⟨⟨i,j,kV,d,h,g,b,ct,e,rfl,l,c⟩,k⟩
end
theorem W0{A:Cr}{k:Nat}(hr:cT k A):A.units + 1 < Es:=Nat.lt_of_le_of_lt (Mp (by decide:1<=64) _) hr.units
section
variable {X:Cx}
theorem W2:cN X (.builtin "len") (fun xs H Q=>∃ a kvs,xs=[V.ref a]/\H a=some (.dK kvs)/\Q (.int kvs.length) H):=by
 intro pins s σ H xs us Q I r h
 obtain⟨a,kvs,rfl,b,q⟩:=h
 obtain⟨u,rfl,d⟩:=vals1 r
 cases d
 exact WJ I (.inl b) fun t e c=>⟨.int kvs.length,H,c,⟨t,rfl⟩,q⟩
end
theorem W4{A B:Prop}(h:B):if false=true then A else B:=by
 rw[if_neg Ap]
 exact h
theorem W5{A B:Prop}(h:A):if true=true then A else B:=by
 rw[if_pos rfl]
 exact h
end L2
set_option maxHeartbeats 4000000
namespace L2
open PySem PySem.Spec PyProof.Rows
structure kL where
 cl:List (Str×Addr)
 s:Ah
 H:Hp
 fp:List Addr
 C:Addr
def cU(X:Cx)(sc:Iw)(a:List Str)(B:kL):Cx where
 prog:=X.prog
 w:=X.w
 K:=X.K
 mg:=X.mg
 base:=X.base
 A:=X.A
 N:=a
 s₀:=B.s
 H₀:=B.H
 env:=compEnvC sc B.cl B.C X.env
 outer:=X.stack
 stack:=X.stack
 ex:=B.fp
 fn:=fun _=>false
 calm:=X.calm
 pn:=[]
 xe:=fun _ _=>False
def gE(cells:List (Str×Addr)):List (Str×Hx)->List (Str×Addr)->List (Str×Addr)
 | [],acc=>acc
 | (n,k) :: r,acc=>if k=.free then gE cells r ((n,(cells.lookup n).getD 0) :: acc) else gE cells r acc
theorem GV{scope:Iw}{env:Env}(h:∀ y∈scope.names,y.2=.free->∃ c,env.cells.lookup y.1=some c):closureFor scope env=pure (gE env.cells scope.names []):=by
 have key:∀ (names:List (Str×Hx)) (acc:List (Str×Addr)),(∀ y∈names,y.2=.free->∃ c,env.cells.lookup y.1=some c)->
   (forIn names acc fun(x:Str×Hx) (cs:List (Str×Addr))=>(if (x.2 == NameKind.free)=true then(do let a <-cellOf env x.1;pure (ForInStep.yield ((x.1,a) :: cs))) else pure (ForInStep.yield cs):Sem (ForInStep (List (Str×Addr)))))=(pure (gE env.cells names acc):Sem _):=by
  intro names
  induction names with
  | nil=>intro acc _;rfl
  | cons y r ih=>
   intro acc hy
   obtain⟨n,k⟩:=y
   rw[List.forIn_cons]
   by_cases hk:k=.free
   ·subst hk
    obtain⟨c,hc⟩:=hy (n,.free) Ba rfl
    have e1:cellOf env n=(pure c:Sem Addr):=by
     unfold cellOf
     rw[show env.cells.lookup n=some c from hc]
    simp only[beq_self_eq_true,if_true,e1,pure_bind]
    rw[ih _ fun z hz=>hy z (An _ hz)]
    simp only[gE,if_true]
    rw[show env.cells.lookup n=some c from hc]
    rfl
   ·have hb:(k == NameKind.free)=false:=by simpa using hk
    simp only[hb,Cz,if_false,pure_bind]
    rw[ih _ fun z hz=>hy z (An _ hz)]
    simp only[gE,if_neg hk]
 have e:closureFor scope env=((forIn scope.names [] fun(x:Str×Hx) (cs:List (Str×Addr))=>(if (x.2 == NameKind.free)=true then(do let a <-cellOf env x.1;pure (ForInStep.yield ((x.1,a) :: cs))) else pure (ForInStep.yield cs):Sem (ForInStep (List (Str×Addr))))) >>= fun cs=>pure cs):=by
  unfold closureFor
  rfl
 rw[e,key _ _ h,pure_bind]
theorem wX{cells:List (Str×Addr)}{x:Str}{c:Addr}:∀ {names:List (Str×Hx)} {acc:List (Str×Addr)},(∀ y∈names,y.2=.free->∃ c,cells.lookup y.1=some c)->
  (∀ x c,acc.lookup x=some c->cells.lookup x=some c)->(gE cells names acc).lookup x=some c->cells.lookup x=some c
 | [],acc,_,a,e=>a x c e
 | (n,k) :: r,acc,f,a,e=>by
  have hr:∀ y∈r,y.2=.free->∃ c,cells.lookup y.1=some c:=fun z hz=>f z (An _ hz)
  unfold gE at e
  by_cases hk:k=.free
  ·subst hk
   rw[if_pos rfl] at e
   obtain⟨d,hd⟩:=f (n,.free) Ba rfl
   have hd:cells.lookup n=some d:=hd
   refine wX hr (fun z b q=>?_) e
   rw[Ep] at q
   by_cases hz:z=n
   ·subst hz
    rw[beq_self_eq_true,hd] at q
    rw[hd];exact q
   ·have:(z == n)=false:=beq_eq_false_iff_ne.mpr hz
    rw[this] at q
    exact a z b q
  ·rw[if_neg hk] at e
   exact wX hr a e
theorem sX{cells:List (Str×Addr)}{x:Str}:∀ {names:List (Str×Hx)} {acc:List (Str×Addr)},((x,NameKind.free)∈names\/∃ c,acc.lookup x=some c)->∃ c,(gE cells names acc).lookup x=some c
 | [],acc,h=>by
  rcases h with h | h
  ·cases h
  ·exact h
 | (n,k) :: r,acc,h=>by
  unfold gE
  by_cases hk:k=.free
  ·subst hk
   rw[if_pos rfl]
   refine sX ?_
   by_cases a:x=n
   ·subst a
    right
    rw[Ep,beq_self_eq_true]
    exact⟨_,rfl⟩
   ·have b:(x == n)=false:=beq_eq_false_iff_ne.mpr a
    rcases h with h | ⟨c,h⟩
    ·rcases Be.mp h with e | h
     ·cases e;exact absurd rfl a
     ·exact .inl h
    ·right
     rw[Ep,b]
     exact⟨c,h⟩
  ·rw[if_neg hk]
   refine sX ?_
   rcases h with h | h
   ·rcases Be.mp h with e | h
    ·cases e;exact absurd rfl hk
    ·exact .inl h
   ·exact .inr h
structure nF(N':List Str)(sc osc:Iw):Prop where
 kind:sc.kind=.function
 nd:N'.Nodup
 nocell:∀ y∈sc.names,y.2≠.cell
 loc:∀ y∈sc.names,y.2=.local->sc.names.lookup y.1=some .local
 free:∀ y∈sc.names,y.2=.free->osc.names.lookup y.1=some .cell\/osc.names.lookup y.1=some .free
def lH(b:List Str)(sc a:Iw):Bool:=
 decide (sc.kind=.function) && decide b.Nodup && sc.names.all (fun y=>decide (y.2≠.cell)) && sc.names.all (fun y=>decide (y.2=.local->sc.names.lookup y.1=some .local)) &&
  sc.names.all (fun y=>decide (y.2=.free->a.names.lookup y.1=some .cell\/a.names.lookup y.1=some .free))
theorem nF.of{c:List Str}{sc a:Iw}(h:lH c sc a=true):nF c sc a:=by
 unfold lH at h
 simp only[Ce] at h
 obtain⟨⟨⟨⟨f,i⟩,d⟩,e⟩,g⟩:=h
 exact⟨of_decide_eq_true f,of_decide_eq_true i,fun y b=>of_decide_eq_true (Er.mp d y b),fun y b=>of_decide_eq_true (Er.mp e y b),fun y b=>of_decide_eq_true (Er.mp g y b)⟩
def cmap(js:List (Option Nat))(σ:St):St:=js.map fun o=>o.bind fun j=>(σ[j]?).join
def eU(a N:List Str)(sc:Iw):List (Option Nat)->List Str->Bool
 | [],[]=>true
 | none :: js,_ :: r=>eU a N sc js r
 | some j :: js,x :: r=>decide (N[j]? = some x) && decide (sc.names.lookup x=some .free) && eU a N sc js r
 | _,_=>false
theorem wY{a N:List Str}{sc:Iw}:∀ {js:List (Option Nat)} {r:List Str},eU a N sc js r=true->js.length=r.length
 | [],[],_=>rfl
 | none :: js,_ :: r,h=>by
  have:=wY (js:=js) (r:=r) h
  simp[this]
 | some j :: js,x :: r,h=>by
  unfold eU at h
  rw[Ce] at h
  have:=wY (js:=js) (r:=r) h.2
  simp[this]
 | [],_ :: _,h=>by simp[eU] at h
 | none :: _,[],h=>by simp[eU] at h
 | some _ :: _,[],h=>by simp[eU] at h
theorem wZ{b N:List Str}{sc:Iw}:∀ {js:List (Option Nat)} {r:List Str} {i j:Nat} {x:Str},eU b N sc js r=true->js[i]? = some (some j)->r[i]? = some x->N[j]? = some x/\sc.names.lookup x=some .free
 | [],[],i,j,x,_,e,_=>by simp at e
 | none :: js,_ :: r,0,j,x,h,e,_=>by simp at e
 | none :: js,_ :: r,i + 1,j,x,h,e,a=>wZ (js:=js) (r:=r) (i:=i) h (by simpa using e) (by simpa using a)
 | some k :: js,y :: r,0,j,x,h,e,a=>by
  unfold eU at h
  rw[Ce,Ce] at h
  simp at e a
  subst e;subst a
  exact⟨of_decide_eq_true h.1.1,of_decide_eq_true h.1.2⟩
 | some k :: js,y :: r,i + 1,j,x,h,e,a=>by
  unfold eU at h
  rw[Ce,Ce] at h
  exact wZ (js:=js) (r:=r) (i:=i) h.2 (by simpa using e) (by simpa using a)
 | [],_ :: _,_,_,_,h,_,_=>by simp[eU] at h
 | none :: _,[],_,_,_,h,_,_=>by simp[eU] at h
 | some _ :: _,[],_,_,_,h,_,_=>by simp[eU] at h
theorem w4{env:Env}{x:Str}:∀ {names:List (Str×Hx)},(∀ y∈names,y.2≠.cell)->
  (((names.map fun(n,k)=>if (k == NameKind.free && env.scope.kind == .function && env.kindOf n == some .cell) then(n,NameKind.cell) else(n,k)).lookup x=some .cell\/
    (names.map fun(n,k)=>if (k == NameKind.free && env.scope.kind == .function && env.kindOf n == some .cell) then(n,NameKind.cell) else(n,k)).lookup x=some .free)↔names.lookup x=some .free)
 | [],_=>by simp
 | (n,k) :: r,h=>by
  have b:=@w4 env x r fun y c=>h y (An _ c)
  have hk:k≠.cell:=h (n,k) Ba
  rw[Au]
  dsimp only
  by_cases a:(x == n)=true
  ·by_cases hc:(k == NameKind.free && env.scope.kind == .function && env.kindOf n == some .cell)=true
   ·rw[if_pos hc]
    simp only[Ep,a]
    have:k=.free:=by
     rw[Ce,Ce] at hc
     exact beq_iff_eq.mp hc.1.1
    simp[this]
   ·rw[if_neg hc]
    simp only[Ep,a]
    constructor
    ·rintro(e | e)
     ·cases e;exact absurd rfl hk
     ·exact e
    ·intro e;exact .inr e
  ·have a:(x == n)=false:=by simpa using a
   by_cases hc:(k == NameKind.free && env.scope.kind == .function && env.kindOf n == some .cell)=true
   ·rw[if_pos hc]
    simp only[Ep,a]
    exact b
   ·rw[if_neg hc]
    simp only[Ep,a]
    exact b
theorem w5{x:Str}{k:Hx}:∀ {names:List (Str×Hx)},names.lookup x=some k->(x,k)∈names:=fun h=>Gk h
section
variable {X:Cx}{sc:Iw}{N':List Str}{js:List (Option Nat)}{pins:List (Addr×Obj)}{σ:St}{H H1:Hp}{s:Ah}{fp:List Addr}{C:Addr}
theorem w6(S:nF N' sc X.env.scope)(I:Inv X pins σ H s):∀ y∈sc.names,y.2=.free->∃ c,X.env.cells.lookup y.1=some c:=fun y a hk=>
 I.ok.has y.1 (S.free y a hk)
theorem W6(S:nF N' sc X.env.scope)(M:eU N' X.N sc js N'=true)(I:Inv X pins σ H s)(hf:∀ b∈fp,gZ X pins H b)(T:∀ b∈fp,∃ o,s.heap.get? b=some o)
  {A:Heap} {tk:Nat} {m:Str->Option Ae} (P:s.heap.objs.size<=C) (keep:∀ b o,s.heap.get? b=some o->A.get? b=some o) (un:Un (iD X.stack) fp H H1 s.heap A) (hok:cR X.prog X.w H1 A) (W:A.Ns C m) (n:H1 C=none) :
  Inv (cU X sc N' ⟨gE X.env.cells sc.names [],s,H,fp,C⟩) [] (cmap js σ) H1 {s with heap:=A,toks:=tk}:=by
 have cs:=w6 S I
 have sub:∀ x c,(gE X.env.cells sc.names []).lookup x=some c->X.env.cells.lookup x=some c:=fun x c e=>wX cs (fun _ _ z=>by simp at z) e
 refine⟨⟨I.ok.mod,S.kind,I.ok.glob,I.ok.blt,P,fun x y c B a=>I.ok.inj x y c (sub x c B) (sub y c a),fun x Q=>?_,fun _ _ h _=>absurd (show false=true from h) Ap,I.ok.hd,I.ok.frames,.inl rfl,fun b g=>?_,I.bs,Bs I.ok.bsz I.sz,fun b o e g=>?_,fun b g G=>?_,I.stack,I.stkFree⟩,
  rfl,I.bare,un,⟨m,W,fun i x v B a e3=>?_⟩,fun x c e=>?_,n,fun x c e=>?_,fun p R=>absurd (show p∈([]:List (Addr×Obj)) from R) (by simp),hok,?_⟩
 ·have q:sc.names.lookup x=some .free:=(w4 (env:=X.env) S.nocell).mp Q
  exact sX (.inl (w5 q))
 ·obtain⟨o,e⟩:=T b g
  exact⟨Bj (Cb (Bc e) P),fun x c q=>(hf b g).2.2.2.2.1 x c (sub x c q)⟩
 ·rcases(hf b g).2.2.2.1 with z | z
  ·exact I.ok.noex b o e z
  ·exact absurd (Cb (Bc e) (Bs I.ok.bsz z)) (Gx _)
 ·rcases Be.mp (I.stkSub b G) with z | z
  ·exact(hf b g).2.1 z
  ·exact(hf b g).2.2.1 z
 ·
  have B:N'[i]? = some x:=B
  unfold cmap at a
  rw[Aw] at a
  cases f:js[i]? with
  | none=>rw[f] at a;cases a
  | some o=>
   rw[f] at a
   cases o with
   | none=>cases a
   | some j=>
    obtain⟨V,E⟩:=wZ M f B
    have a:(σ[j]?).join=some v:=by simpa using a
    have L:σ[j]? = some (some v):=by
     cases q:σ[j]? with
     | none=>rw[q] at a;cases a
     | some z=>rw[q] at a;simpa using a
    obtain⟨Z,U,F⟩:=I.loc
    have O:=S.free _ (w5 E) rfl
    obtain⟨u,r,l⟩:=F j x v V L (O.elim (fun z=>.inr (.inl z)) fun z=>.inr (.inr z))
    refine⟨u,r,.inr ⟨(w4 (env:=X.env) S.nocell).mpr E,?_⟩⟩
    rcases l with⟨k,_⟩ | ⟨_,c,Y,hc⟩
    ·have k:X.env.scope.names.lookup x=some .local:=k
     rcases O with z | z
     ·rw[k] at z;cases z
     ·rw[k] at z;cases z
    ·obtain⟨J,t⟩:=sX (cells:=X.env.cells) (acc:=[]) (.inl (w5 E))
     have:J=c:=Cp ((sub x J t).symm.trans Y)
     subst this
     obtain⟨D,d,hd⟩:=hc
     exact⟨J,t,D,keep _ _ d,hd⟩
 ·obtain⟨v,D,d,hd⟩:=I.cell x c (sub x c e)
  exact⟨v,D,keep _ _ d,hd⟩
 ·obtain⟨v,D,d,hd⟩:=I.cell x c (sub x c e)
  have K:c∉fp:=fun z=>(hf c z).2.2.2.2.1 x c (sub x c e) rfl
  exact un.free c D d (I.freeC x c (sub x c e)) K
 ·show(cmap js σ).length=N'.length
  unfold cmap
  rw[Ab]
  exact wY M
end
section
variable {prog:Ay}{w:Bq}{A:Cr}{R:Result->Ah->Prop}{s:Ah}
theorem W7{elt a iter:Expr}{ifs:List Expr}{d:Iw}{pos:Pos}{t acc:Ae}{env:Env}(I:Nat->Ah->Prop)
  (o:∀ n s,I n s->Bf (Bu prog w) A (Gp t) (fun r b=>match r with
   | none=>R (.ok .next) b
   | some v=>Bf (Bu prog w) A (Ml a t v) (fun _ s₀=>Bf (Bu prog w) A (Lu a env v) (fun _ f=>
     Bf (Bu prog w) A (forIn ifs true fun c r=>if r=true then do let ok <-isTrue c env (eval c env);pure (ForInStep.yield ok) else pure (ForInStep.yield r)) (fun ok e=>
      if ok=true then Bf (Bu prog w) A (eval elt env) (fun x k=>
       Bf (Bu prog w) A (call (.builtin "list.append") [acc,x]) (fun _ j=>∃ m,m < n/\I m j) (fun _ _=>False) k) (fun _ _=>False) e
      else ∃ m,m < n/\I m e) (fun _ _=>False) f) (fun _ _=>False) s₀) (fun _ _=>False) b) (fun _ _=>False) s)
  (n:Nat) (h:I n s) :
  Kt (Bu prog w) A (.compLoop (.ListComp elt [⟨a,iter,ifs,0⟩] d pos) 0 t acc env) R s:=by
 refine codeAny_loop rfl I (fun n s u=>?_) n h
 show Bf _ A ((compTurn (.ListComp elt [⟨a,iter,ifs,0⟩] d pos) 0 t acc env).onRaise (fun x=>do noteFrame x env;theTreesLotGoes x)) _ _ s
 refine wpAny_noted ?_
 rw[compTurn_list]
 refine Aa (Nb (Aa (Ha (o n s u) (fun r b i=>?_) fun _ _ h'=>h'.elim)))
 cases r with
 | none=>exact Af i
 | some v=>
  refine Aa (Ha i (fun _ s₀ h₀=>?_) fun _ _ h'=>h'.elim)
  refine Aa (Ha h₀ (fun _ f p=>Aa (Ha p (fun ok e g=>?_) fun _ _ h'=>h'.elim)) fun _ _ h'=>h'.elim)
  cases ok with
  | false=>exact Af ⟨rfl,g⟩
  | true=>
   exact Aa (Aa (Ha g (fun x k q=>Aa (Ha q (fun _ j l=>Af (Af ⟨rfl,l⟩)) fun _ _ h'=>h'.elim)) fun _ _ h'=>h'.elim))
end
def g9(X:Cx)(ifs:List Expr)(t:TT):Prop:=
 ∀ (pins:List (Addr×Obj)) (s:Ah) (σ:St) (H:Hp) (Q:Bool->Hp->Prop),Inv X pins σ H s->t σ H Q->
  Bf (Bu X.prog X.w) X.A (forIn ifs true fun c r=>if r=true then do let ok <-isTrue c X.env (eval c X.env);pure (ForInStep.yield ok) else pure (ForInStep.yield r)) (TP X pins σ Q) X.xe s
def W8:TT:=fun _ H Q=>Q true H
theorem W9{X:Cx}:g9 X [] W8:=fun _ _ _ H _ I h=>wpAny_tests_nil ⟨H,I,h⟩
theorem XA{X:Cx}{c:Expr}{t:TT}(h:PT X c t):g9 X [c] t:=fun pins s σ H Q I hw=>wpAny_tests_one (h pins s σ H Q I hw)
def w9(J:It)(g:TG)(tt:TT)(te:TE)(p:Addr)(σ₀:St)(H1:Hp)(Q:VK):Prop:=
 ∃ W:Nat->Nat->St->List V->Hp->Prop,(∃ m,W 0 m σ₀ [] (aR H1 p (.lst [])))/\∀ i m e acc H,W i m e acc H->
  (J.stop i H/\Q (.ref p) H)\/(J.go i H/\∃ N:St->List V->Hp->Prop,(∀ a c d,N a c d->∃ j,j < m/\W (i + 1) j a c d)/\∀ x d,J.yld i H x d->g x e d fun a k=>tt a k fun b f=>
   if b=true then te a f fun y h=>h p=some (.lst acc)/\acc.length < Ai/\N a (acc ++ [y]) (aR h p (.lst (acc ++ [y])))
   else N a acc f)
def xA(wi:TI)(g:kL->TG)(tt:kL->TT)(te:kL->TE)(js:List (Option Nat)):TE:=fun σ H Q=>wi σ H fun J H1=>∀ p,H1 p=none->∀ B:kL,w9 J (g B) (tt B) (te B) p (cmap js σ) H1 Q
section
variable {X:Cx}{sc:Iw}{N':List Str}{js:List (Option Nat)}{tg iter elt:Expr}{ifs:List Expr}{pos:Pos}{wi:TI}{g:kL->TG}{tt:kL->TT}{te:kL->TE}
theorem GW(S:nF N' sc X.env.scope)(hj:eU N' X.N sc js N'=true)(hc:X.calm=true)
  (hg:∀ B,PG (cU X sc N' B) tg (g B)) (ht:∀ B,g9 (cU X sc N' B) ifs (tt B)) (he:∀ B,PE (cU X sc N' B) elt (te B))
  {pins:List (Addr×Obj)} {s:Ah} {σ:St} {J:It} {H:Hp} {it:Addr} {fp:List Addr} {tn:Nat->Heap->Prop} (I:Inv X pins σ H s) (T:kF X.prog X.w X.K tg J fp it tn) (st:tn 0 s.heap) (hf:∀ b∈fp,gZ X pins H b)
  {Q:VK} (hw:∀ p,H p=none->∀ B:kL,w9 J (g B) (tt B) (te B) p (cmap js σ) H Q) {E:Ae->Ah->Prop} {RR:Ae->Addr->Result->Ah->Prop}
  (hRR:∀ p C l O m,Inv X pins σ l O->gZ X pins l C->O.heap.Ns C m->Q (.ref p) l->RR (.ref p) C (.ok .next) O) :
  Bf (Bu X.prog X.w) X.A (newList []) (fun acc j=>Bf (Bu X.prog X.w) X.A (newFunctionEnv sc X.env.globals (gE X.env.cells sc.names []) [] X.env.qual none .none (some X.env)) (fun R s₄=>
   Kt (Bu X.prog X.w) X.A (.compStart (.ListComp elt [⟨tg,iter,ifs,0⟩] sc pos) 0 (.ref it) acc {R with scope:=relabel sc X.env}) (RR acc R.locals) s₄) E j) E s:=by
 refine Cm (wpAny_newFunctionEnv S.nocell (by intro y hy;simp at hy) (fun c h a=>?_) S.kind)
 dsimp only at h a ⊢
 generalize Y:s.heap.push {cls:=.type "list",dict:=none,data:=.seq ([]:List Ae).toArray} = H2 at h a ⊢
 have hC:H2.objs.size=s.heap.objs.size + 1:=by rw[<-Y,Mb]
 have hDC:s.heap.objs.size≠H2.objs.size:=by rw[hC];exact Bj (Lh _)
 have v:s.heap.objs.size<=H2.objs.size:=by rw[hC];exact Nat.le_succ _
 have U:∀ b,b < s.heap.objs.size->b≠H2.objs.size:=fun b f=>by rw[hC];exact Bj (Nat.lt_succ_of_lt f)
 have G:∀ b o,s.heap.get? b=some o->c.get? b=some o:=fun b o e=>a.extBut b o (U b (Bc e)) (Ag _ (Y ▸ Ag _ e))
 have hacc:c.get? s.heap.objs.size=some {cls:=.type "list",dict:=none,data:=.seq ([]:List Ae).toArray}:=a.extBut _ _ hDC (Ag _ (Y ▸ Ar _ rfl))
 have hp0:H s.heap.objs.size=none:=I.hok.fresh (Aj _)
 have newO:cA X.prog X.w (aR H s.heap.objs.size (.lst [])) c s.heap.objs.size (.lst []):=⟨De _,[],_,.nil,hacc⟩
 have hok1:cR X.prog X.w (aR H s.heap.objs.size (.lst [])) c:=I.hok.laid G (Aj _) newO
 have un1:Un (iD X.stack) fp H (aR H s.heap.objs.size (.lst [])) s.heap c:=Un.laid G (Aj _) hp0
 have fC:(aR H s.heap.objs.size (.lst [])) H2.objs.size=none:=by rw[bE (Ca hDC)];exact I.hok.fresh v
 have IB:=W6 (tk:=s.toks + ([]:List (Str×Ae)).length) S hj I hf (fun b f=>let ⟨o,e,_⟩:=T.obj 0 _ st b f;⟨o,e⟩) v G un1 hok1 h fC
 obtain⟨W,⟨m0,w0⟩,P⟩:=hw _ hp0 ⟨gE X.env.cells sc.names [],s,H,fp,H2.objs.size⟩
 have st1:tn 0 c:=T.keep _ _ _ st fun b _ o e=>G b o e
 have loop:∀ j:Ah,j = {s with heap:=c,toks:=s.toks + ([]:List (Str×Ae)).length}->
   Kt (Bu X.prog X.w) X.A (.compLoop (.ListComp elt [⟨tg,iter,ifs,0⟩] sc pos) 0 (.ref it) (.ref s.heap.objs.size) (compEnvC sc (gE X.env.cells sc.names []) H2.objs.size X.env))
    (RR (.ref s.heap.objs.size) H2.objs.size) j:=by
  rintro j rfl
  generalize hB:(⟨gE X.env.cells sc.names [],s,H,fp,H2.objs.size⟩:kL)=B at P w0 IB
  have eB:compEnvC sc (gE X.env.cells sc.names []) H2.objs.size X.env=(cU X sc N' B).env:=by subst hB;rfl
  have M:(cU X sc N' B).ex=fp:=by subst hB;rfl
  rw[eB]
  have D:∀ {k:St} {l:Hp} {O:Ah},Inv (cU X sc N' B) [] k l O->(∀ b∈fp,l b=none)->∀ b∈fp,gZ (cU X sc N' B) [] l b:=fun {k l O} J' hn b f=>by
   refine⟨hn b f,(J'.ok.exf b (by rw[M];exact f)).1,J'.ok.exfs b (by rw[M];exact f),.inl (by rw[M];exact f),(J'.ok.exf b (by rw[M];exact f)).2,fun p hp=>absurd (show p∈([]:List (Addr×Obj)) from hp) (by simp)⟩
  have fp0:∀ b∈fp,(aR H s.heap.objs.size (.lst [])) b=none:=fun b f=>by
   obtain⟨o,e,_⟩:=T.obj 0 _ st b f
   rw[bE (Bj (Bc e))]
   exact(hf b f).1
  refine W7 (fun n O=>∃ i k acc l,Inv (cU X sc N' B) [] k l O/\tn i O.heap/\(∀ b∈fp,l b=none)/\W i n k acc l) ?_ m0 ⟨0,_,[],_,IB,st1,fp0,w0⟩
  rintro n s3 ⟨i,L,acc,H3,I3,st3,fr3,w3⟩
  rcases P i n L acc H3 w3 with⟨stop,qn⟩ | ⟨go,N,hN,step⟩
  ·refine a6 (T.done (cU X sc N' B) rfl rfl rfl hc i [] s3 L H3 (fun _ _=>False) I3 (D I3 fr3) st3 stop) fun r s4 ⟨hr,I4⟩=>?_
   subst hr
   obtain⟨m4,hn4,_⟩:=I4.loc
   have u4:Un (iD X.stack) fp H H3 s.heap s4.heap:=by have:=I4.base;subst hB;exact this
   have o4:s4.os=s.os:=by have:=I4.os;subst hB;exact this
   have c4:(cU X sc N' B).env.locals=H2.objs.size:=by subst hB;rfl
   have hIX:Inv X pins σ H3 s4:=I.call' (ch:=fp) o4 u4 I4.hok I4.bare fun b f=>⟨(hf b f).2.2.2.1,(hf b f).2.1,(hf b f).2.2.2.2.1,(hf b f).2.2.2.2.2⟩
   exact hRR _ _ H3 s4 m4 hIX (I.fpOk v (by rw[<-c4];exact I4.free)) (by rw[<-c4];exact hn4) qn
  ·refine a6 (T.item (cU X sc N' B) rfl rfl rfl hc i [] s3 L H3 (fun _ _=>False) I3 (D I3 fr3) st3 go) fun r s4 ⟨u,hr,h4⟩=>?_
   subst hr
   refine a6 h4 fun _ s5 ⟨x,H5,I5,r5,y5,Z,fr5⟩=>?_
   have I5':=I5.pinned (D I5 fr5) (T.obj _ _ Z)
   refine a6 (hg B _ s5 L H5 x u _ I5' r5 (step x H5 y5)) fun _ s6 ⟨q,H6,I6,q6⟩=>?_
   refine a6 (ht B _ s6 q H6 _ I6 q6) fun ok s7 ⟨H7,I7,q7⟩=>?_
   have F:∀ {H8:Hp} {s8:Ah} {t:List V},Inv (cU X sc N' B) ([] ++ p6 fp s5.heap) q H8 s8->(∃ m',m' < n/\W (i + 1) m' q t H8)->∃ m,m < n/\∃ i k acc l,Inv (cU X sc N' B) [] k l s8/\tn i s8.heap/\(∀ b∈fp,l b=none)/\W i m k acc l:=
    fun {H8 s8 t} I8 ⟨m',hm,w8⟩=>by
     refine⟨m',hm,i + 1,q,t,H8,I8.unpinned,T.keep _ _ _ Z fun b f o e=>(I8.pin (b,o) (Ck _ (Ck _ (sL f e)))).1,fun b f=>?_,w8⟩
     obtain⟨o,e,d⟩:=T.obj _ _ Z b f
     exact(I8.pin (b,o) (Ck _ (Ck _ (sL f e)))).2.1
   cases ok with
   | false=>
    rw[if_neg Ap] at q7
    rw[if_neg Ap]
    exact F I7 (hN _ _ _ q7)
   | true=>
    rw[if_pos rfl] at q7
    rw[if_pos rfl]
    refine a6 (he B _ s7 q H7 _ I7 q7) fun y s8 ⟨z,H8,I8,r8,hp8,hl8,q8⟩=>?_
    exact a6 (GF _ s8 q H8 (.ref s.heap.objs.size) [z] (.ref s.heap.objs.size) [y] (fun _ H9=>N q (acc ++ [z]) H9) I8 rfl (.cons r8 .nil) ⟨_,acc,z,rfl,rfl,hp8,hl8,q8⟩) fun _ s9 ⟨_,H9,I9,_,q9⟩=>F I9 (hN _ _ _ q9)
 exact codeAny_compStart_list (loop _ rfl) (T.self _ 0 _ _ _ st1 (loop _ rfl))
theorem XB(N':List Str)(js:List (Option Nat))(hi:PI X tg iter wi)
  (y:∀ B,PG (cU X sc N' B) tg (g B)) (ht:∀ B,g9 (cU X sc N' B) ifs (tt B)) (l:∀ B,PE (cU X sc N' B) elt (te B))
  (K:lH N' sc X.env.scope=true:=by kernel_rfl) (n:eU N' X.N sc js N'=true:=by kernel_rfl) (hc:X.calm=true:=by rfl) (F:∀ x,Fd iter X.env x=pure x:=by intro _;rfl):PE X (.ListComp elt [⟨tg,iter,ifs,0⟩] sc pos) (xA wi g tt te js):=by
 intro pins s σ H Q I h
 have S:=nF.of K
 rw[eval_ListComp]
 refine wpAny_comprehension_free (use:=none) rfl F (GV (w6 S I)) S.kind S.loc (a6 (hi pins s σ H _ I h) fun M j a=>a6 a fun v k c=>?_)
 obtain⟨L,fp,O,J,P,e,r,T,f,G,hw⟩:=c
 subst e
 refine GW (RR:=fun acc C=>compPost (Bu X.prog X.w) X.A X.xe none (EP X pins σ Q) acc C) S n hc y ht l r T f G hw ?_
 intro p C z u m E d t q
 refine⟨m,t,fun h' i=>⟨.ref p,z,?_,rfl,q⟩⟩
 exact E.turned (t':=u.toks) (fun b o D e=>(i.2 b D).trans e) d.1 d.2.1 d.2.2.2.1 d.2.2.2.2.1 d.2.2.2.2.2
theorem GX{i:Nat}{x:Str}{f c:Pos}(P:X.N.Nodup)(F:X.N[i]? = some x)(L:Loc X.env.scope x)(N':List Str)(js:List (Option Nat))(hi:PI X tg iter wi)
  (Y:∀ B,PG (cU X sc N' B) tg (g B)) (ht:∀ B,g9 (cU X sc N' B) ifs (tt B)) (O:∀ B,PE (cU X sc N' B) elt (te B))
  (S0:lH N' sc X.env.scope=true:=by kernel_rfl) (R:eU N' X.N sc js N'=true:=by kernel_rfl) (hc:X.calm=true:=by rfl) (u:Hg (.ListComp elt [⟨tg,iter,ifs,0⟩] sc pos) (some (.Name x f)) c.line X.env=pure true:=by rfl)
  (hf:X.fn x=true\/X.env.scope.names.lookup x=some .local:=by first | exact .inl rfl | exact .inr rfl | assumption)
  (hs:∀ x,Fd iter X.env x=pure x:=by intro _;rfl):PS X (.Assign [.Name x f] (.ListComp elt [⟨tg,iter,ifs,0⟩] sc pos) c) (sI (xA wi g tt te js) (wC i)):=by
 intro pins s σ H D I h
 have S:=nF.of S0
 rw[exec_Assign_Name_used _ _ _ _ u]
 refine Aa (Nb (Aa ?_))
 show Bf _ X.A (do let _ <-comprehension (.ListComp elt [⟨tg,iter,ifs,0⟩] sc pos) sc X.env _ (newList []) false (eval iter X.env) (some (Lu (.Name x f) X.env))) _ _ s
 refine Aa (Ha (wpAny_comprehension_free (use:=some (Lu (.Name x f) X.env)) (Q:=fun _ l=>SP X pins D .next l) rfl hs (GV (w6 S I)) S.kind S.loc
  (a6 (hi pins s σ H _ I h) fun xv G j=>a6 j fun W K k=>?_)) (fun _ l hq=>Af (Af hq)) fun _ _ e=>e)
 obtain⟨it,fp,tn,J,H2,e,V,T,n,f2,hw⟩:=k
 subst e
 refine GW (RR:=fun acc C=>compPost (Bu X.prog X.w) X.A X.xe (some (Lu (.Name x f) X.env)) (fun _ l=>SP X pins D .next l) acc C) S R hc Y ht O V T n f2 hw ?_
 intro p C Z l m I' d U q
 show Bf _ X.A (Lu (.Name x f) X.env (.ref p)) _ _ _
 refine wpAny_assign_Name (FE I' P F L (v:=.ref p) rfl (fun y r ⟨a,sb,M⟩=>?_) hf)
 have E:C≠a:=by
  rcases M with e | e
  ·rw[e];exact d.2.1
  ·exact fun z=>d.2.2.2.2.1 x a e z.symm
 refine⟨m,U.sameBut sb E,fun h' t=>⟨_,Z,?_,q⟩⟩
 exact r.turned (t':=y.toks) (fun b o hb e=>(t.2 b hb).trans e) d.1 d.2.1 d.2.2.2.1 d.2.2.2.2.1 d.2.2.2.2.2
end
section
variable {g:TG}{tt:TT}{te:TE}{p:Addr}{σ₀:St}{H1:Hp}{Q:VK}
theorem XC{J:It}(n:Nat)(c:Nat->St->List V->Hp->Prop)(t:c 0 σ₀ [] (aR H1 p (.lst [])))(hd:∀ σ acc H,c n σ acc H->J.stop n H/\Q (.ref p) H)
  (r:∀ i σ acc H,i < n->c i σ acc H->J.go i H/\∀ x f,J.yld i H x f->g x σ f fun a s=>tt a s fun b h=>
   if b=true then te a h fun y k=>k p=some (.lst acc)/\acc.length < Ai/\c (i + 1) a (acc ++ [y]) (aR k p (.lst (acc ++ [y]))) else c (i + 1) a acc h):w9 J g tt te p σ₀ H1 Q:=by
 refine⟨fun i m σ acc H=>m=n - i/\i<=n/\c i σ acc H,⟨n,by simp,De _,t⟩,?_⟩
 rintro i m σ acc H ⟨rfl,hi,q⟩
 by_cases d:i < n
 ·obtain⟨u,o⟩:=r i σ acc H d q
  exact .inr ⟨u,c (i + 1),fun a j f l=>⟨n - (i + 1),by omega,rfl,d,l⟩,o⟩
 ·have e:i=n:=by omega
  subst e
  exact .inl (hd σ acc H q)
end
section
variable {X:Cx}
theorem GY{i:Int}(h:i.natAbs < 2 ^ 4096):Builtin.Int.intBits i<=2 ^ 20:=by
 unfold Builtin.Int.intBits
 split
 ·exact De _
 ·rename_i a
  have b:i.natAbs≠0:=by
   intro z
   have:i=0:=Int.natAbs_eq_zero.mp z
   rw[this] at a
   exact a rfl
  have:i.natAbs.log2 < 4096:=(Nat.log2_lt b).mpr h
  have e:(2:Nat) ^ 20=1048576:=by decide
  lia
def oP(i j:Int):Prop:=i.natAbs < 2 ^ 4096/\j.natAbs < 2 ^ 4096
theorem XD:a8 X (Dl .Mult) (rI oP fun i j=>.int (i * j)):=oI fun _ _ _ _ _ _ _ hc q=>mul_int q (IntMulOk.of_bits (GY hc.1) (GY hc.2))
def qE(i j:Int):Prop:=0 < j/\j < 2 ^ 4096
theorem XE:a8 X (Dl .FloorDiv) (rI qE fun i j=>.int (i / j)):=oI fun i j _ _ _ _ _ hc q=>by
 refine floordiv_int (by have:=hc.1;lia) ?_ (.inl (PyProof.noPylong_of_log2 ?_))
 ·rw[Int.fdiv_eq_ediv_of_nonneg _ (Int.le_of_lt hc.1)];exact q
 ·have d:j.natAbs≠0:=by have:=hc.1;lia
  have c:j.natAbs < 2 ^ 4096:=by
   have a:=hc.1
   have b:=hc.2
   lia
  have:=(Nat.log2_lt d).mpr c
  lia
theorem XF:a8 X (Dl .Mult) (fun x y H Q=>∃ z n,x=.str z/\y=.int n/\z.length<=16/\-(2 ^ 63)<=n/\n<=1048576/\Q (.str (Hd z n)) H):=by
 intro pins s σ H x y v u Q I e b h
 obtain⟨z,n,rfl,rfl,c,d,a,q⟩:=h
 obtain⟨t,rfl⟩:=e
 obtain⟨t',rfl⟩:=b
 exact SB.mul (mulOk_of 16 1048576 c a d (by decide) (by decide)) fun t' k=>⟨.str _,H,I.tok _,⟨_,rfl⟩,q⟩
theorem XG:fD X "str.upper" (fun x vs H Q=>∃ z,x=.str z/\vs=[]/\z.length<=5592405/\Q (.str (Txt.upper z)) H):=by
 intro pins s σ H x xs v us Q I b a h
 obtain⟨z,rfl,rfl,hz,q⟩:=h
 obtain⟨t,rfl⟩:=b
 have:=a.zero
 subst this
 exact SC.upper (fit_upper hz) ⟨.str _,H,I.tok _,⟨_,rfl⟩,q⟩
theorem XH:fD X "str.partition" (fun x vs H Q=>∃ z y,x=.str z/\vs=[.str y]/\(y.length == 0)=false/\z.length<=Ai/\
  ∀ p,H p=none->Q (.ref p) (aR H p (.tup [.str (Cg z y).1,.str (Cg z y).2.1,.str (Cg z y).2.2]))):=by
 intro pins s σ H x xs v us Q I w l h
 obtain⟨z,y,rfl,rfl,m,hz,q⟩:=h
 obtain⟨t,rfl⟩:=w
 obtain⟨u,rfl,n⟩:=l.one
 obtain⟨t',rfl⟩:=n
 refine Jf Mq (typeIs_str _ _ _) F.entry_str_partition (F.args_str_partition_2 _ _) (meets_str_partition z y t t' m hz) ?_
 have d:=q s.heap.objs.size (I.hok.fresh (Aj _))
 have fin:∀ (a b c:Str) (g f j:Tok) (tk:Nat),Q (.ref s.heap.objs.size) (aR H s.heap.objs.size (.tup [.str a,.str b,.str c]))->
   EP X pins σ Q (.ref s.heap.objs.size) {s with toks:=tk,heap:=s.heap.push {cls:=.type "tuple",data:=.seq [.str a g,.str b f,.str c j].toArray}}:=fun a b c g f j tk k=>
  ⟨.ref s.heap.objs.size,_,I.laid (o:=.tup [.str a,.str b,.str c]) (t':=tk) (fun b o e=>Ag _ e) (Aj _)
   ⟨by show 3<=Ai;decide,[.str a g,.str b f,.str c j],.cons ⟨_,rfl⟩ (.cons ⟨_,rfl⟩ (.cons ⟨_,rfl⟩ .nil)),⟨_,Ar _ rfl,rfl,_,rfl⟩⟩,rfl,k⟩
 unfold Cg at d
 revert d
 cases Hs z y 0 z.length 1 with
 | nil=>intro d;exact fin _ _ _ _ _ _ _ d
 | cons i r=>intro d;exact fin _ _ _ _ _ _ _ d
theorem all_range{bs:List Bool}:(Cv bs.length).all (fun i=>bs.getD i false)=bs.all id:=by
 induction bs with
 | nil=>rfl
 | cons b r a=>
  rw[Bk,List.range_succ_eq_map,Ib,Lo,Ib]
  have:((fun i=>(b :: r).getD i false) ∘ Nat.succ)=fun i=>r.getD i false:=by
   funext i;simp[List.getD]
  rw[this,a]
  simp
theorem GZ(hc:X.calm=true):cN X (.builtin "all") (fun xs H Q=>∃ (p:Addr) (bs:List Bool),xs=[.ref p]/\bF X.K H p (bs.map V.bl)/\Q (.bl (bs.all id)) H):=by
 intro pins s σ H xs us Q I r h
 obtain⟨p,bs,rfl,t,q⟩:=h
 obtain⟨u,rfl,j⟩:=vals1 r
 cases j
 obtain⟨its,g,pl,hz⟩:=I.list t
 have d:p < s.heap.objs.size:=by obtain⟨_,e,_⟩:=pl.isList;exact Bc e
 refine call_all_walk (Hq pl.isList ?_)
 have m:X.A.in1.handled=none:=I.ok.hd hc
 refine⟨s.heap.objs.size,[s.heap.objs.size,p],[s.heap.objs.size],its.toArray.size,(fun i v=>its.toArray[i]? = some v),_,(fun i=>bs.getD i false),rfl,Ld m s.heap.objs.size p (Bj d) its.toArray,
  ⟨⟨_,Ar _ rfl,rfl,rfl⟩,pl.isList.push _⟩,?_,fun h' tk hk=>?_⟩
 ·intro i v y B C w f
  have a:its[i]? = some v:=by simpa using w
  have hi:i < its.length:=(Ak.mp a).1
  have hl:=g.length
  rw[Ab] at hl
  have n:bs[i]? = some (bs.getD i false):=by
   have c:i < bs.length:=by lia
   simp[List.getD,Bp c]
  obtain⟨u,k,j⟩:=g.get (i:=i) (x:=.bl (bs.getD i false)) (by rw[Aw,n];rfl)
  rw[a] at k;cases k
  cases (show v=Value.bool (bs.getD i false) from j)
  exact Af f
 ·have hl:=g.length
  rw[Ab] at hl
  have e:(Cv its.toArray.size).all (fun i=>bs.getD i false)=bs.all id:=by
   rw[Az,<-hl,all_range]
  rw[e]
  refine⟨.bl (bs.all id),H,?_,rfl,q⟩
  exact I.kept (t':=tk) fun b o l=>hk b o (fun z=>by
   have:b=s.heap.objs.size:=by simpa using z
   exact absurd (Bc l) (by rw[this];exact Gx _)) (Ag _ l)
theorem XI:cN X (.builtin "isinstance") (fun xs H Q=>∃ x T t b,xs=[x,.ty T]/\iE X.K H x t/\Ij X.K t (.type T)=some b/\Q (.bl b) H):=by
 intro pins s σ H xs us Q I r h
 obtain⟨x,T,t,b,rfl,ty,e,q⟩:=h
 obtain⟨u,c,rfl,d,a⟩:=vals2 r
 cases (show c=Value.type T from a)
 exact UH I d ty e fun tk=>⟨.bl b,H,I.tok _,rfl,q⟩
def xB(z:Str):It:=⟨fun i _=>i < z.cps.size,fun i H x a=>a=H/\∃ c,z.cps.toList[i]? = some c/\x=.str ⟨#[c]⟩,fun i _=>z.cps.size<=i⟩
theorem G0{P:Ay}{w:Bq}{K:Ac}{x:Str}{F:Pos}(z:Str)(a:Addr)(ty:String)(d:Tok)
  (nx:∀ (A:Cr) (s:Ah) (i c:Nat) (Q:Option Ae->Ah->Prop) (E:Ae->Ah->Prop),s.heap.IsStrIter a ty z d i->z.cps[i]? = some c->
   (∀ h',h'.IsStrIter a ty z d (i + 1)->Eo a s.heap h'->Q (some (.str ⟨#[c]⟩ s.toks)) {s with heap:=h',toks:=s.toks + 1})->Bf (Bu P w) A (Gp (.ref a)) Q E s)
  (en:∀ (A:Cr) (s:Ah) (i:Nat) (Q:Option Ae->Ah->Prop) (E:Ae->Ah->Prop),A.handled=none->s.heap.IsStrIter a ty z d i->z.cps[i]? = none->
   (∀ h',Mc a s.heap h'->Q none {s with heap:=h'})->Bf (Bu P w) A (Gp (.ref a)) Q E s)
  (B:∀ (A:Cr) (i:Nat) (s:Ah) (Q:Ae->Ah->Prop) (E:Ae->Ah->Prop),s.heap.IsStrIter a ty z d i->Q (.ref a) s->Bf (Bu P w) A (pyIter (.ref a)) Q E s) :
  kF P w K (.Name x F) (xB z) [a] a (fun i h=>h.IsStrIter a ty z d i) where
 mem:=by simp
 obj:=fun i h st b f=>by
  have e:b=a:=by simpa using f
  subst e
  obtain⟨o,j,_,hd⟩:=st
  exact⟨o,j,fun v q=>by rw[hd] at q;cases q⟩
 keep:=fun i h h' st k=>by
  obtain⟨o,j,r⟩:=st
  exact⟨o,k a (by simp) o j,r⟩
 item:=by
  intro X t hw g hc i pins s σ H E I hf st y
  subst t hw g
  obtain⟨n,m,J,l,p,u⟩:=hf a (by simp)
  have hi:z.cps[i]? = some z.cps[i]:=Km y
  refine nx X.A s i _ _ _ st hi fun h' st' sb=>?_
  have D:Inv X pins σ H {s with heap:=h',toks:=s.toks + 1}:=I.turned (fun b o f e=>(sb.2 b f).trans e) n m l p u
  exact⟨_,rfl,Af ⟨.str ⟨#[z.cps[i]]⟩,H,D,⟨_,rfl⟩,⟨rfl,z.cps[i],by rw[Fx];exact hi,rfl⟩,st',fun b f=>(hf b f).1⟩⟩
 done:=by
  intro X t hw g hc i pins s σ H E I hf st y
  subst t hw g
  obtain⟨n,m,J,l,p,u⟩:=hf a (by simp)
  have C:z.cps.size<=i:=y
  exact en X.A s i _ _ (I.ok.hd hc) st (Lk C) fun h' G=>⟨rfl,I.turned (t':=s.toks) (fun b o f e=>G b o f e) n m l p u⟩
 self:=B
theorem G1{prog:Ay}{w:Bq}{A:Cr}{E:Ae->Ah->Prop}{e l:Addr}{items:Array Ae}(h:l≠e):∀ (n i:Nat) (s:Ah) (Q:List Ae->Ah->Prop),s.heap.IsListIter e l i->s.heap.IsList l items->i + n<=items.size->
  (∀ h',h'.IsListIter e l (i + n)->Eo e s.heap h'->Q ((items.toList.drop i).take n) {s with heap:=h'})->Bf (Bu prog w) A (draw (.ref e) n) Q E s
 | 0,i,s,Q,hit,_,_,j=>by
  show Bf _ _ (pure []) Q E s
  exact Af (by simpa using j s.heap hit (Heap.SameBut.refl ..))
 | n + 1,i,s,Q,hit,ht,m,j=>by
  have f:i < items.size:=by lia
  show Bf _ _ (Gp (.ref e) >>= _) Q E s
  refine Aa (wpAny_pyNext_list_item hit ht (x:=items[i]) (by simp[f]) fun k b a=>?_)
  refine Aa (Cy (G1 h n (i + 1) _ _ b (ht.extBut a.extBut h) (by lia) fun g c d=>Af ?_))
  have hd:items.toList.drop i=items[i] :: items.toList.drop (i + 1):=by simp[Kq,f]
  have:=j g (by rw[show i + (n + 1)=i + 1 + n by lia];exact c) (a.trans d)
  rw[hd,List.take_succ_cons] at this
  exact this
theorem XJ{prog:Ay}{w:Bq}{A:Cr}{E:Ae->Ah->Prop}{s:Ah}{t:Addr}{items:Array Ae}{a:List (Bool×(Ae->Sem Unit))}{Q:Unit->Ah->Prop}(hh:A.handled=none)(ht:s.heap.IsList t items)
  (q:a.length=items.size) (i:a.findIdx? (·.1)=none)
  (h:∀ h',Mc s.heap.objs.size s.heap h'->Bf (Bu prog w) A (assignInOrder (a.map (·.2)) items.toList) Q E {s with heap:=h'}) :
  Bf (Bu prog w) A (unpack (.ref t) a) Q E s:=by
 have j:t≠s.heap.objs.size:=by obtain⟨o,p,_⟩:=ht;exact Bj (Bc p)
 unfold unpack
 rw[q,i]
 refine Aa (Cy ?_)
 unfold unpackItems
 refine Aa ?_
 unfold notIterableAtAll
 refine Aa (Gj ht.typeIs F.slot_list_iter.lookup ?_)
 refine Af ?_
 simp only[Cz,if_false]
 refine Aa (Cy (Hq ht ?_))
 refine Aa (Cy (G1 j items.size 0 _ _ ⟨_,Ar _ rfl,rfl,rfl⟩ (ht.push _) (by lia) fun l d c=>?_))
 have k:List.take items.size (List.drop 0 items.toList)=items.toList:=by
  rw[List.drop_zero];exact Gn (by simp)
 rw[k]
 rw[if_neg (by simp)]
 have f:l.IsList t items:=(ht.push _).extBut c.extBut j
 refine Aa (Cy (wpAny_pyNext_list_end hh d f (by simp) fun m g=>?_))
 simp only[Option.isSome_none,Cz,if_false]
 refine Af (h m fun b o n e=>g b o n (c.extBut b o n (Ag _ e)))
def XM(K:Ac)(n:Nat)(t:jX):TG:=fun v σ H Q=>∃ a xs,v=.ref a/\bF K H a xs/\xs.length=n/\t xs σ H Q
theorem G2{es:List Expr}{k:Nat}{pos:Pos}{t:jX}{n:Nat}(hc:X.calm=true)(h:jD X es t)
  (l:(Gd es X.env).length=n:=by rfl) (c:(Gd es X.env).findIdx? (·.1)=none:=by rfl):PG X (.Tuple es k pos) (XM X.K n t):=by
 intro pins s σ H v u Q I r hw
 obtain⟨a,xs,j,i,hl,hw⟩:=hw
 subst j
 cases r
 obtain⟨its,d,ht,hz⟩:=I.list i
 rw[PyProof.Rows.assign_Tuple]
 refine Aa (Nb (XJ (I.ok.hd hc) ht.isList (by simp[l,<-hl,d.length]) c fun h' f=>?_))
 have g:Inv X pins σ H {s with heap:=h'}:=I.kept (t':=s.toks) fun b o e=>f b o (Bj (Bc e)) e
 exact h pins _ σ H xs _ Q g (by simpa using d) hw
end
end L2
namespace Rg
open PySem PySem.Spec PyProof.Rows L2
abbrev gQ:Str:="ABCDEFGHIJKLMNOPQRSTUVWXYZ"
abbrev oQ:Str:="0123456789"
abbrev kM:Str:="abcdefghijklmnopqrstuvwxyz"
def cs(z:Str):List Nat:=z.cps.toList
def lI(z g:Str):Bool:=(!decide (V.str z=V.str "")) && (cs z).all fun c=>decide (c∈cs g)
def iX(z:Str):Bool:=(decide (V.str (Cg z "_").2.1=V.str "") || lI (Cg z "_").2.2 oQ) && lI (Cg z "_").1 gQ
theorem xC{x y:Str}(h:cs x=cs y):x=y:=by
 obtain⟨x⟩:=x;obtain⟨y⟩:=y
 exact congrArg Str.mk (Array.toList_inj.mp h)
theorem nG(x:Str):(cs x).length=x.length:=by unfold cs Kj;simp
theorem oR(x y:Str):cs (x ++ y)=cs x ++ cs y:=by
 show(x.cps ++ y.cps).toList=_
 rw[Mh];rfl
theorem G3:cs "" = []:=by decide +kernel
theorem G4(z:Str):decide (V.str z=V.str "")=decide (cs z=[]):=by
 by_cases h:z = ""
 ·subst h;simp[G3]
 ·rw[decide_eq_false (fun e=>h (V.str.inj e)),decide_eq_false]
  intro e
  exact h (xC (e.trans G3.symm))
theorem qF(z g:Str):lI z g=(!decide (cs z=[]) && (cs z).all fun c=>decide (c∈cs g)):=by unfold lI;rw[G4]
theorem G5:("_" : Str)=⟨#[95]⟩:=by decide +kernel
theorem G6:cs "_" = [95]:=by decide +kernel
theorem G7{z:Str}(h:95∉cs z):Cg z "_" = (z,Str.empty,Str.empty):=by
 rw[G5]
 rcases partition_whole z ⟨#[95]⟩ with⟨e,_⟩ | ⟨i,_,hi,_⟩
 ·exact e
 ·exact absurd ((mem_iff_at z 95).mpr ⟨i,hi⟩) h
theorem G8(z:Str)(i j:Nat):cs (Builtin.Str.strSub z i j)=((cs z).drop i).take (j - i):=by
 show(z.cps.extract i j).toList=_
 rw[Array.toList_extract];rfl
theorem G9{z a b:Str}(e:cs z=cs a ++ 95 :: cs b)(h:95∉cs a):Cg z "_" = (a,("_" : Str),b):=by
 have hz:z.length=(cs a).length + 1 + (cs b).length:=by
  rw[<-nG,e,Am,Bk];lia
 rw[G5]
 rcases partition_whole z ⟨#[95]⟩ with⟨_,f⟩ | ⟨i,n,hi,f⟩
 ·have s:95∈cs z:=by rw[e];simp
  obtain⟨j,p⟩:=(mem_iff_at z 95).mp s
  exact absurd p (f j)
 ·have g:(cs z)[i]? = some 95:=(StrLaws.subAt_one z 95 i).mp hi
  have o:∀ k,k < i->(cs z)[k]?≠some 95:=fun k hk q=>f k hk ((StrLaws.subAt_one z 95 k).mpr q)
  have c:i=(cs a).length:=by
   rcases Nat.lt_trichotomy i (cs a).length with q | q | q
   ·rw[e,List.getElem?_append_left q] at g
    exact absurd (Av g) h
   ·exact q
   ·refine absurd ?_ (o (cs a).length q)
    rw[e,Kf (Aj _)]
    simp
  rw[n]
  have r:Builtin.Str.strSub z 0 i=a:=by
   apply xC
   rw[G8,List.drop_zero,e,c,Nat.sub_zero,List.take_left']
   rfl
  have l:Builtin.Str.strSub z (i + (⟨#[95]⟩:Str).length) z.length=b:=by
   apply xC
   have m:(⟨#[95]⟩:Str).length=1:=rfl
   rw[G8,m,e,c,hz]
   have d:(cs a ++ 95 :: cs b).drop ((cs a).length + 1)=cs b:=by
    rw[List.drop_append]
    simp
   rw[d]
   have:(cs a).length + 1 + (cs b).length - ((cs a).length + 1)=(cs b).length:=by lia
   rw[this,Cq]
  rw[r,l]
theorem XN{z:Str}(b:cs z≠[])(h:∀ c∈cs z,c∈cs gQ):iX z=true:=by
 have a:95∉cs z:=fun m=>absurd (h _ m) (by decide +kernel)
 unfold iX
 rw[G7 a]
 dsimp only
 rw[G4]
 have e:cs Str.empty=[]:=by decide +kernel
 simp only[e,decide_true,Bool.true_or,Bool.true_and]
 rw[qF,decide_eq_false b,Er.mpr fun c hc=>decide_eq_true (h c hc)]
 rfl
theorem XO{z a b:Str}(e:cs z=cs a ++ 95 :: cs b)(i:cs a≠[])(h:∀ c∈cs a,c∈cs gQ)(f:cs b≠[])(g:∀ c∈cs b,c∈cs oQ):iX z=true:=by
 have d:95∉cs a:=fun m=>absurd (h _ m) (by decide +kernel)
 unfold iX
 rw[G9 e d,qF,qF]
 rw[decide_eq_false i,Er.mpr fun c hc=>decide_eq_true (h c hc),decide_eq_false f,Er.mpr fun c hc=>decide_eq_true (g c hc)]
 simp
theorem XQ{z:Str}(b:cs z≠[])(h:∀ c∈cs z,c∈cs kM):iX z=false:=by
 have a:95∉cs z:=fun m=>absurd (h _ m) (by decide +kernel)
 unfold iX
 rw[G7 a,qF,qF]
 have hh:((cs z).all fun c=>decide (c∈cs gQ))=false:=by
  cases hz:cs z with
  | nil=>exact absurd hz b
  | cons c r=>
   have hc:c∈cs kM:=h c (by rw[hz];simp)
   have d:c∉cs gQ:=by
    have key:∀ c∈cs kM,c∉cs gQ:=by decide +kernel
    exact key c hc
   rw[Ib,decide_eq_false d,Md]
 rw[hh]
 simp
theorem xD{m:Nat}:(∀ c∈cs (Bw (toString ((m:Nat):Int))),c∈cs oQ)/\cs (Bw (toString ((m:Nat):Int)))≠[]:=by
 have e:=PySem.W.KIN.signs_num m
 have e:cs (Bw (toString ((m:Nat):Int)))=(Jg 10 m).map Char.toNat:=e
 constructor
 ·intro c hc
  rw[e] at hc
  obtain⟨ch,hch,rfl⟩:=Ao.mp hc
  have hd:ch.isDigit=true:=Nat.isDigit_of_mem_toDigits (by decide) (by decide) hch
  have:48<=ch.toNat/\ch.toNat<=57:=by
   unfold Char.isDigit at hd
   simp only[Ce,decide_eq_true_eq] at hd
   exact⟨hd.1,hd.2⟩
  have key:∀ k,48<=k->k<=57->k∈cs oQ:=by
   intro k h1 h2
   have:k=48\/k=49\/k=50\/k=51\/k=52\/k=53\/k=54\/k=55\/k=56\/k=57:=by lia
   rcases this with h | h | h | h | h | h | h | h | h | h <;> subst h <;> decide +kernel
  exact key _ this.1 this.2
 ·rw[e]
  intro z
  have:Jg 10 m=[]:=Gm.mp z
  have hl:0 < (Jg 10 m).length:=by
   by_cases h:m < 10
   ·rw[Nat.toDigits_of_lt_base h];simp
   ·have hm:m % 10 < 10:=Nat.mod_lt m (by decide)
    have t:Jg 10 (m / 10) ++ Jg 10 (m % 10)=Jg 10 (10 * (m / 10) + m % 10):=Nat.toDigits_append_toDigits (by decide) (by lia) hm
    rw[Nat.div_add_mod] at t
    rw[<-t,Nat.toDigits_of_lt_base hm]
    simp
  rw[this] at hl
  exact absurd hl (by simp)
def Below(d s:Int):Prop:=0<=d/\d < s
abbrev Drawn:List Int->List Int->Prop:=Fm Below
theorem XR{a k:Int}(j:0<=a)(b:a < 10 ^ 40)(i:0<=k)(h:k<=1000):(a * 48271 + 3 ^ 60 * (k + 1) * (k + 1) + k).natAbs < 2 ^ 200:=by
 have e:(3:Int) ^ 60=42391158275216203514294433201:=by decide
 have d:(10:Int) ^ 40=10000000000000000000000000000000000000000:=by decide
 have c:(2:Nat) ^ 200=1606938044258990275541962092341162602522202993782792835301376:=by decide
 rw[e,c]
 rw[d] at b
 have g:(k + 1) * (k + 1)<=1001 * 1001:=Int.mul_le_mul (by lia) (by lia) (by lia) (by lia)
 have f:0<=(k + 1) * (k + 1):=Int.mul_nonneg (by lia) (by lia)
 rw[Int.mul_assoc]
 generalize (k + 1) * (k + 1)=q at g f
 lia
theorem HA{i j:Int}{m n:Nat}(hi:i.natAbs < 2 ^ m)(a:j.natAbs < 2 ^ n):(i * j).natAbs < 2 ^ (m + n):=by
 rw[Int.natAbs_mul,Nat.pow_add]
 exact Nat.mul_lt_mul'' hi a
theorem XS{i j:Int}{m:Nat}(hi:i.natAbs < 2 ^ m)(a:j.natAbs < 2 ^ m):(i + j).natAbs < 2 ^ (m + 1):=by
 rw[Nat.pow_succ];lia
theorem xE{i:Nat}{m n:Nat}(h:i < 2 ^ m)(a:m<=n):i < 2 ^ n:=Cb h (Nat.pow_le_pow_right (by decide) a)
end Rg
namespace L2
open PySem PySem.Spec PyProof.Rows
section
variable {X:Cx}
def HB(d:Lb):Prop:=d.canLay0=true/\d.depth<=60
theorem sY:∀ {xs:List V} {us:List Ae},xs.length=us.length->(∀ (j:Nat) (u:Ae),us[j]? = some u->∃ x,xs[j]? = some x/\RelV x u)->aZ xs us
 | [],[],_,_=>.nil
 | [],_ :: _,h,_=>by simp at h
 | _ :: _,[],h,_=>by simp at h
 | x :: xs,u :: us,h,k=>by
  obtain⟨y,e,r⟩:=k 0 u rfl
  simp at e
  subst e
  exact .cons r (sY (by simpa using h) fun j v a=>by
   obtain⟨y,e,r⟩:=k (j + 1) v (by simpa using a)
   exact⟨y,by simpa using e,r⟩)
theorem xF:∀ {kvs:List (aD×V)} {vs:List (aD×Ae)} {j:Nat} {k:aD} {x:Ae},KV kvs vs->vs[j]? = some (k,x)->∃ v,kvs[j]? = some (k,v)
 | _,_,_,_,_,.nil,e=>by simp at e
 | _,_,0,_,_,.cons (a:=p) r _,e=>by
  simp at e
  subst e
  exact⟨p.2,by obtain⟨a,b⟩:=p;cases r.1;rfl⟩
 | _,_,j + 1,k,x,.cons _ t,e=>by
  obtain⟨v,q⟩:=xF (j:=j) (k:=k) (x:=x) t (by simpa using e)
  exact⟨v,by simpa using q⟩
theorem sZ{k:aD}{v:Ae}(h:nA k v=true):RelV (kV k) v:=by
 rcases kE h with⟨i,t,rfl,rfl⟩ | ⟨x,t,rfl,rfl⟩
 ·exact⟨t,rfl⟩
 ·exact⟨t,rfl⟩
theorem XT(hc:X.calm=true):cN X (.type "list") (fun xs H Q=>∃ d kvs,xs=[.ref d]/\H d=some (.dK kvs)/\∀ l,H l=none->Q (.ref l) (aR H l (.lst (kvs.map fun e=>kV e.1)))):=by
 intro pins s σ H xs us Q I r h
 obtain⟨d,kvs,rfl,hd,q⟩:=h
 obtain⟨u,rfl,A⟩:=vals1 r
 cases A
 obtain⟨hz,g,vs,c,p⟩:=(show cA X.prog X.w H s.heap d (.dK kvs) from I.hok d _ hd)
 obtain⟨ep,i⟩:=p.dictAt
 have hl:=c.length
 refine PySem.W.kdl_call (PySem.W.kdl_dict (knd:=bH X.prog X.w) (kvs:=vs) (ep:=ep) g) (I.ok.hd hc) i (by rw[<-hl];exact hz) fun h' tk a n hk t b=>?_
 refine⟨.ref s.heap.objs.size,_,I.laid (o:=.lst (kvs.map fun e=>kV e.1)) (t':=tk) hk (Aj _) ⟨by rw[Ab];exact hz,a.toList,n,?_,by rw[Hf];exact t⟩,rfl,q _ (I.hok.fresh (Aj _))⟩
 refine sY (by have D:=b.1;have E:a.toList.length=a.size:=Fn;have C:(kvs.map fun e=>kV e.1).length=kvs.length:=Ab ..;lia) fun j v B=>?_
 obtain⟨k,x,m,f⟩:=b.2 j v (by rw[<-Fx];exact B)
 obtain⟨y,z⟩:=xF c m
 exact⟨kV k,by rw[Aw,z];rfl,sZ f⟩
theorem XU{n:Nat}(i:Nat)(h:i≠0):n + i≠n:=by lia
theorem XW{n:Nat}(i:Nat):n<=n + i:=by lia
end
section
variable {X:Cx}
def xG(K:Ac)(a:Addr)(xs:List V):It:=
 ⟨fun i H=>bF K H a xs/\i < xs.length,
   fun i H x b=>∃ p u,xs[i]? = some u/\H p=none/\x=.ref p/\b=aR H p (.tup [.int (i:Nat),u]),
   fun i H=>bF K H a xs/\xs.length<=i⟩
theorem Inv.laidT{d:List (Addr×Obj)}{p:St}{H:Hp}{s:Ah}{fp:List Addr}{g:Heap}{tk:Nat}{xs:List V}{its:List Ae}(I:Inv X d p H s)(hf:∀ b∈fp,gZ X d H b)
  (a:∀ q o,q∉fp->s.heap.get? q=some o->g.get? q=some o) (hz:xs.length<=Ai) (v:aZ xs its) (i:g.get? s.heap.objs.size=some {cls:=.type "tuple",data:=.seq its.toArray}) :
  Inv X d p (aR H s.heap.objs.size (.tup xs)) {s with heap:=g,toks:=tk}:=by
 have c:H s.heap.objs.size=none:=I.hok.fresh (Aj _)
 have j:∀ q∈fp,H q=none:=fun q f=>(hf q f).1
 refine I.step (g':=s.gens) (d':=s.drawn) (t':=tk) (ch:=fp) (fun q f=>⟨(hf q f).2.2.2.1,(hf q f).2.1,(hf q f).2.2.2.2.1,(hf q f).2.2.2.2.2⟩)
  (fun q o _ _ hc e _=>a q o hc e) (fun q o _ _ hc e _=>⟨o.slots,a q o hc e⟩) (fun q o _ e n=>by rw[bE (Bj (Bc e))];exact n)
  (fun q o hc e=>⟨o,a q o hc e⟩) (fun q l e=>by rw[bE (eT e c)];exact e) (fun q o l e=>by rw[bE (eT e c)];exact e) (fun q ps e=>⟨#[],by rw[bE (eT e c),e];simp⟩) (fun m x=>?_) ?_ I.bare
 ·obtain⟨o,es,ep,w,r⟩:=x
  exact⟨o,es,ep,a _ o (fun z=>absurd rfl (hf _ z).2.1) w,r⟩
 ·intro q o e
  by_cases f:q=s.heap.objs.size
  ·subst f
   rw[cM] at e;cases e
   exact⟨hz,its,v,⟨_,i,rfl,_,rfl⟩⟩
  ·rw[bE f] at e
   refine(I.hok q o e).stay (fun t u ht h=>a t u (fun z=>?_) h) (fun t h=>by rw[bE (eT h c)];exact h) fun t l h=>by rw[bE (eT h c)];exact h
   have k:=j t z
   rcases ht with rfl | ht
   ·rw[k] at e;cases e
   ·rw[k] at ht;cases ht
theorem Inv.turnedT{c:List (Addr×Obj)}{k:St}{H:Hp}{s:Ah}{fp:List Addr}{f:Heap}{tk:Nat}(I:Inv X c k H s)(hf:∀ b∈fp,gZ X c H b)
  (a:∀ q o,q∉fp->s.heap.get? q=some o->f.get? q=some o):Inv X c k H {s with heap:=f,toks:=tk}:=by
 have h:∀ q∈fp,H q=none:=fun q d=>(hf q d).1
 refine I.step (g':=s.gens) (d':=s.drawn) (t':=tk) (ch:=fp) (fun q d=>⟨(hf q d).2.2.2.1,(hf q d).2.1,(hf q d).2.2.2.2.1,(hf q d).2.2.2.2.2⟩)
   (fun q o _ _ hc e _=>a q o hc e) (fun q o _ _ hc e _=>⟨o.slots,a q o hc e⟩) (fun q o _ e n=>n)
   (fun q o hc e=>⟨o,a q o hc e⟩) (fun q j e=>e) (fun q o j e=>e) (fun q ps e=>⟨#[],by rw[e];simp⟩) (fun m u=>?_) ?_ I.bare
 ·obtain⟨o,es,ep,p,r⟩:=u
  exact⟨o,es,ep,a _ o (fun z=>absurd rfl (hf _ z).2.1) p,r⟩
 ·intro q o e
  refine(I.hok q o e).stay (fun t l ht g=>a t l (fun z=>?_) g) (fun t g=>g) fun t j g=>g
  have i:=h t z
  rcases ht with rfl | ht
  ·rw[i] at e;cases e
  ·rw[i] at ht;cases ht
theorem XX{P:Ay}{w:Bq}{K:Ac}{es:List Expr}{Q:Nat}{N:Pos}(a e n:Addr)(xs:List V)(r:e≠n) :
  kF P w K (.Tuple es Q N) (xG K a xs) [e,n] e (fun i h=>(∃ b,IsEnum h e n (i:Nat) b)/\h.IsListIter n a i) where
 mem:=by simp
 obj:=fun i h st c hc=>by
  obtain⟨⟨b,f⟩,⟨M,j,_,G⟩⟩:=st
  simp only[Be,Lc,or_false] at hc
  rcases hc with rfl | rfl
  ·exact⟨_,f,fun v q=>by cases q⟩
  ·exact⟨_,j,fun v q=>by rw[G] at q;cases q⟩
 keep:=fun i h h' st k=>by
  obtain⟨⟨b,f⟩,⟨M,j,S⟩⟩:=st
  exact⟨⟨b,k e (by simp) _ f⟩,⟨M,k n (by simp) _ j,S⟩⟩
 item:=by
  intro X B hw D hc i g s L H E I hf st C
  subst B hw D
  obtain⟨⟨b,f⟩,j⟩:=st
  obtain⟨m,hi⟩:=C
  obtain⟨its,A,pl,hz⟩:=I.list m
  obtain⟨u,W,U⟩:=A.get (Bp hi)
  refine wpAny_pyNext_enum_item f j pl.isList (x:=u) (by simpa using W) r fun h' Y T O a4 hk=>?_
  refine⟨_,rfl,wpAny_letOwnedTupleGo_enum Y fun l R sb=>?_⟩
  have y:H s.heap.objs.size=none:=I.hok.fresh (Aj _)
  have t:e < s.heap.objs.size:=Bc f
  have F:n < s.heap.objs.size:=by obtain⟨_,q,_⟩:=j;exact Bc q
  have p:∀ q o,q∉[e,n]->s.heap.get? q=some o->l.get? q=some o:=fun q o d eq=>by
   simp only[Be,Lc,or_false,not_or] at d
   exact(sb.2 q d.1).trans (hk q o d.1 d.2 eq)
  have J:l.get? s.heap.objs.size=some {cls:=.type "tuple",data:=.seq [.int (i:Nat) s.toks,u].toArray}:=(sb.2 _ (Gq t)).trans O
  have Z:Inv X g L (aR H s.heap.objs.size (.tup [.int (i:Nat),xs[i]])) {s with heap:=l,toks:=s.toks + 1}:=I.laidT (its:=[.int (i:Nat) s.toks,u]) hf p (by show 2<=Ai;decide) (.cons ⟨_,rfl⟩ (.cons U .nil)) J
  refine⟨.ref s.heap.objs.size,_,Z,rfl,⟨s.heap.objs.size,xs[i],Bp hi,y,rfl,rfl⟩,⟨⟨u,by rw[Int.natCast_add];exact R⟩,T.extBut sb.extBut r.symm⟩,fun q d=>?_⟩
  rw[bE]
  ·exact(hf q d).1
  ·intro eq
   subst eq
   simp only[Be,Lc,or_false] at d
   rcases d with q | q
   ·exact Gq t q
   ·exact Gq F q
 done:=by
  intro X B hw D hc i g s L H E I hf st C
  subst B hw D
  obtain⟨⟨b,f⟩,j⟩:=st
  obtain⟨m,hij⟩:=C
  obtain⟨its,A,pl,hz⟩:=I.list m
  have l1:=A.length
  refine wpAny_pyNext_enum_end (I.ok.hd hc) f j pl.isList (by simp;lia) fun h' hk=>⟨rfl,?_⟩
  exact I.turnedT (tk:=s.toks) hf fun q o d eq=>hk q o (fun z=>d (by simp[z])) eq
 self:=fun _ _ _ _ _ st h=>by
  obtain⟨⟨b,f⟩,_⟩:=st
  exact wpAny_pyIter_enum f h
def XY(K:Ac)(c:TA):TI:=fun d H R=>c d H fun vs b=>∃ a xs,vs=[.ref a]/\bF K b a xs/\R (xG K a xs) b
theorem XZ{a:Expr}{l:TA}{p pos:Pos}{es:List Expr}{x:Nat}{m:Pos}(r:Gl X "enumerate")(v:X.mg "enumerate" = none)(n:PA X [a] l)(C:Bl [a] X.env=[(false,eval a X.env)]:=by rfl) :
  PI X (.Tuple es x m) (.Call (.Name "enumerate" p) [a] [] pos) (XY X.K l):=by
 intro c s o H R I h
 refine Call_ (mG I r v boot_enumerate (El (a6 (n pos c s o H _ I h) fun us d ⟨vs,B,f,y,w⟩=>?_) C rfl))
 obtain⟨a,xs,rfl,g,q⟩:=w
 obtain⟨u,rfl,z⟩:=vals1 y
 cases z
 obtain⟨its,A,pl,hz⟩:=f.list g
 refine call_enumerate_list pl.isList fun h' j t D k=>?_
 refine wpAny_pyIter_enum j ?_
 refine⟨d.heap.objs.size + 1,[d.heap.objs.size + 1,d.heap.objs.size],_,_,B,rfl,f.kept (t':=d.toks) k,XX a _ _ xs (XU 1 (by decide)),⟨⟨_,j⟩,t⟩,fun q i=>?_,q⟩
 have b:d.heap.objs.size<=q:=by
  simp only[Be,Lc,or_false] at i
  rcases i with e | e
  ·rw[e];exact XW 1
  ·rw[e];exact Aj _
 exact f.fpOk b (f.hok.fresh b)
end
section
variable {prog:Ay}{w:Bq}{A:Cr}{E:Ae->Ah->Prop}{s:Ah}
inductive nH(prog:Ay)(w:Bq)(hh:Heap)(A0:Cr):List Ae->List Int->Nat->Prop
 | nil:nH prog w hh A0 [] [] 0
 | cons {v:Ae} {vs:List Ae} {i:Int} {is:List Int} {d n:Nat} (h:∀ (E:Ae->Ah->Prop) (s:Ah) (Q:Int->Ah->Prop),s.heap=hh->Q i {s with toks:=s.toks + d}->Bf (Bu prog w) A0 (pyHash v) Q E s) (t:nH prog w hh A0 vs is n):nH prog w hh A0 (v :: vs) (i :: is) (d + n)
theorem X0{a:Addr}{o:Obj}{items:Array Ae}{n m:Nat}{is:List Int}{Q:Int->Ah->Prop}(u:A.units < Es)(r:s.heap.get? a=some o)(l:o.cls=.type "tuple")(hd:o.data=.seq items n)(hi:nH prog w s.heap A.in1 items.toList is m)
  (h:Q (reduceHash (Dq is)) {s with toks:=s.toks + (m + 1)}):Bf (Bu prog w) A (pyHash (.ref a)) Q E s:=by
 have g:s.TypeIs (.ref a) "tuple":=⟨o,r,l⟩
 unfold pyHash
 first | unfold pyHashByItsType | skip
 first | refine Aa (wpAny_cRoomFor_or (.inr u) ?_) | skip
 refine Aa (Gj g Hy.lookup ?_)
 rw[if_neg (by rw[beq_builtin_none];exact Ap)]
 refine Aa (Gj g Hy.lookup ?_)
 refine Aa (wpAny_callSpecialIfBoundUnlessNone?_slot g Hy (Dc Hy g PySem.F.entry_tuple_hash ?_ (PySem.F.args_tuple_hash_1 _)))
 refine Aa (Af ?_)
 refine Aa (Ga r hd ?_)
 refine Aa ?_
 rw[<-Array.forIn_toList]
 refine Ic _
  (fun rest (b:Array Int) p=>∃ done left k f,is=done ++ left/\nH prog w s.heap A.in1 rest left f/\b.toList=done/\p = {s with toks:=s.toks + k}/\k + f=m)
  _ ?_ ?_ _ _ ⟨[],is,0,m,rfl,hi,rfl,rfl,by lia⟩
 ·rintro x rest b p ⟨done,left,k,f,rfl,hl,j,rfl,hk⟩
  cases hl with
  | @cons _ _ i c d q t e=>
   refine Aa (t _ _ _ rfl ?_)
   first
    | exact Af ⟨done ++ [i],c,k + d,q,by simp,e,by simp[j],by simp[Ms],by lia⟩
    | exact Aa (Af (Af ⟨done ++ [i],c,k + d,q,by simp,e,by simp[j],by simp[Ms],by lia⟩))
 ·rintro b p ⟨done,left,k,f,rfl,hl,j,rfl,hk⟩
  cases hl
  rw[Gf] at h
  dsimp only
  rw[j]
  have v:k=m:=by lia
  subst v
  refine wpAny_ret_mkInt ?_
  unfold reduceHash at h
  by_cases hr:(decide (-(2:Int) ^ 63<=Dq done) && decide (Dq done < 2 ^ 63))=true
  ·rw[if_pos hr] at h
   show Bf _ _ (if (decide (-(2:Int) ^ 63<=Dq done) && decide (Dq done < 2 ^ 63))=true then _ else _) Q E _
   rw[if_pos hr]
   exact Af (by simpa [Ms] using h)
  ·rw[if_neg hr] at h
   show Bf _ _ (if (decide (-(2:Int) ^ 63<=Dq done) && decide (Dq done < 2 ^ 63))=true then _ else _) Q E _
   rw[if_neg hr]
   exact Aa (Gz (Af (by simpa [Ms] using h)))
inductive lJ(prog:Ay)(w:Bq)(hh:Heap)(A0:Cr):List Ae->List Ae->Bool->Prop
 | nil:lJ prog w hh A0 [] [] true
 | cons {u v:Ae} {us vs:List Ae} {b c:Bool} (h:∀ (E:Ae->Ah->Prop) (s:Ah) (Q:Bool->Ah->Prop),s.heap=hh->Q b s->Bf (Bu prog w) A0 (eqBool u v) Q E s) (t:lJ prog w hh A0 us vs c):lJ prog w hh A0 (u :: us) (v :: vs) (b && c)
theorem lJ.len{hh:Heap}{A0:Cr}{us vs:List Ae}{b:Bool}(h:lJ prog w hh A0 us vs b):us.length=vs.length:=by
 induction h with
 | nil=>rfl
 | cons _ _ a=>simp[a]
theorem X1{a b:Addr}{k ob:Obj}{xs ys:Array Ae}{D nb:Nat}{r:Bool}{Q:Bool->Ah->Prop}(H:A.units < Es)(j:s.heap.get? a=some k)(x:k.cls=.type "tuple")(p:k.data=.seq xs D)(i:s.heap.get? b=some ob)(z:ob.cls=.type "tuple")(t:ob.data=.seq ys nb)
  (hi:lJ prog w s.heap A.in1 xs.toList ys.toList r) (same:a=b->r=true) (h:Q r s):Bf (Bu prog w) A (eqBool (.ref a) (.ref b)) Q E s:=by
 have f:s.TypeIs (.ref a) "tuple":=⟨k,j,x⟩
 have g:s.TypeIs (.ref b) "tuple":=⟨ob,i,z⟩
 unfold eqBool
 try with_reducible refine Cy ?_
 show Bf _ _ (if (Value.ref a == Value.ref b)=true then _ else _) Q E s
 by_cases d:(Value.ref a == Value.ref b)=true
 ·rw[if_pos d]
  have e:a=b:=by have:=eq_of_beq d;injection this
  rw[same e] at h
  exact Aa (Gz (Af h))
 ·rw[if_neg d]
  refine Aa (Ks (op:=.Eq) f g Jb (Dc Jb f PySem.F.entry_tuple_eq ?_ (PySem.F.args_tuple_eq_2 _ _)) H)
  show Bf _ _ (isInstance (.ref b) (.type "tuple") >>= _) _ _ s
  refine Aa (Fl g Hm ?_)
  simp only[Gu,Cz,if_false]
  refine Aa (Ga j p ?_)
  refine Aa (Ga i t ?_)
  refine Aa ?_
  refine Ic _
   (fun rest q B=>q.1=none/\B=s/\∃ us vs c,rest=List.zip us vs/\lJ prog w s.heap A.in1 us vs c/\c=r)
   _ ?_ ?_ _ _ ⟨rfl,rfl,xs.toList,ys.toList,r,rfl,hi,rfl⟩
  ·rintro⟨u,v⟩ rest q B ⟨l,rfl,us,vs,c,hz,y,rfl⟩
   cases y with
   | nil=>simp at hz
   | @cons J L o m C I G n=>
    simp only[List.zip_cons_cons,Dv,Dk] at hz
    obtain⟨⟨rfl,rfl⟩,rfl⟩:=hz
    refine Aa (G _ _ _ rfl ?_)
    cases C with
    | true=>
     simp only[Gu,Cz,if_false]
     exact Af ⟨rfl,rfl,o,m,I,rfl,n,by rw[Bool.true_and]⟩
    | false=>
     simp only[Kg,if_true]
     rw[Md] at h
     exact Aa (Af (Af (Af ⟨_,rfl,(fun e=>nomatch e),Fp h⟩)))
  ·rintro⟨K,M⟩ B ⟨l,rfl,us,vs,c,hz,y,rfl⟩
   simp only at l
   subst l
   refine Af ?_
   have hsz:(xs.size == ys.size)=true:=by
    have:=hi.len
    simp at this
    simpa using this
   have hc:c=true:=by
    cases y with
    | nil=>rfl
    | cons _ _=>simp at hz
   subst hc
   refine⟨_,rfl,(fun e=>nomatch e),?_⟩
   show Bf _ _ (truthOfDropped (.bool (xs.size == ys.size))) Q E _
   rw[hsz]
   exact Fp h
theorem X2{K:Type}[DecidableEq K]{knd:KeyKind prog w K}{m:Nat}{ks:List K}{a:Addr}{Q:Bool->Ah->Prop}(hk:IsTupleKey knd s.heap ks a)(h:Q true s):Bf (Bu prog w) A (eqIsQuiet (m + 1) (.ref a)) Q E s:=by
 have f:=hk.typeIs
 obtain⟨o,items,n,i,g,hd,hi⟩:=hk
 unfold eqIsQuiet
 refine Aa (Gj f Jb.lookup ?_)
 try dsimp only
 refine Aa (Fl f Hm ?_)
 rw[if_neg (by decide)]
 try dsimp only
 refine Aa (Mv i hd (Aa ?_))
 show Bf _ _ (forIn items _ _) _ _ _
 rw[<-Array.forIn_toList]
 refine Ic _ (fun rest q e=>q.1=none/\e=s/\∀ v∈rest,carriedByValue v=true) _ ?_ ?_ _ _ ⟨rfl,rfl,hi.byValue⟩
 ·rintro v rest q e ⟨c,rfl,b⟩
  rw[eqIsQuiet_byValue _ (b v Ba)]
  refine Aa (Af ?_)
  rw[if_neg (by decide)]
  exact Af ⟨rfl,rfl,fun u d=>b u (An _ d)⟩
 ·rintro⟨k,j⟩ e ⟨c,rfl,_⟩
  simp only at c
  subst c
  exact Af h
end
abbrev bT:=aD×List aD
section
variable {prog:Ay}{w:Bq}
def tB(prog:Ay)(w:Bq)(tl:List Int)(h:Heap)(x:bT)(a:Addr):Prop:=
 ∃ o items n v b ts,h.get? a=some o/\o.cls=.type "tuple"/\o.data=.seq items n/\items.toList=v :: .ref b :: ts/\(bH prog w).is x.1 v=true/\IsTupleKey (bH prog w) h x.2 b/\ItemsAre (bH prog w) (tl.map Sum.inl) ts
def X3(prog:Ay)(w:Bq)(tl:List Int)(x:bT):Int:=reduceHash (Dq ((bH prog w).hash x.1 :: tupleKeyHash (bH prog w) x.2 :: tl.map fun i=>(bH prog w).hash (Sum.inl i)))
theorem HC{A:Cr}{hh:Heap}:∀ {tl:List Int} {ts:List Ae},ItemsAre (bH prog w) (tl.map Sum.inl) ts->nH prog w hh A ts (tl.map fun i=>(bH prog w).hash (Sum.inl i)) tl.length
 | [],_,h=>by cases h;exact .nil
 | i :: tl,_,h=>by
  cases h with
  | @cons _ v _ vs a t=>
   have:=nH.cons (A0:=A) (hh:=hh) (d:=1) (fun E s Q _ q=>(bH prog w).pyHash a q) (HC t)
   rw[Bk,Nat.add_comm]
   exact this
theorem HD{A:Cr}{hh:Heap}:∀ {tl:List Int} {ts us:List Ae},ItemsAre (bH prog w) (tl.map Sum.inl) ts->ItemsAre (bH prog w) (tl.map Sum.inl) us->lJ prog w hh A ts us true
 | [],_,_,h,h'=>by cases h;cases h';exact .nil
 | i :: tl,_,_,h,h'=>by
  cases h with
  | @cons _ v _ vs c t=>
   cases h' with
   | @cons _ e _ d a t'=>exact lJ.cons (b:=true) (fun E s Q _ q=>(bH prog w).eqBool c a (by rw[decide_eq_true rfl];exact q)) (HD t t')
theorem tB.inj{tl:List Int}{h:Heap}{a:Addr}{x y:bT}(l:tB prog w tl h x a)(t:tB prog w tl h y a):x=y:=by
 obtain⟨o,items,n,v,A,ts,r,_,k,j,s,m,_⟩:=l
 obtain⟨p,b,z,u,e,q,f,_,d,c,i,g,_⟩:=t
 obtain rfl:o=p:=Cp (r.symm.trans f)
 rw[k] at d
 injection d with g1 _
 subst g1
 rw[j] at c
 simp only[Dv,Value.ref.injEq] at c
 obtain⟨rfl,rfl,rfl⟩:=c
 exact Kd ((bH prog w).inj _ _ _ s i) (m.inj g)
def jF(prog:Ay)(w:Bq)(tl:List Int):HeapKind prog w bT where
 is:=tB prog w tl
 hash:=X3 prog w tl
 draws:=fun x=>(1 + ((x.2.length + 1) + tl.length)) + 1
 room:=fun A=>A.units + 1 < Es
 inj:=fun I J=>I.inj J
 keeps:=fun {h h' k a d o es ep} x R hd S=>by
  obtain⟨N,items,n,v,F,ts,g,l,f,p,B,t,C⟩:=x
  have M:a≠d:=by
   rintro rfl
   obtain rfl:N=o:=Cp (g.symm.trans R)
   rw[hd] at f;exact nomatch f
  exact⟨N,items,n,v,F,ts,(S.2 a M).trans g,l,f,p,B,t.keeps R hd S,C⟩
 pyHash:=fun {A E s k a Q} c hk h=>by
  obtain⟨o,items,n,v,F,ts,g,l,f,p,B,t,C⟩:=hk
  have z:A.in1.units < Es:=c
  refine X0 (Kx c) g l f (m:=1 + ((k.2.length + 1) + tl.length)) (is:=(bH prog w).hash k.1 :: tupleKeyHash (bH prog w) k.2 :: tl.map fun i=>(bH prog w).hash (Sum.inl i)) ?_ h
  rw[p]
  refine .cons (d:=1) (fun E D O _ q=>(bH prog w).pyHash B q) (.cons (d:=k.2.length + 1) (fun E D O es q=>?_) (HC C))
  exact wpAny_pyHash_tuple z (by rw[es];exact t) q
 eqBool:=fun {A E s x y a b Q} c I J h=>by
  have same:a=b->x=y:=fun e=>by subst e;exact I.inj J
  obtain⟨o,items,n,v,F,ts,g,l,f,p,B,t,C⟩:=I
  obtain⟨N,H,n',v',V,ts',W,U,f3,f4,Y,X,Z⟩:=J
  have z:A.in1.units < Es:=c
  have P:(decide (x.1=y.1) && (decide (x.2=y.2) && true))=decide (x=y):=by
   rw[Bool.and_true,Ef,Ce,decide_eq_true_eq,decide_eq_true_eq,decide_eq_true_eq,Prod.ext_iff]
  refine X1 (Kx c) g l f W U f3 (r:=decide (x.1=y.1) && (decide (x.2=y.2) && true)) ?_ (fun e=>by rw[P,same e];simp) (by rw[P];exact h)
  rw[p,f4]
  refine .cons (fun E D O _ q=>(bH prog w).eqBool B Y q) (.cons (fun E D O es q=>?_) (HD C Z))
  exact wpAny_eqBool_tuple z (by rw[es];exact t) (by rw[es];exact X) q
 quiet:=fun {A E s k a Q} hk h=>by
  obtain⟨o,items,n,v,F,ts,g,l,f,p,B,t,C⟩:=hk
  have T:s.TypeIs (.ref a) "tuple":=⟨o,g,l⟩
  unfold eqIsQuiet
  refine Aa (Gj T Jb.lookup ?_)
  try dsimp only
  refine Aa (Fl T Hm ?_)
  rw[if_neg (by decide)]
  try dsimp only
  refine Aa (Mv g f (Aa ?_))
  show Bf _ _ (forIn items _ _) _ _ _
  rw[<-Array.forIn_toList]
  refine Ic _ (fun rest q D=>q.1=none/\D=s/\∀ u∈rest,carriedByValue u=true\/u=.ref F) _ ?_ ?_ _ _ ⟨rfl,rfl,fun u c=>?_⟩
  ·rintro u rest q D ⟨K,rfl,j⟩
   have next:∀ G∈rest,carriedByValue G=true\/G=.ref F:=fun G L=>j G (An _ L)
   rcases j u Ba with hv | rfl
   ·rw[eqIsQuiet_byValue _ hv]
    refine Aa (Af ?_)
    rw[if_neg (by decide)]
    exact Af ⟨rfl,rfl,next⟩
   ·refine Aa (X2 t ?_)
    rw[if_neg (by decide)]
    exact Af ⟨rfl,rfl,next⟩
  ·rintro⟨q1,q2⟩ D ⟨K,rfl,_⟩
   simp only at K
   subst K
   exact Af h
  ·rw[p] at c
   rcases Be.mp c with rfl | c
   ·exact .inl ((bH prog w).byValue _ _ B)
   ·rcases Be.mp c with rfl | c
    ·exact .inr rfl
    ·exact .inl (C.byValue u c)
end
end L2
namespace L2
open PySem PySem.Spec PySem.W PyProof.Rows
section
variable {prog:Ay}{w:Bq}{A:Cr}{E:Ae->Ah->Prop}{s:Ah}
theorem HE{a d:Addr}{i ep:Nat}{es:Array Dw}{g:Obj}{Q:Option Ae->Ah->Prop}(hit:s.heap.IsKeyIter a d i es.size ep)(e:s.heap.get? d=some g)(c:g.data=.dict es ep)(hi:i < es.size)
  (h:∀ h',h'.IsKeyIter a d (i + 1) es.size ep->Eo a s.heap h'->Q (some es[i].key) {s with heap:=h'}):Bf (Bu prog w) A (Gp (.ref a)) Q E s:=by
 have b:=hit.typeIs
 obtain⟨o,f,hc,hd⟩:=id hit
 have own:Ey "dict_keyiterator" = false:=by decide
 have j:¬ ((Value.ref d == Value.none)=true):=Ap
 have up:(s.heap.update a (Mr (·.setIfInBounds 1 (Ii ((i:Int) + 1))))).IsKeyIter a d (i + 1) es.size ep:=
  ⟨_,Gy _ f (Obj.isFreed_of_fields (Kl hd _)),(Obj.cls_mapFields ..).trans hc,by rw[Kl hd];simp[Ii]⟩
 have k:=up.typeIs (s:={s with heap:=s.heap.update a (Mr (·.setIfInBounds 1 (Ii ((i:Int) + 1))))})
 unfold Gp
 refine Aa (Iv (Ew (name:=Bw "__next__") b En (Dc En b PySem.F.entry_dict_keyiterator_next ?_ (PySem.F.args_dict_keyiterator_next_1 _))))
 refine Aa (Af (Aa (Aa ?_)))
 first | refine Aa (Gw b (Af ?_)) | refine Aa (Iu b (Af ?_))
 refine Aa (Mw f hd ?_)
 rw[own,if_neg Ap]
 show Bf _ _ (if (Value.ref d == Value.none)=true then _ else _) _ _ _
 rw[if_neg j]
 refine Aa (Af (Aa (Fc e c ?_)))
 rw[if_neg (by simp)]
 refine Aa (Af (Aa (Iz e c ?_)))
 rw[if_neg (by simp)]
 refine Af ?_
 simp only[show ¬ ((i:Int) < 0) by omega,if_false,Du,Km hi]
 refine Aa ?_
 first | refine Aa (Gw b (Af ?_)) | refine Aa (Iu b (Af ?_))
 refine Aa (wpAny_isOneOf_keyiter b ?_)
 show Bf _ _ (setField (.ref a) 1 (Ii ((i:Int) + 1)) >>= _) _ _ _
 refine Aa (Mu f hd (by simp) (Aa (Cy (Aa (wpAny_isOneOf_keyiter k ?_)))))
 show Bf _ _ (pure es[i].key) _ _ _
 exact Af (Af ⟨_,rfl,Af (h _ up (Ed ..))⟩)
theorem HF{g d:Addr}{i ep:Nat}{es:Array Dw}{h:Obj}{Q:Option Ae->Ah->Prop}(hh:A.handled=none)(hit:s.heap.IsKeyIter g d i es.size ep)(f:s.heap.get? d=some h)(e:h.data=.dict es ep)(hi:es.size<=i)
  (k:∀ h',Mc g s.heap h'->Q none {s with heap:=h'}):Bf (Bu prog w) A (Gp (.ref g)) Q E s:=by
 have c:=hit.typeIs
 obtain⟨o,j,hc,hd⟩:=id hit
 have own:Ey "dict_keyiterator" = false:=by decide
 have l:¬ ((Value.ref d == Value.none)=true):=Ap
 unfold Gp
 refine Aa (Iv (Ew (name:=Bw "__next__") c En (Dc En c PySem.F.entry_dict_keyiterator_next ?_ (PySem.F.args_dict_keyiterator_next_1 _))))
 refine Aa (Af (Aa (Aa ?_)))
 first | refine Aa (Gw c (Af ?_)) | refine Aa (Iu c (Af ?_))
 refine Aa (Mw j hd ?_)
 rw[own,if_neg Ap]
 show Bf _ _ (if (Value.ref d == Value.none)=true then _ else _) _ _ _
 rw[if_neg l]
 refine Aa (Af (Aa (Fc f e ?_)))
 rw[if_neg (by simp)]
 refine Aa (Af (Aa (Iz f e ?_)))
 rw[if_neg (by simp)]
 refine Af ?_
 simp only[show ¬ ((i:Int) < 0) by omega,if_false,Du,Lk hi]
 refine Aa ?_
 first | refine Aa (Gw c (Af ?_)) | refine Aa (Iu c (Af ?_))
 show Bf _ _ (setField (.ref g) 0 .none >>= _) _ _ _
 refine Aa (Mu j hd (by simp) ?_)
 show Bf _ _ (newExc (.type "StopIteration") [] >>= _) _ _ _
 refine Aa ?_
 simp only[newExc,newTuple]
 refine Aa (Cm (Aa (m:=Jl _ _) (Hv (a:=Value.none) (by first | rfl | (simp only[Jl];rfl)) (Cm ?_ (by size_fits)))) (by size_fits))
 simp only[raiseNew]
 refine Aa (wpAny_handled ?_)
 rw[show A.in1.handled=none from hh]
 refine Aa (Af (wpAny_throw ?_))
 refine Aa (Fl (T:="StopIteration") (b:=true) ⟨_,Ar _ rfl,rfl⟩ isSubtype_stop ?_)
 exact Af (k _ (((Ed ..).extBut.push _).push _))
theorem X4(hh:A.handled=none)(I d:Addr)(m:d≠I)(es:Array Dw)(ep:Nat) :
  Walks prog w A I [I,d] [I] es.size (fun i v=>∃ e,es[i]? = some e/\v=e.key) (fun i h=>h.IsKeyIter I d i es.size ep/\∃ a,h.get? d=some a/\a.data=.dict es ep) where
 sub:=fun b g=>by simp at g;simp[g]
 frame:=fun _ _ _ st hk=>⟨st.1.at fun o e=>hk I (by simp) o e,let ⟨a,f,c⟩:=st.2;⟨a,hk d (by simp) a f,c⟩⟩
 item:=fun i s Q E hi st k=>by
  obtain⟨a,f,c⟩:=st.2
  refine HE st.1 f c hi fun h' l j=>?_
  exact k _ h' s.toks ⟨es[i],by simp[hi],rfl⟩ ⟨l,a,j.extBut d a m f,c⟩ fun b o g e=>j.extBut b o (fun h=>g (by simp[h])) e
 done:=fun s Q E st k=>by
  obtain⟨a,f,c⟩:=st.2
  exact HF hh st.1 f c (Aj _) fun h' n=>k h' s.toks fun b o g e=>n b o (fun h=>g (by simp[h])) e
 self:=fun _ _ _ _ st k=>wpAny_pyIter_keyiter st.1 k
theorem X5{a d:Addr}{i ep:Nat}{es:Array Dw}{g:Obj}{Q:Option Ae->Ah->Prop}(hit:s.heap.IsValIter a d i es.size ep)(e:s.heap.get? d=some g)(c:g.data=.dict es ep)(hi:i < es.size)
  (j:∀ h',h'.IsValIter a d (i + 1) es.size ep->Eo a s.heap h'->Q (some es[i].val) {s with heap:=h'}):Bf (Bu prog w) A (Gp (.ref a)) Q E s:=by
 have b:=hit.typeIs
 obtain⟨o,f,hc,hd⟩:=id hit
 have own:Ey "dict_valueiterator" = false:=by decide
 have k:¬ ((Value.ref d == Value.none)=true):=Ap
 have up:(s.heap.update a (Mr (·.setIfInBounds 1 (Ii ((i:Int) + 1))))).IsValIter a d (i + 1) es.size ep:=
  ⟨_,Gy _ f (Obj.isFreed_of_fields (Kl hd _)),(Obj.cls_mapFields ..).trans hc,by rw[Kl hd];simp[Ii]⟩
 have h:=up.typeIs (s:={s with heap:=s.heap.update a (Mr (·.setIfInBounds 1 (Ii ((i:Int) + 1))))})
 unfold Gp
 refine Aa (Iv (Ew (name:=Bw "__next__") b Eh (Dc Eh b PySem.F.entry_dict_valueiterator_next ?_ (PySem.F.args_dict_valueiterator_next_1 _))))
 refine Aa (Af (Aa (Aa ?_)))
 first | refine Aa (Gv b (Af ?_)) | refine Aa (Ir b (Af ?_))
 refine Aa (Mw f hd ?_)
 rw[own,if_neg Ap]
 show Bf _ _ (if (Value.ref d == Value.none)=true then _ else _) _ _ _
 rw[if_neg k]
 refine Aa (Af (Aa (Fc e c ?_)))
 rw[if_neg (by simp)]
 refine Aa (Af (Aa (Iz e c ?_)))
 rw[if_neg (by simp)]
 refine Af ?_
 simp only[show ¬ ((i:Int) < 0) by omega,if_false,Du,Km hi]
 refine Aa ?_
 first | refine Aa (Gv b (Af ?_)) | refine Aa (Ir b (Af ?_))
 refine Aa (Mo b ?_)
 show Bf _ _ (setField (.ref a) 1 (Ii ((i:Int) + 1)) >>= _) _ _ _
 refine Aa (Mu f hd (by simp) (Aa (Cy (Aa (Mo h (Aa (Mo h ?_)))))))
 show Bf _ _ (pure es[i].val) _ _ _
 exact Af (Af ⟨_,rfl,Af (j _ up (Ed ..))⟩)
theorem X6{g d:Addr}{i ep:Nat}{es:Array Dw}{h:Obj}{Q:Option Ae->Ah->Prop}(hh:A.handled=none)(hit:s.heap.IsValIter g d i es.size ep)(f:s.heap.get? d=some h)(e:h.data=.dict es ep)(hi:es.size<=i)
  (k:∀ h',Mc g s.heap h'->Q none {s with heap:=h'}):Bf (Bu prog w) A (Gp (.ref g)) Q E s:=by
 have c:=hit.typeIs
 obtain⟨o,j,hc,hd⟩:=id hit
 have own:Ey "dict_valueiterator" = false:=by decide
 have l:¬ ((Value.ref d == Value.none)=true):=Ap
 unfold Gp
 refine Aa (Iv (Ew (name:=Bw "__next__") c Eh (Dc Eh c PySem.F.entry_dict_valueiterator_next ?_ (PySem.F.args_dict_valueiterator_next_1 _))))
 refine Aa (Af (Aa (Aa ?_)))
 first | refine Aa (Gv c (Af ?_)) | refine Aa (Ir c (Af ?_))
 refine Aa (Mw j hd ?_)
 rw[own,if_neg Ap]
 show Bf _ _ (if (Value.ref d == Value.none)=true then _ else _) _ _ _
 rw[if_neg l]
 refine Aa (Af (Aa (Fc f e ?_)))
 rw[if_neg (by simp)]
 refine Aa (Af (Aa (Iz f e ?_)))
 rw[if_neg (by simp)]
 refine Af ?_
 simp only[show ¬ ((i:Int) < 0) by omega,if_false,Du,Lk hi]
 refine Aa ?_
 first | refine Aa (Gv c (Af ?_)) | refine Aa (Ir c (Af ?_))
 show Bf _ _ (setField (.ref g) 0 .none >>= _) _ _ _
 refine Aa (Mu j hd (by simp) ?_)
 show Bf _ _ (newExc (.type "StopIteration") [] >>= _) _ _ _
 refine Aa ?_
 simp only[newExc,newTuple]
 refine Aa (Cm (Aa (m:=Jl _ _) (Hv (a:=Value.none) (by first | rfl | (simp only[Jl];rfl)) (Cm ?_ (by size_fits)))) (by size_fits))
 simp only[raiseNew]
 refine Aa (wpAny_handled ?_)
 rw[show A.in1.handled=none from hh]
 refine Aa (Af (wpAny_throw ?_))
 refine Aa (Fl (T:="StopIteration") (b:=true) ⟨_,Ar _ rfl,rfl⟩ isSubtype_stop ?_)
 exact Af (k _ (((Ed ..).extBut.push _).push _))
theorem X7(hh:A.handled=none)(I d:Addr)(m:d≠I)(es:Array Dw)(ep:Nat) :
  Walks prog w A I [I,d] [I] es.size (fun i v=>∃ e,es[i]? = some e/\v=e.val) (fun i h=>h.IsValIter I d i es.size ep/\∃ a,h.get? d=some a/\a.data=.dict es ep) where
 sub:=fun b g=>by simp at g;simp[g]
 frame:=fun _ _ _ st hk=>⟨st.1.at fun o e=>hk I (by simp) o e,let ⟨a,f,c⟩:=st.2;⟨a,hk d (by simp) a f,c⟩⟩
 item:=fun i s Q E hi st k=>by
  obtain⟨a,f,c⟩:=st.2
  refine X5 st.1 f c hi fun h' l j=>?_
  exact k _ h' s.toks ⟨es[i],by simp[hi],rfl⟩ ⟨l,a,j.extBut d a m f,c⟩ fun b o g e=>j.extBut b o (fun h=>g (by simp[h])) e
 done:=fun s Q E st k=>by
  obtain⟨a,f,c⟩:=st.2
  exact X6 hh st.1 f c (Aj _) fun h' n=>k h' s.toks fun b o g e=>n b o (fun h=>g (by simp[h])) e
 self:=fun _ _ _ _ st k=>wpAny_pyIter_valiter st.1 k
def gR(h:Heap)(a:Addr)(es:Array Dw)(ep:Nat):Prop:=∃ o,h.get? a=some o/\o.ExactDict/\o.data=.dict es ep
theorem gR.typeIs{d:Addr}{es:Array Dw}{ep:Nat}(h:gR s.heap d es ep):s.TypeIs (.ref d) "dict":=let ⟨o,ho,hc,_⟩:=h;⟨o,ho,hc.1⟩
theorem gR.at{h h':Heap}{d:Addr}{es:Array Dw}{ep:Nat}(x:gR h d es ep)(e:∀ o,h.get? d=some o->h'.get? d=some o):gR h' d es ep:=let ⟨o,ho,r⟩:=x;⟨o,e o ho,r⟩
theorem gR.lt{h:Heap}{d:Addr}{es:Array Dw}{ep:Nat}(x:gR h d es ep):d < h.objs.size:=let ⟨_,ho,_⟩:=x;Bc ho
theorem xH{d:Addr}{es:Array Dw}{ep:Nat}{Q:Ae->Ah->Prop}(hd:(d == Eg)=false)(e:gR s.heap d es ep)
  (f:Q (.ref s.heap.objs.size) {s with heap:=s.heap.push {cls:=.type "dict_keyiterator",data:=.fields #[.ref d,.int 0 0,.int es.size 0,.int ep 0]}}):Bf (Bu prog w) A (pyIter (.ref d)) Q E s:=by
 have b:=e.typeIs
 obtain⟨o,c,hc,a⟩:=e
 refine wpAny_pyIter_slot b PySem.F.slot_dict_iter (Dc PySem.F.slot_dict_iter b PySem.F.entry_dict_iter ?_ (PySem.F.args_dict_iter_1 _))
 unfold Ih.«dict.__iter__»
 refine Aa ?_
 unfold Builtin.Dict.dictSlotNone
 refine Aa (Fi b (Af ?_))
 show Bf _ _ (Ig d >>= _) _ _ _
 unfold Ig
 rw[if_neg (by rw[hd];exact Ap)]
 refine Aa (Af (Aa (Fc c a (Aa (Iz c a ?_)))))
 refine Aa (Cm (Af ⟨_,rfl,"dict_keyiterator",_,⟨_,Ar _ rfl,rfl⟩,En.lookup,?_⟩))
 simpa [Ii] using f
theorem X8{v d:Addr}{es:Array Dw}{ep:Nat}{Q:Ae->Ah->Prop}(e:s.heap.IsValuesView v d)(j:gR s.heap d es ep)
  (h:Q (.ref s.heap.objs.size) {s with heap:=s.heap.push {cls:=.type "dict_valueiterator",data:=.fields #[.ref d,.int 0 0,.int es.size 0,.int ep 0]}}):Bf (Bu prog w) A (pyIter (.ref v)) Q E s:=by
 have f:=e.typeIs
 obtain⟨k,b,i,c⟩:=id e
 obtain⟨o,g,hc,a⟩:=j
 refine wpAny_pyIter_slot f PySem.F.slot_dict_values_iter (Dc PySem.F.slot_dict_values_iter f PySem.F.entry_dict_values_iter ?_ (PySem.F.args_dict_values_iter_1 _))
 unfold Ih.«dict_values.__iter__»
 refine Aa (Af (Aa ?_))
 unfold Builtin.Dict_items.dictOf
 refine Aa (Hw b c (x:=.ref d) rfl (Af (Aa ?_)))
 unfold Builtin.Dict_items.newIterator
 refine Aa (Fc g a (Aa (Iz g a ?_)))
 simp only[show Ey "dict_valueiterator" = false by decide,Cz,if_false]
 refine Cm (Af ⟨_,rfl,"dict_valueiterator",_,⟨_,Ar _ rfl,rfl⟩,Eh.lookup,?_⟩)
 simpa [Ii] using h
theorem X9{d:Addr}{es:Array Dw}{ep:Nat}(lo:(d == Eg)=false):KdlSrc prog w "dict" d d es.size (fun i v=>∃ e,es[i]? = some e/\v=e.key) (fun h=>gR h d es ep) where
 type:=fun _ a=>a.typeIs
 there:=fun _ a=>⟨a.lt,a.lt⟩
 keep:=fun _ _ a hk=>a.at fun o e=>hk d (.inl rfl) o e
 notList:=by decide
 notTuple:=by decide
 hint:=fun _ _ _ _ a b=>kdl_hint_dict a.typeIs b
 iter:=fun _ _ hh a=>⟨_,_,(fun _ _ b=>xH lo a b),X4 hh _ d (Bj a.lt) es ep,⟨⟨_,Ar _ rfl,rfl,rfl⟩,let ⟨o,ho,_,hd⟩:=a;⟨o,Ag _ ho,hd⟩⟩⟩
theorem YA{d r:Addr}{es:Array Dw}{ep:Nat}:KdlSrc prog w "dict_values" r d es.size (fun i v=>∃ e,es[i]? = some e/\v=e.val) (fun h=>h.IsValuesView r d/\gR h d es ep) where
 type:=fun _ a=>a.1.typeIs
 there:=fun _ a=>⟨let ⟨_,ho,_⟩:=a.1;Bc ho,a.2.lt⟩
 keep:=fun _ _ a hk=>⟨let ⟨o,ho,x⟩:=a.1;⟨o,hk r (.inl rfl) o ho,x⟩,a.2.at fun o e=>hk d (.inr rfl) o e⟩
 notList:=by decide
 notTuple:=by decide
 hint:=fun _ _ _ _ a b=>kdl_hint_values a.1.typeIs b
 iter:=fun _ _ hh a=>⟨_,_,(fun _ _ b=>X8 a.1 a.2 b),X7 hh _ d (Bj a.2.lt) es ep,⟨⟨_,Ar _ rfl,rfl,rfl⟩,let ⟨o,ho,_,hd⟩:=a.2;⟨o,Ag _ ho,hd⟩⟩⟩
end
end L2
namespace PySem
namespace Rv
open PyProof.Rows L2 PySem.Spec
theorem YB:TypeCalled "reversed" "reversed.__new__" "object.__init__":=
 ⟨by decide +kernel,by decide +kernel,⟨_,_,F.mro_reversed⟩,madeBy_type F.mro_reversed F.lookup_reversed_new (by decide +kernel),by decide +kernel,F.sub_reversed_self,
  .of (owner:="object") (n:="__init__") (by rw[Kh,Hn];kernel_rfl) (by decide +kernel) (by decide +kernel) (by decide +kernel) (by first | exact .inl (by decide +kernel) | exact .inr (by decide +kernel)) (by rw[Mx];kernel_rfl)⟩
theorem YC:typeLookup (.type "tuple") "__reversed__" = pure none:=by rw[Kh,Hn];kernel_rfl
def rvObj(t:Addr)(i:Int):Obj:={cls:=.type "reversed",data:=.fields #[.ref t,Ii i]}
theorem YD(t:Addr)(items:Array Ae) :
  Meets (Ih.«reversed.__new__» ⟨[.type "reversed",.ref t],[]⟩) (fun _ R s=>s.heap.IsTuple t items/\items.size<=Ai/\
   ∀ f,R (.ok (.ret (.ref s.heap.objs.size))) {s with toks:=f,heap:=s.heap.push (rvObj t ((items.size:Int) - 1))}):=
 .of_wp fun prog w A R s h=>by
  obtain⟨i,g,d,tk,os⟩:=s
  obtain⟨ht,hz,h⟩:=h
  have c:=Heap.IsTuple.typeIs (s:=⟨i,g,d,tk,os⟩) ht
  unfold Ih.«reversed.__new__»
  refine Aa (Hv (newClass_reversed _) (by
   dsimp only
   refine Aa (Hv (a:=()) rfl (Aa (Hv (a:=()) (by first | rfl | kernel_rfl) ?_)))
   try dsimp only
   refine Aa (Gj c YC (Aa ?_))
   wp_delta
   refine Aa (Fl (T:="tuple") (b:=false) c (by rw[Mx];kernel_rfl) ?_)
   try dsimp only
   rw[if_neg (by decide)]
   refine Aa (Gj c F.slot_tuple_getitem.lookup ?_)
   generalize e:("tuple.__getitem__" : String)=id0
   dsimp only
   rw[if_pos (by subst e;decide +kernel)]
   refine Af ?_
   rw[if_neg (by decide)]
   refine Aa (len_tuple (s:=⟨i,g,d,tk,os⟩) (t:=t) (items:=items) ht (by have:=lG;omega) (Aa (Hv (a:=some (items.size:Int)) rfl (Aa (m:=Builtin.SmallTypes.newRecord _ _) ?_))))
   unfold Builtin.SmallTypes.newRecord
   dsimp only
   exact Cm (Af ⟨_,rfl,h _⟩) (by first | size_fits | decide)))
section
variable {prog:Ay}{w:Bq}{A:Cr}{E:Ae->Ah->Prop}{s:Ah}
theorem call_rev{t:Addr}{items:Array Ae}{Q:Ae->Ah->Prop}(ht:s.heap.IsTuple t items)(hz:items.size<=Ai)
  (h:∀ a,Q (.ref s.heap.objs.size) {s with toks:=a,heap:=s.heap.push (rvObj t ((items.size:Int) - 1))}):Bf (Bu prog w) A (call (.type "reversed") [.ref t]) Q E s:=
 callType_new YB (by decide) (F.typeCall_reversed_1 _) (F.newCall_reversed_1 _) (fun obj=>F.args_object_init_2 obj _) F.entry_reversed_new (YD t items) ⟨ht,hz,fun a=>⟨⟨_,Ar _ rfl,rfl⟩,h a⟩⟩
theorem qG:Slot "reversed" "__next__" "reversed.__next__":=
 .of (owner:="reversed") (n:="__next__") (by rw[Kh,Hn];kernel_rfl) (by decide +kernel) (by decide +kernel) (by decide +kernel) (by first | exact .inl (by decide +kernel) | exact .inr (by decide +kernel)) (by rw[Mx];kernel_rfl)
theorem HG:Slot "reversed" "__iter__" "reversed.__iter__":=
 .of (owner:="reversed") (n:="__iter__") (by rw[Kh,Hn];kernel_rfl) (by decide +kernel) (by decide +kernel) (by decide +kernel) (by first | exact .inl (by decide +kernel) | exact .inr (by decide +kernel)) (by rw[Mx];kernel_rfl)
theorem HH:entryFor table "reversed.__next__" = some Ih.«reversed.__next__»:=entryFor_of_tree (by kernel_rfl)
theorem YE:entryFor table "reversed.__iter__" = some Ih.«dict_keyiterator.__iter__»:=
 entryFor_alias (id':="dict_keyiterator.__iter__") (by kernel_rfl) (by first | rfl | decide +kernel) (by decide +kernel) (by kernel_rfl)
theorem HI:Manifest.owners.lookup (String.ofList ['d','e','s','r','e','v','e','r'].reverse)=some Manifest.sig_reversed:=by kernel_rfl
theorem HJ(a:Ae):argsOk "reversed.__next__" ⟨[a],[]⟩:=by
 unfold argsOk
 rw[signature?_of (id:="reversed.__next__") (n:=['_','_','t','x','e','n','_','_']) (o:=['d','e','s','r','e','v','e','r']) (by kernel_rfl) HI]
 kernel_rfl
theorem YF(a:Ae):argsOk "reversed.__iter__" ⟨[a],[]⟩:=by
 unfold argsOk
 rw[signature?_of (id:="reversed.__iter__") (n:=['_','_','r','e','t','i','_','_']) (o:=['d','e','s','r','e','v','e','r']) (by kernel_rfl) HI]
 kernel_rfl
abbrev IsRv(h:Heap)(a t:Addr)(i:Int):Prop:=h.get? a=some {cls:=.type "reversed",dict:=none,data:=.fields #[.ref t,Ii i],slots:=#[]}
theorem nI{a t:Addr}{i:Int}(x:IsRv s.heap a t i):s.TypeIs (.ref a) "reversed":=⟨_,x,rfl⟩
theorem next_item{a t:Addr}{i:Nat}{items:Array Ae}{x:Ae}{Q:Option Ae->Ah->Prop}(hr:IsRv s.heap a t i)(ht:s.heap.IsTuple t items)(c:items[i]? = some x)(hi:(i:Int) < 2 ^ 63)
  (g:∀ h' tk,IsRv h' a t ((i:Int) - 1)->Eo a s.heap h'->Q (some x) {s with heap:=h',toks:=tk}):Bf (Bu prog w) A (Gp (.ref a)) Q E s:=by
 unfold Gp
 refine Aa (Iv (Ew (name:=Bw "__next__") (nI hr) qG (Dc qG (nI hr) HH ?_ (HJ _))))
 unfold Ih.«reversed.__next__»
 refine Aa (Hv (a:=(Value.ref a,[])) rfl ?_)
 dsimp only
 refine Aa (Hw hr rfl (x:=.ref t) rfl (Aa (Hw hr rfl (x:=Ii (i:Int)) rfl ?_)))
 show Bf _ _ (if (i:Int) < 0 then _ else _) _ _ _
 rw[if_neg (by omega)]
 refine Aa (Gj ht.typeIs F.slot_tuple_getitem.lookup ?_)
 rw[if_neg (by decide)]
 have f:i < items.size:=(Kb.mp c).1
 have b:fY items.size (i:Int)=some i:=by unfold fY;rw[if_pos (by omega),if_pos (by omega),Du]
 refine Aa (wpAny_mkInt (Aa (Iv (getItem_tuple (j:=i) (x:=x) ht (by omega) hi (wQ b).1 c ?_))))
 dsimp only
 refine Aa (Hw (s:={s with toks:=s.toks + 1}) hr rfl (x:=Ii (i:Int)) rfl ?_)
 exact Aa (wpAny_setField_rec (s:={s with toks:=s.toks + 1}) hr (by simp) fun e d sb=>Af ⟨x,rfl,Af (g e _ d sb)⟩)
theorem next_end{a t:Addr}{Q:Option Ae->Ah->Prop}(hh:A.handled=none)(hr:IsRv s.heap a t (-1))(h:∀ h',Mc a s.heap h'->Q none {s with heap:=h'}):Bf (Bu prog w) A (Gp (.ref a)) Q E s:=by
 unfold Gp
 refine Aa (Iv (Ew (name:=Bw "__next__") (nI hr) qG (Dc qG (nI hr) HH ?_ (HJ _))))
 unfold Ih.«reversed.__next__»
 refine Aa (Hv (a:=(Value.ref a,[])) rfl ?_)
 dsimp only
 refine Aa (Hw hr rfl (x:=.ref t) rfl (Aa (Hw hr rfl (x:=Ii (-1)) rfl ?_)))
 show Bf _ _ (if (-1:Int) < 0 then _ else _) _ _ _
 rw[if_pos (by decide)]
 refine Aa (Gz (Aa ?_))
 wp_delta
 refine Aa (wpAny_setField_rec hr (by simp) fun k g d=>wpAny_setField_rec g (by simp) fun j i f=>Aa ?_)
 unfold Builtin.SmallTypes.stopIteration
 refine Aa (m:=newExc (.type "StopIteration") []) ?_
 simp only[newExc,newTuple]
 refine Aa (Cm (Aa (m:=Jl _ _) (Hv (a:=Value.none) (by first | rfl | (simp only[Jl];rfl)) (Cm ?_ (by size_fits)))) (by size_fits))
 simp only[raiseNew]
 refine Aa (wpAny_handled ?_)
 rw[show A.in1.handled=none from hh]
 refine Aa (Af (wpAny_throw (Aa ?_)))
 refine Fl (T:="StopIteration") (b:=true) ⟨_,Ar _ rfl,rfl⟩ isSubtype_stop (Af (h _ fun c o hc e=>?_))
 exact Ag _ (Ag _ (f.extBut _ _ hc (d.extBut _ _ hc e)))
theorem iter_self{a t:Addr}{i:Int}{Q:Ae->Ah->Prop}(hr:IsRv s.heap a t i)(h:Q (.ref a) s):Bf (Bu prog w) A (pyIter (.ref a)) Q E s:=by
 refine wpAny_pyIter_slot (nI hr) HG (Dc HG (nI hr) YE ?_ (YF _))
 show Bf _ _ (ret (.ref a)) _ _ s
 exact Af ⟨_,rfl,"reversed",_,nI hr,qG.lookup,h⟩
end
end Rv
end PySem
namespace L2
open PySem PySem.Spec PyProof.Rows
section
variable {X:Cx}{a:Expr}{ta:TA}{p p2 pos pos2:Pos}
theorem YG:Ct "reversed" = some (.type "reversed"):=by decide +kernel
end
section
variable {X:Cx}
theorem HK:∀ {vs:List Ae} {ks:List Str},vs.length=ks.length->(∀ (j:Nat) v,vs[j]? = some v->∃ x t,ks[j]? = some x/\v=.str x t)->StrsAre vs ks
 | [],[],_,_=>.nil
 | [],_ :: _,e,_=>by simp at e
 | _ :: _,[],e,_=>by simp at e
 | v :: vs,k :: ks,e,h=>by
  obtain⟨x,t,b,rfl⟩:=h 0 v rfl
  cases (show k=x by simpa using b)
  exact .cons k t (HK (by simpa using e) fun j v a=>by simpa using h (j + 1) v (by simpa using a))
theorem HL:∀ {vs:List Ae} {a:List Str},StrsAre vs a->aZ (a.map V.str) vs
 | _,_,.nil=>.nil
 | _,_,.cons y t r=>.cons ⟨t,rfl⟩ (HL r)
theorem YH(hc:X.calm=true):cN X (.builtin "sorted") (fun xs H Q=>∃ (d:Addr) (kvs:List (aD×V)) (ks:List Str),xs=[.ref d]/\H d=some (.dK kvs)/\kvs.map Ci=ks.map Sum.inr/\ks.length < 64/\
  ∀ c:List Str,c.Perm ks->∀ p,H p=none->Q (.ref p) (aR H p (.lst (c.map V.str)))):=by
 intro g s σ H xs us Q I r h
 obtain⟨d,kvs,ks,rfl,hd,l,G,q⟩:=h
 obtain⟨u,rfl,T⟩:=vals1 r
 cases T
 obtain⟨hz,C,vs,f,hD⟩:=(show cA X.prog X.w H s.heap d (.dK kvs) from I.hok d _ hd)
 obtain⟨ep,B⟩:=hD.dictAt
 have hl:=f.length
 have U:kvs.length=ks.length:=by have:=congrArg Bg l;simpa using this
 refine Calls.call_function_entry kind_sorted plain_sorted entry_sorted (args_sorted1 _) ?_
 unfold Ih.«sorted»
 refine Aa (m:=checkCount "sorted" 1 1 _) (Af (Aa (PySem.W.kdu_collect (A:=X.A.in1) (PySem.W.kdl_dict (knd:=bH X.prog X.w) (kvs:=vs) (ep:=ep) C) (I.ok.hd hc) B (by rw[<-hl];exact hz) fun h' tk acc hk a=>?_)))
 have hsz:acc.toList.length=ks.length:=by have M:=a.1;have F:acc.toList.length=acc.size:=Fn;omega
 have n:StrsAre acc.toList ks:=HK hsz fun j v Y=>by
  obtain⟨k,x,hx,D⟩:=a.2 j v (by rw[<-Fx];exact Y)
  obtain⟨y,hy⟩:=xF f hx
  have P:(kvs.map Ci)[j]? = some k:=by rw[Aw,hy];rfl
  rw[l,Aw] at P
  obtain⟨z,J,rfl⟩:=Bb.mp P
  obtain⟨t,e⟩:=(show RelV (kV (Sum.inr z)) v from sZ D)
  exact⟨z,t,J,e⟩
 have K:Inv X g σ H {s with heap:=h',toks:=tk}:=I.kept (t':=tk) hk
 refine Aa (wpAny_newList ?_ (by rw[hsz];omega))
 have E:(h'.push (seqObj "list" acc.toList.toArray 0)).get? h'.objs.size=some (seqObj "list" acc.toList.toArray 0):=Ar _ rfl
 refine Aa (Cy (Dc slot_list_sort ⟨_,E,rfl⟩ entry_list_sort (list_sort_treeK strKind_oneLt E n.keysOf (fun L O rest e=>keyKind_strs (by rw[<-e];exact n)) (by rw[hsz];exact G) fun st' S Z=>⟨_,rfl,?_⟩) (args_list_sort _)))
 obtain⟨c,M,F,h3⟩:=sorted_out_str n S Z
 obtain⟨e,he⟩:=sortedHeap_at (out:=(arrOf st').map (·.2)) E
 have R:c.length=ks.length:=F.length_eq
 refine Af ⟨_,rfl,.ref h'.objs.size,_,K.laid (o:=.lst (c.map V.str)) (t':=tk) (fun b o N=>?_) (Aj _) ⟨by rw[Ab];exact Bs (Jz (by omega:c.length < 64)) (by decide),((arrOf st').map (·.2)).toList,e,HL M,by rw[Hf];exact he⟩,rfl,q c F _ K.fresh⟩
 have i:b < h'.objs.size:=Bc N
 exact(sortedHeap_old (Bj i) (by rw[Mb];exact Nat.lt_succ_of_lt i)).trans (Ag _ N)
end
abbrev NX(es:List (bT×Addr×V))(xs:List (bT×Addr×Ae)):Prop:=Fm (fun p q=>p.1=q.1/\p.2.1=q.2.1/\RelV p.2.2 q.2.2) es xs
def d9(P:Ay)(w:Bq)(tl:List Int)(a:Addr)(es:List (bT×Addr×V))(h:Heap):Prop:=
 ∃ o b ep xs,h.get? a=some o/\o.ExactDict/\o.data=.dict b ep/\b.toList=xs.map (entryOfKey (jF P w tl))/\NX es xs/\(xs.map (·.1)).Nodup/\xs.length<=Ai/\(a == Eg)=false
theorem d9.stay{P:Ay}{w:Bq}{tl:List Int}{a:Addr}{es:List (bT×Addr×V)}{d c:Heap}(x:d9 P w tl a es d)(k:∀ o,d.get? a=some o->c.get? a=some o):d9 P w tl a es c:=by
 obtain⟨o,b,ep,xs,e,r⟩:=x
 exact⟨o,b,ep,xs,k o e,r⟩
theorem d9.ok{P:Ay}{w:Bq}{H:Hp}{tl:List Int}{a:Addr}{es:List (bT×Addr×V)}{h:Heap}(x:d9 P w tl a es h):cA P w H h a (.ext (d9 P w tl a es)):=
 ⟨x,let ⟨o,_,_,_,e,_⟩:=x;⟨o,e⟩,fun c b y k=>y.stay k⟩
def jG(H:Hp)(tl:List Int)(x:bT)(b:Addr):Prop:=∃ a,H b=some (.tup (kV x.1 :: .ref a :: tl.map V.int))/\H a=some (.tup (x.2.map kV))
theorem HM{P:Ay}{w:Bq}:∀ {tl:List Int} {us:List Ae},aZ (tl.map V.int) us->ItemsAre (bH P w) (tl.map Sum.inl) us
 | [],_,h=>by cases h;exact .nil
 | i :: tl,_,h=>by
  cases h with
  | cons r t=>
   obtain⟨tk,rfl⟩:=r
   exact .cons (jY (k:=Sum.inl i) ⟨tk,rfl⟩) (HM t)
theorem jG.is{P:Ay}{w:Bq}{H:Hp}{h:Heap}{tl:List Int}{x:bT}{b:Addr}(hok:cR P w H h)(n:jG H tl x b):(jF P w tl).is h x b:=by
 obtain⟨c,k,i⟩:=n
 obtain⟨_,its,r,o,p,l,m,d⟩:=(show cA P w H h b (.tup (kV x.1 :: .ref c :: tl.map V.int)) from hok b _ k)
 cases r with
 | @cons _ v _ vs j g=>
  cases g with
  | @cons _ f _ a e q=>
   cases (show f=Value.ref c from e)
   exact⟨o,_,m,v,c,a,p,l,d,by simp,jY j,jZ hok i,HM q⟩
end L2
namespace L3
open PySem PySem.Spec PyProof.Rows L2
abbrev SV:=L2.St
inductive W where
 | non | bl (b:Bool) | int (i:Int) | str (x:Str) | ty (n:String) | tup (ws:List W) | rl (ws:List W) | sc (ws:List W) | ref (a:Addr)
 | dk (kvs:List (aD×W)) | dt (kvs:List (List aD×W)) | fk (kvs:List (aD×W)) | ft (kvs:List (List aD×W))
inductive MO where
 | lst (ws:List W) | dK (kvs:List (aD×W)) | dT (kvs:List (List aD×W)) | fix (vs:List V) | ins (C dx:Addr) (fs:List (Str×W)) | dn (P:Ay) (w:Bq) (tl:List Int) (kvs:List (bT×W)) | vw (d:Addr)
abbrev Mm:=Addr->Option MO
def put(M:Mm)(a:Addr)(o:MO):Mm:=fun b=>if b=a then some o else M b
def del(M:Mm)(a:Addr):Mm:=fun b=>if b=a then none else M b
theorem a5{M:Mm}{a:Addr}{o:MO}:put M a o a=some o:=by unfold put;rw[if_pos rfl]
theorem aQ{M:Mm}{a b:Addr}{o:MO}(h:b≠a):put M a o b=M b:=by unfold put;rw[if_neg h]
theorem f9{M:Mm}{a:Addr}{o u:MO}:put (put M a o) a u=put M a u:=by
 funext b;unfold put;split <;> rfl
theorem nJ{M:Mm}{a:Addr}{o:MO}(h:M a=none):del (put M a o) a=M:=by
 funext b;unfold del put;split
 ·rename_i e;rw[e,h]
 ·rfl
theorem oS{M:Mm}{a:Addr}:del M a a=none:=by unfold del;rw[if_pos rfl]
theorem xI{M:Mm}{a b:Addr}(h:b≠a):del M a b=M b:=by unfold del;rw[if_neg h]
theorem xJ{M:Mm}{a b:Addr}{o u:MO}(h:a≠b):put (put M a o) b u=put (put M b u) a o:=by
 funext c
 unfold put
 by_cases e:c=b
 ·by_cases d:c=a
  ·exact absurd (d.symm.trans e) h
  ·rw[if_pos e,if_neg d,if_pos e]
 ·by_cases d:c=a
  ·rw[if_neg e,if_pos d,if_pos d]
  ·rw[if_neg e,if_neg d,if_neg d,if_neg e]
theorem HN{M:Mm}{a:Addr}{o:MO}(h:M a=some o):put M a o=M:=by
 funext b;unfold put;split
 ·rename_i e;rw[e,h]
 ·rfl
def Sub(M M':Mm):Prop:=∀ a o,M a=some o->M' a=some o
theorem Sub.refl(M:Mm):Sub M M:=fun _ _ h=>h
theorem Sub.trans{M M1 M2:Mm}(a:Sub M M1)(b:Sub M1 M2):Sub M M2:=fun c o h=>b c o (a c o h)
theorem Sub.new{M:Mm}{a:Addr}{o:MO}(h:M a=none):Sub M (put M a o):=fun b u e=>by
 rw[aQ (fun z=>by rw[z,h] at e;cases e)];exact e
theorem Sub.put{M M':Mm}{a:Addr}{o:MO}(h:Sub M M'):Sub (put M a o) (put M' a o):=fun b u e=>by
 unfold L3.put at e ⊢
 split at e
 ·rename_i z;rw[if_pos z];exact e
 ·rename_i z;rw[if_neg z];exact h b u e
theorem Sub.del{M:Mm}{a:Addr}:Sub (del M a) M:=fun b u e=>by
 unfold L3.del at e
 split at e
 ·cases e
 ·exact e
theorem Sub.non{M M':Mm}(h:Sub M M'){a:Addr}(e:M' a=none):M a=none:=by
 cases q:M a with
 | none=>rfl
 | some o=>rw[h a o q] at e;cases e
def lK(K:Ac)(H:Hp)(a:Addr)(xs:List V):Prop:=
 (∃ o,H a=some (.frz o (.lst xs)))\/
  ∃ (o:Obj) (its:Array Ae) (n:Nat),K.lookup a=some o/\o.cls=.type "list"/\o.dict=none/\o.data=.seq its n/\its.size<=Ai/\aZ xs its.toList
theorem lK.sq{K:Ac}{H:Hp}{a:Addr}{xs:List V}(h:lK K H a xs):bF K H a xs:=by
 rcases h with⟨o,h⟩ | h
 ·exact .inl (.inr ⟨o,h⟩)
 ·exact .inr h
mutual
inductive AV(K:Ac)(H:Hp)(M:Mm):V->W->Prop
 | non:AV K H M .non .non
 | bl (b:Bool):AV K H M (.bl b) (.bl b)
 | int (i:Int):AV K H M (.int i) (.int i)
 | str (x:Str):AV K H M (.str x) (.str x)
 | ty (n:String):AV K H M (.ty n) (.ty n)
 | tup {a:Addr} {xs:List V} {ws:List W}:H a=some (.tup xs)->aM K H M xs ws->AV K H M (.ref a) (.tup ws)
 | sc {a:Addr} {xs:List V} {ws:List W}:lK K H a xs->aM K H M xs ws->AV K H M (.ref a) (.sc ws)
 | rl {a:Addr} {xs:List V} {ws:List W}:H a=some (.lst xs)->M a=none->aM K H M xs ws->AV K H M (.ref a) (.rl ws)
 | ref (a:Addr):AV K H M (.ref a) (.ref a)
 | dk {a:Addr} {ks:List (aD×V)} {kvs:List (aD×W)}:H a=some (.dK ks)->M a=none->ks.map Ci=kvs.map Ci->aM K H M (ks.map Ia) (kvs.map Ia)->AV K H M (.ref a) (.dk kvs)
 | dt {a:Addr} {ks:List (List aD×V)} {kvs:List (List aD×W)}:H a=some (.dT ks)->M a=none->ks.map Ci=kvs.map Ci->aM K H M (ks.map Ia) (kvs.map Ia)->AV K H M (.ref a) (.dt kvs)
 | fk {a:Addr} {o:Obj} {ks:List (aD×V)} {kvs:List (aD×W)}:H a=some (.frz o (.dK ks))->ks.map Ci=kvs.map Ci->aM K H M (ks.map Ia) (kvs.map Ia)->AV K H M (.ref a) (.fk kvs)
 | ft {a:Addr} {o:Obj} {ks:List (List aD×V)} {kvs:List (List aD×W)}:H a=some (.frz o (.dT ks))->ks.map Ci=kvs.map Ci->aM K H M (ks.map Ia) (kvs.map Ia)->AV K H M (.ref a) (.ft kvs)
inductive aM(K:Ac)(H:Hp)(M:Mm):List V->List W->Prop
 | nil:aM K H M [] []
 | cons {v:V} {vs:List V} {w:W} {ws:List W}:AV K H M v w->aM K H M vs ws->aM K H M (v :: vs) (w :: ws)
end
abbrev bK(K:Ac)(H:Hp)(M:Mm)(κ:Type):List (κ×V)->List (κ×W)->Prop:=Fm fun p q=>p.1=q.1/\AV K H M p.2 q.2
theorem nK{K:Ac}{H:Hp}{M:Mm}{κ:Type}:∀ {ks:List (κ×V)} {kvs:List (κ×W)},ks.map Ci=kvs.map Ci->aM K H M (ks.map Ia) (kvs.map Ia)->bK K H M κ ks kvs
 | [],[],_,_=>.nil
 | [],_ :: _,e,_=>by simp at e
 | _ :: _,[],e,_=>by simp at e
 | p :: ps,q :: qs,e,h=>by
  rw[Au,Au] at e h
  rw[Dv] at e
  cases h with
  | cons x r=>exact .cons ⟨e.1,x⟩ (nK e.2 r)
theorem bK.keys{K:Ac}{H:Hp}{M:Mm}{κ:Type}{ks:List (κ×V)}{kvs:List (κ×W)}(h:bK K H M κ ks kvs):ks.map Ci=kvs.map Ci:=by
 induction h with
 | nil=>rfl
 | cons r _ a=>rw[Au,Au,a,r.1]
theorem bK.vals{K:Ac}{H:Hp}{M:Mm}{κ:Type}{ks:List (κ×V)}{kvs:List (κ×W)}(h:bK K H M κ ks kvs):aM K H M (ks.map Ia) (kvs.map Ia):=by
 induction h with
 | nil=>exact .nil
 | cons r _ a=>exact .cons r.2 a
def AO(K:Ac)(H:Hp)(M:Mm)(a:Addr):MO->Prop
 | .lst ws=>∃ vs,H a=some (.lst vs)/\aM K H M vs ws
 | .dK kvs=>∃ ks,H a=some (.dK ks)/\bK K H M aD ks kvs
 | .dT kvs=>∃ ks,H a=some (.dT ks)/\bK K H M (List aD) ks kvs
 | .fix vs=>H a=some (.lst vs)
 | .ins C dx fs=>∃ b,H a=some (.ins C dx b)/\bK K H M Str b fs
 | .dn P w tl kvs=>∃ es,H a=some (.ext (d9 P w tl a es))/\Fm (fun(e:bT×Addr×V) (p:bT×W)=>e.1=p.1/\jG H tl e.1 e.2.1/\AV K H M e.2.2 p.2) es kvs
 | .vw d=>H a=some (.ext fun h=>h.IsValuesView a d)
def AM(K:Ac)(H:Hp)(M:Mm):Prop:=∀ a o,M a=some o->AO K H M a o
structure Kp(H:Hp)(M:Mm)(H':Hp)(M':Mm):Prop where
 fr:∀ a o,M a=none->H a=some o->H' a=some o/\M' a=none
 dom:∀ a o,M a=some o->∃ u,H' a=some u
structure Go(H:Hp)(M:Mm)(H':Hp)(M':Mm):Prop where
 ht:∀ b xs,H b=some (.tup xs)->H' b=some (.tup xs)
 hf:∀ b o u,H b=some (.frz o u)->H' b=some (.frz o u)
 hl:∀ b o,M b=none->H b=some o->H' b=some o/\M' b=none
section
variable {K:Ac}{H H' H1 H2:Hp}{M M' M1 M2:Mm}{a:Addr}
theorem AO.has{o:MO}(h:AO K H M a o):∃ u,H a=some u:=by
 cases o with
 | lst ws=>obtain⟨vs,e,_⟩:=h;exact⟨_,e⟩
 | dK kvs=>obtain⟨ks,e,_⟩:=h;exact⟨_,e⟩
 | dT kvs=>obtain⟨ks,e,_⟩:=h;exact⟨_,e⟩
 | fix vs=>exact⟨_,h⟩
 | ins C dx fs=>obtain⟨gs,e,_⟩:=h;exact⟨_,e⟩
 | dn P w tl kvs=>obtain⟨gs,e,_⟩:=h;exact⟨_,e⟩
 | vw d=>exact⟨_,h⟩
theorem AM.nonM(b:AM K H M)(h:H a=none):M a=none:=by
 cases q:M a with
 | none=>rfl
 | some o=>obtain⟨u,e⟩:=(b a o q).has;rw[h] at e;cases e
theorem AM.noTup(am:AM K H M){xs:List V}(h:H a=some (.tup xs)):M a=none:=by
 cases q:M a with
 | none=>rfl
 | some o=>
  have:=am a o q
  cases o with
  | lst ws=>obtain⟨vs,e,_⟩:=this;rw[h] at e;cases e
  | dK kvs=>obtain⟨ks,e,_⟩:=this;rw[h] at e;cases e
  | dT kvs=>obtain⟨ks,e,_⟩:=this;rw[h] at e;cases e
  | fix vs=>have e:H a=some (.lst vs):=this;rw[h] at e;cases e
  | ins C dx fs=>obtain⟨gs,e,_⟩:=this;rw[h] at e;cases e
  | dn P w tl kvs=>obtain⟨gs,e,_⟩:=this;rw[h] at e;cases e
  | vw d=>have e:H a=some (.ext fun h=>h.IsValuesView a d):=this;rw[h] at e;cases e
theorem AM.noFrz(am:AM K H M){ob:Obj}{u:HO}(h:H a=some (.frz ob u)):M a=none:=by
 cases q:M a with
 | none=>rfl
 | some o=>
  have:=am a o q
  cases o with
  | lst ws=>obtain⟨vs,e,_⟩:=this;rw[h] at e;cases e
  | dK kvs=>obtain⟨ks,e,_⟩:=this;rw[h] at e;cases e
  | dT kvs=>obtain⟨ks,e,_⟩:=this;rw[h] at e;cases e
  | fix vs=>have e:H a=some (.lst vs):=this;rw[h] at e;cases e
  | ins C dx fs=>obtain⟨gs,e,_⟩:=this;rw[h] at e;cases e
  | dn P w tl kvs=>obtain⟨gs,e,_⟩:=this;rw[h] at e;cases e
  | vw d=>have e:H a=some (.ext fun h=>h.IsValuesView a d):=this;rw[h] at e;cases e
theorem Kp.refl(b:AM K H M):Kp H M H M:=⟨fun a o h e=>⟨e,h⟩,fun a o h=>(b a o h).has⟩
theorem Kp.trans(x:Kp H M H1 M1)(y:Kp H1 M1 H2 M2):Kp H M H2 M2 where
 fr:=fun a o h e=>by
  obtain⟨b,d⟩:=x.fr a o h e
  exact y.fr a o d b
 dom:=fun a o h=>by
  obtain⟨u,e⟩:=x.dom a o h
  cases q:M1 a with
  | none=>exact⟨u,(y.fr a u q e).1⟩
  | some c=>exact y.dom a c q
theorem Kp.sub(x:Kp H M H1 M1)(h:Sub M2 M1):Kp H M H1 M2 where
 fr:=fun a o n e=>⟨(x.fr a o n e).1,h.non (x.fr a o n e).2⟩
 dom:=x.dom
theorem Kp.go(a:AM K H M)(k:Kp H M H' M'):Go H M H' M':=⟨fun b xs e=>(k.fr b _ (a.noTup e) e).1,fun b o u e=>(k.fr b _ (a.noFrz e) e).1,k.fr⟩
theorem Go.sub(h:Sub M' M):Go H M H M':=⟨fun _ _ e=>e,fun _ _ _ e=>e,fun b o n e=>⟨e,h.non n⟩⟩
theorem AV.go(g:Go H M H' M'){v:V}{w:W}(h:AV K H M v w):AV K H' M' v w:=AV.rec (motive_1:=fun v w _=>AV K H' M' v w) (motive_2:=fun vs ws _=>aM K H' M' vs ws) .non .bl .int .str .ty (fun e _ q=>.tup (g.ht _ _ e) q) (fun e _ q=>.sc (e.elim (fun z=>.inl (z.elim fun o q=>⟨o,g.hf _ _ _ q⟩)) .inr) q) (fun e n _ q=>.rl (g.hl _ _ n e).1 (g.hl _ _ n e).2 q) .ref
  (fun e n a _ q=>.dk (g.hl _ _ n e).1 (g.hl _ _ n e).2 a q) (fun e n a _ q=>.dt (g.hl _ _ n e).1 (g.hl _ _ n e).2 a q) (fun e a _ q=>.fk (g.hf _ _ _ e) a q) (fun e a _ q=>.ft (g.hf _ _ _ e) a q) .nil (fun _ _ x r=>.cons x r) h
theorem aM.go(g:Go H M H' M'){vs:List V}{ws:List W}(h:aM K H M vs ws):aM K H' M' vs ws:=aM.rec (motive_1:=fun v w _=>AV K H' M' v w) (motive_2:=fun vs ws _=>aM K H' M' vs ws) .non .bl .int .str .ty (fun e _ q=>.tup (g.ht _ _ e) q) (fun e _ q=>.sc (e.elim (fun z=>.inl (z.elim fun o q=>⟨o,g.hf _ _ _ q⟩)) .inr) q) (fun e n _ q=>.rl (g.hl _ _ n e).1 (g.hl _ _ n e).2 q) .ref
  (fun e n a _ q=>.dk (g.hl _ _ n e).1 (g.hl _ _ n e).2 a q) (fun e n a _ q=>.dt (g.hl _ _ n e).1 (g.hl _ _ n e).2 a q) (fun e a _ q=>.fk (g.hf _ _ _ e) a q) (fun e a _ q=>.ft (g.hf _ _ _ e) a q) .nil (fun _ _ x r=>.cons x r) h
theorem bK.go{κ:Type}{ks:List (κ×V)}{kvs:List (κ×W)}(g:Go H M H' M')(h:bK K H M κ ks kvs):bK K H' M' κ ks kvs:=Paired.mapP h fun p q z=>⟨z.1,z.2.go g⟩
theorem AO.go{o:MO}(g:Go H M H' M')(e:H' a=H a)(h:AO K H M a o):AO K H' M' a o:=by
 cases o with
 | lst ws=>obtain⟨vs,e1,r⟩:=h;exact⟨vs,by rw[e];exact e1,r.go g⟩
 | dK kvs=>obtain⟨vs,e1,r⟩:=h;exact⟨vs,by rw[e];exact e1,r.go g⟩
 | dT kvs=>obtain⟨vs,e1,r⟩:=h;exact⟨vs,by rw[e];exact e1,r.go g⟩
 | fix vs=>exact e.trans h
 | ins C dx fs=>obtain⟨gs,e1,r⟩:=h;exact⟨gs,by rw[e];exact e1,r.go g⟩
 | dn P w tl kvs=>obtain⟨gs,e1,r⟩:=h;exact⟨gs,by rw[e];exact e1,Paired.mapP r fun p q z=>⟨z.1,let ⟨pa,n1,n2⟩:=z.2.1;⟨pa,g.ht _ _ n1,g.ht _ _ n2⟩,z.2.2.go g⟩⟩
 | vw d=>exact e.trans h
theorem AM.sub(b:AM K H M')(h:Sub M M'):AM K H M:=fun a o e=>(b a o (h a o e)).go (Go.sub h) rfl
theorem AV.sub(h:Sub M' M){v:V}{w:W}(x:AV K H M v w):AV K H M' v w:=x.go (Go.sub h)
theorem aM.sub(h:Sub M' M){v:List V}{w:List W}(x:aM K H M v w):aM K H M' v w:=x.go (Go.sub h)
theorem AV.kp(a:AM K H M)(k:Kp H M H' M'){v:V}{w:W}(h:AV K H M v w):AV K H' M' v w:=h.go (k.go a)
theorem aM.kp(a:AM K H M)(k:Kp H M H' M'){vs:List V}{ws:List W}(h:aM K H M vs ws):aM K H' M' vs ws:=h.go (k.go a)
theorem aM.length:∀ {vs:List V} {ws:List W},aM K H M vs ws->vs.length=ws.length
 | _,_,.nil=>rfl
 | _,_,.cons _ r=>by simp[aM.length r]
theorem aM.append:∀ {vs us:List V} {ws a:List W},aM K H M vs ws->aM K H M us a->aM K H M (vs ++ us) (ws ++ a)
 | _,_,_,_,.nil,s=>s
 | _,_,_,_,.cons x r,s=>.cons x (aM.append r s)
theorem aM.getW:∀ {vs:List V} {ws:List W} {i:Nat} {w:W},aM K H M vs ws->ws[i]? = some w->∃ v,vs[i]? = some v/\AV K H M v w
 | _,_,_,_,.nil,e=>by simp at e
 | _,_,0,_,.cons x _,e=>by simp at e;subst e;exact⟨_,rfl,x⟩
 | _,_,i + 1,w,.cons _ r,e=>by
  obtain⟨v,b,a⟩:=aM.getW (i:=i) (w:=w) r (by simpa using e)
  exact⟨v,by simpa using b,a⟩
theorem aM.getV:∀ {vs:List V} {ws:List W} {i:Nat} {v:V},aM K H M vs ws->vs[i]? = some v->∃ w,ws[i]? = some w/\AV K H M v w
 | _,_,_,_,.nil,e=>by simp at e
 | _,_,0,_,.cons x _,e=>by simp at e;subst e;exact⟨_,rfl,x⟩
 | _,_,i + 1,v,.cons _ r,e=>by
  obtain⟨w,b,a⟩:=aM.getV (i:=i) (v:=v) r (by simpa using e)
  exact⟨w,by simpa using b,a⟩
theorem aM.set{v:V}{w:W}(x:AV K H M v w):∀ {vs:List V} {ws:List W} (i:Nat),aM K H M vs ws->aM K H M (vs.set i v) (ws.set i w)
 | _,_,_,.nil=>.nil
 | _,_,0,.cons _ t=>.cons x t
 | _,_,i + 1,.cons q t=>.cons q (aM.set x i t)
theorem aM.take:∀ {vs:List V} {ws:List W} (n:Nat),aM K H M vs ws->aM K H M (vs.take n) (ws.take n)
 | _,_,0,_=>by simp;exact .nil
 | _,_,_ + 1,.nil=>.nil
 | _,_,n + 1,.cons x t=>.cons x (aM.take n t)
theorem aM.drop:∀ {vs:List V} {ws:List W} (n:Nat),aM K H M vs ws->aM K H M (vs.drop n) (ws.drop n)
 | _,_,0,h=>h
 | _,_,_ + 1,.nil=>.nil
 | _,_,n + 1,.cons _ t=>aM.drop n t
theorem aM.reverse{vs:List V}{ws:List W}(h:aM K H M vs ws):aM K H M vs.reverse ws.reverse:=by
 induction vs generalizing ws with
 | nil=>cases h;exact .nil
 | cons v vs a=>
  cases h with
  | cons x r=>rw[List.reverse_cons,List.reverse_cons];exact(a r).append (.cons x .nil)
theorem aM.dropLast{vs:List V}{ws:List W}(h:aM K H M vs ws):aM K H M vs.dropLast ws.dropLast:=by
 rw[List.dropLast_eq_take,List.dropLast_eq_take,h.length];exact h.take _
theorem aM.flatRep{vs:List V}{ws:List W}(h:aM K H M vs ws):∀ n:Nat,aM K H M (Br n vs).flatten (Br n ws).flatten
 | 0=>.nil
 | n + 1=>by
  rw[Dx,Dx,Gi,Gi]
  exact h.append (aM.flatRep h n)
theorem aM.int(is:List Int):aM K H M (is.map V.int) (is.map W.int):=by
 induction is with
 | nil=>exact .nil
 | cons i r a=>exact .cons (.int i) a
theorem HP{p:Addr}{u:HO}(a:H p=none)(c:∀ b,b≠p->M b=none->M' b=none):Go H M (aR H p u) M':=
 ⟨fun b xs e=>by rw[bE (eT e a)];exact e,fun b o x e=>by rw[bE (eT e a)];exact e,fun b o n e=>⟨by rw[bE (eT e a)];exact e,c b (eT e a) n⟩⟩
theorem HQ{p:Addr}{o:MO}{u:HO}(a:H p=none):Go H M (aR H p u) (put M p o):=HP a fun b ne n=>by rw[aQ ne];exact n
theorem go_same{p:Addr}{u:HO}(a:H p=none):Go H M (aR H p u) M:=HP a fun b ne n=>n
theorem AM.laid{p:Addr}{o:MO}{u:HO}(d:AM K H M)(b:H p=none)(h:AO K (aR H p u) (put M p o) p o):AM K (aR H p u) (put M p o)/\Kp H M (aR H p u) (put M p o):=by
 refine⟨fun a x e=>?_,fun a x h e=>⟨?_,?_⟩,fun a x h=>?_⟩
 ·by_cases c:a=p
  ·subst c;rw[a5] at e;cases e;exact h
  ·rw[aQ c] at e
   exact(d a x e).go (HQ b) (bE c)
 ·rw[bE (eT e b)];exact e
 ·rw[aQ (eT e b)];exact h
 ·obtain⟨y,e⟩:=(d a x h).has
  exact⟨y,by rw[bE (eT e b)];exact e⟩
theorem HR{p:Addr}{o u:MO}:Go H (put M p o) H (put M p u):=⟨fun _ _ e=>e,fun _ _ _ e=>e,fun b x n e=>⟨e,by
 have ne:b≠p:=fun z=>by rw[z,a5] at n;cases n
 rw[aQ ne] at n ⊢;exact n⟩⟩
theorem AM.tup{p:Addr}{u:HO}(c:AM K H M)(b:H p=none):AM K (aR H p u) M/\Kp H M (aR H p u) M:=by
 refine⟨fun a x e=>?_,fun a x h e=>⟨?_,h⟩,fun a x h=>?_⟩
 ·have ne:a≠p:=fun z=>by rw[z,c.nonM b] at e;cases e
  exact(c a x e).go (go_same b) (bE ne)
 ·rw[bE (eT e b)];exact e
 ·obtain⟨y,e⟩:=(c a x h).has
  exact⟨y,by rw[bE (eT e b)];exact e⟩
theorem nL{l:Addr}{c o:MO}{u:HO}(a:AM K H M)(hl:M l=some c):Go H M (aR H l u) (put M l o):=
 ⟨fun b xs e=>by rw[bE (fun z=>by rw[<-z,a.noTup e] at hl;cases hl)];exact e,fun b ob x e=>by rw[bE (fun z=>by rw[<-z,a.noFrz e] at hl;cases hl)];exact e,
   fun b x n e=>by
  have ne:b≠l:=fun z=>by rw[<-z,n] at hl;cases hl
  rw[bE ne,aQ ne];exact⟨e,n⟩⟩
theorem AM.write{l:Addr}{d o:MO}{u:HO}(c:AM K H M)(hl:M l=some d)(h:AO K (aR H l u) (put M l o) l o):AM K (aR H l u) (put M l o)/\Kp H M (aR H l u) (put M l o):=by
 refine⟨fun a x e=>?_,fun a x h e=>?_,fun a x h=>?_⟩
 ·by_cases b:a=l
  ·subst b;rw[a5] at e;cases e;exact h
  ·rw[aQ b] at e
   exact(c a x e).go (nL c hl) (bE b)
 ·have:a≠l:=fun z=>by rw[z,hl] at h;cases h
  rw[bE this,aQ this];exact⟨e,h⟩
 ·by_cases b:a=l
  ·subst b;exact⟨u,cM⟩
  ·obtain⟨y,e⟩:=(c a x h).has
   exact⟨y,by rw[bE b];exact e⟩
theorem AM.lst(b:AM K H M){ws:List W}(h:M a=some (.lst ws)):∃ vs,H a=some (.lst vs)/\aM K H M vs ws:=b a _ h
theorem aM.newT{p:Addr}{u:HO}{vs:List V}{ws:List W}(a:H p=none)(h:aM K H M vs ws):aM K (aR H p u) M vs ws:=h.go (go_same a)
theorem aM.newL{p:Addr}{u:HO}{o:MO}{vs:List V}{ws:List W}(a:H p=none)(h:aM K H M vs ws):aM K (aR H p u) (put M p o) vs ws:=h.go (HQ a)
theorem aM.wr{l:Addr}{a o:MO}{u:HO}{vs:List V}{ws:List W}(b:AM K H M)(hl:M l=some a)(h:aM K H M vs ws):aM K (aR H l u) (put M l o) vs ws:=h.go (nL b hl)
theorem AV.wr{l:Addr}{a o:MO}{u:HO}{v:V}{w:W}(b:AM K H M)(hl:M l=some a)(h:AV K H M v w):AV K (aR H l u) (put M l o) v w:=h.go (nL b hl)
end
abbrev S3:=List (Option W)
abbrev K3:=W->Mm->Prop
abbrev aW:=S3->Mm->K3->Prop
abbrev dQ:=S3->Mm->(Bool->Mm->Prop)->Prop
abbrev dZ:=S3->Mm->(List W->Mm->Prop)->Prop
abbrev R3:=W->W->Mm->K3->Prop
structure D3 where
 nx:S3->Mm->Prop
 rt:K3
 bk:S3->Mm->Prop:=fun _ _=>False
 ct:S3->Mm->Prop:=fun _ _=>False
abbrev aH:=D3->S3->Mm->Prop
def AS(K:Ac)(H:Hp)(M:Mm):SV->S3->Prop:=Fm fun a b=>∀ w,b=some w->∃ v,a=some v/\AV K H M v w
section
variable {K:Ac}{H H':Hp}{M M':Mm}
theorem AS.kp(c:AM K H M)(k:Kp H M H' M'){b:SV}{a:S3}(h:AS K H M b a):AS K H' M' b a:=
 Paired.mapP h fun f g z w e=>by obtain⟨v,d,r⟩:=z w e;exact⟨v,d,r.kp c k⟩
theorem AS.sub{M':Mm}(g:Sub M' M){b:SV}{a:S3}(h:AS K H M b a):AS K H M' b a:=
 Paired.mapP h fun d f z w e=>by obtain⟨v,c,r⟩:=z w e;exact⟨v,c,r.sub g⟩
theorem AS.get{w:W}:∀ {d:SV} {c:S3} {i:Nat},AS K H M d c->c[i]? = some (some w)->∃ v,d[i]? = some (some v)/\AV K H M v w
 | _,_,_,.nil,e=>by simp at e
 | _,_,0,.cons r _,e=>by
  simp at e
  obtain⟨v,b,a⟩:=r w e
  exact⟨v,by rw[b];rfl,a⟩
 | _,_,i + 1,.cons _ t,e=>by
  obtain⟨v,b,a⟩:=AS.get (i:=i) t (by simpa using e)
  exact⟨v,by simpa using b,a⟩
theorem AS.set{v:V}{w:W}(r:AV K H M v w):∀ {b:SV} {a:S3} (i:Nat),AS K H M b a->AS K H M (b.set i (some v)) (a.set i (some w))
 | _,_,_,.nil=>.nil
 | _,_,0,.cons _ t=>.cons (fun x e=>⟨v,rfl,by cases e;exact r⟩) t
 | _,_,i + 1,.cons q t=>.cons q (AS.set r i t)
theorem AS.nones:∀ n:Nat,AS K H M (Br n none) (Br n none)
 | 0=>.nil
 | n + 1=>.cons (fun _ e=>nomatch e) (AS.nones n)
theorem AS.start{vs:List V}{ws:List W}(h:aM K H M vs ws)(n:Nat):AS K H M (vs.map some ++ Br n none) (ws.map some ++ Br n none):=by
 induction vs generalizing ws with
 | nil=>cases h;exact AS.nones n
 | cons v vs a=>
  cases h with
  | cons x r=>exact .cons (fun w e=>⟨v,rfl,by cases e;exact x⟩) (a r)
end
def Up(K:Ac)(H:Hp)(M:Mm)(R:K3)(Q:VK):Prop:=∀ v H' w M',Kp H M H' M'->AM K H' M'->AV K H' M' v w->R w M'->Q v H'
def up(K:Ac)(t:aW):TE:=fun b H Q=>∃ a M R,AS K H M b a/\AM K H M/\t a M R/\Up K H M R Q
def jH(K:Ac)(t:dQ):TT:=fun c H Q=>∃ (a:S3) (M:Mm) (R:Bool->Mm->Prop),AS K H M c a/\AM K H M/\t a M R/\∀ b H' M',Kp H M H' M'->AM K H' M'->R b M'->Q b H'
def oT(K:Ac)(t:dZ):TA:=fun b H Q=>∃ (a:S3) (M:Mm) (R:List W->Mm->Prop),AS K H M b a/\AM K H M/\t a M R/\∀ vs H' ws M',Kp H M H' M'->AM K H' M'->aM K H' M' vs ws->R ws M'->Q vs H'
def iF(K:Ac)(H:Hp)(M:Mm)(R:S3->Mm->Prop)(Q:SV->Hp->Prop):Prop:=∀ b H' a M',Kp H M H' M'->AM K H' M'->AS K H' M' b a->R a M'->Q b H'
structure qH(K:Ac)(H:Hp)(M:Mm)(D:D3)(E:lF):Prop where
 nx:iF K H M D.nx E.nx
 rt:Up K H M D.rt E.rt
 bk:iF K H M D.bk E.bk
 ct:iF K H M D.ct E.ct
def qI(K:Ac)(t:aH):TS:=fun E b H=>∃ a M D,AS K H M b a/\AM K H M/\t D a M/\qH K H M D E
section
variable {K:Ac}{H H1:Hp}{M M1:Mm}
theorem Up.kp{R:K3}{Q:VK}(h:Up K H M R Q)(k:Kp H M H1 M1):Up K H1 M1 R Q:=fun v H' w M' b a av r=>h v H' w M' (k.trans b) a av r
theorem iF.kp{R:S3->Mm->Prop}{Q:SV->Hp->Prop}(h:iF K H M R Q)(k:Kp H M H1 M1):iF K H1 M1 R Q:=fun v H' w M' b a av r=>h v H' w M' (k.trans b) a av r
theorem qH.kp{D:D3}{E:lF}(h:qH K H M D E)(k:Kp H M H1 M1):qH K H1 M1 D E:=⟨h.nx.kp k,h.rt.kp k,h.bk.kp k,h.ct.kp k⟩
theorem Up.at{R:K3}{Q:VK}(h:Up K H M R Q)(a:AM K H M){v:V}{w:W}(av:AV K H M v w)(r:R w M):Q v H:=h v H w M (Kp.refl a) a av r
end
def frz:W->Mm->K3->Prop
 | .ref p,M,R=>(∃ ws,M p=some (.lst ws)/\R (.rl ws) (del M p))\/(∃ kvs,M p=some (.dK kvs)/\R (.dk kvs) (del M p))\/(∃ kvs,M p=some (.dT kvs)/\R (.dt kvs) (del M p))\/R (.ref p) M
 | w,M,R=>R w M
theorem Up.frz{K:Ac}{H:Hp}{M:Mm}{R:K3}{Q:VK}(h:Up K H M R Q):Up K H M (fun w M'=>frz w M' R) Q:=fun v H' w M' k a av r=>by
 have b:=av
 cases av <;> first | exact h _ _ _ _ k a b r | skip
 case ref p=>
  rcases r with⟨ws,e,r⟩ | ⟨kvs,e,r⟩ | ⟨kvs,e,r⟩ | r
  ·obtain⟨vs,f,q⟩:=a.lst e
   exact h _ _ _ _ (k.sub Sub.del) (a.sub Sub.del) (.rl f oS (q.sub Sub.del)) r
  ·obtain⟨ks,f,q⟩:=a _ _ e
   exact h _ _ _ _ (k.sub Sub.del) (a.sub Sub.del) (.dk f oS q.keys (q.vals.sub Sub.del)) r
  ·obtain⟨ks,f,q⟩:=a _ _ e
   exact h _ _ _ _ (k.sub Sub.del) (a.sub Sub.del) (.dt f oS q.keys (q.vals.sub Sub.del)) r
  ·exact h _ _ _ _ k a (.ref p) r
theorem YI{M:Mm}{p:Addr}{ws:List W}{R:K3}(a:M p=none)(r:R (.rl ws) M):frz (.ref p) (put M p (.lst ws)) R:=.inl ⟨ws,a5,by rw[nJ a];exact r⟩
theorem HS{M:Mm}{p:Addr}{kvs:List (aD×W)}{R:K3}(a:M p=none)(r:R (.dk kvs) M):frz (.ref p) (put M p (.dK kvs)) R:=.inr (.inl ⟨kvs,a5,by rw[nJ a];exact r⟩)
theorem YJ{M:Mm}{p:Addr}{kvs:List (List aD×W)}{R:K3}(a:M p=none)(r:R (.dt kvs) M):frz (.ref p) (put M p (.dT kvs)) R:=.inr (.inr (.inl ⟨kvs,a5,by rw[nJ a];exact r⟩))
def aV(ws:List W)(M:Mm)(R:K3):Prop:=∀ p,M p=none->R (.ref p) (put M p (.lst ws))
def nM(kvs:List (aD×W))(M:Mm)(R:K3):Prop:=∀ p,M p=none->R (.ref p) (put M p (.dK kvs))
def oU(kvs:List (List aD×W))(M:Mm)(R:K3):Prop:=∀ p,M p=none->R (.ref p) (put M p (.dT kvs))
theorem aV.frz{M:Mm}{ws:List W}{R:K3}(r:R (.rl ws) M):aV ws M fun w M'=>L3.frz w M' R:=fun p a=>YI a r
theorem nM.frz{M:Mm}{kvs:List (aD×W)}{R:K3}(r:R (.dk kvs) M):nM kvs M fun w M'=>L3.frz w M' R:=fun p a=>HS a r
theorem oU.frz{M:Mm}{kvs:List (List aD×W)}{R:K3}(r:R (.dt kvs) M):oU kvs M fun w M'=>L3.frz w M' R:=fun p a=>YJ a r
def cF(t:aW):aW:=fun a M R=>t a M fun w M'=>frz w M' R
def YK(K:Ac)(H:Hp)(M:Mm)(v:V):W->Prop
 | .non=>v=.non
 | .bl b=>v=.bl b
 | .int i=>v=.int i
 | .str x=>v=.str x
 | .ty n=>v=.ty n
 | .tup ws=>∃ a xs,v=.ref a/\H a=some (.tup xs)/\aM K H M xs ws
 | .sc ws=>∃ a xs,v=.ref a/\lK K H a xs/\aM K H M xs ws
 | .rl ws=>∃ a xs,v=.ref a/\H a=some (.lst xs)/\M a=none/\aM K H M xs ws
 | .ref a=>v=.ref a
 | .dk kvs=>∃ a ks,v=.ref a/\H a=some (.dK ks)/\M a=none/\bK K H M aD ks kvs
 | .dt kvs=>∃ a ks,v=.ref a/\H a=some (.dT ks)/\M a=none/\bK K H M (List aD) ks kvs
 | .fk kvs=>∃ a ks,v=.ref a/\(∃ o,H a=some (.frz o (.dK ks)))/\bK K H M aD ks kvs
 | .ft kvs=>∃ a ks,v=.ref a/\(∃ o,H a=some (.frz o (.dT ks)))/\bK K H M (List aD) ks kvs
section
variable {K:Ac}{H:Hp}{M:Mm}{v:V}{vs:List V}{w:W}{ws:List W}{C:Prop}
theorem AV.inv(h:AV K H M v w):YK K H M v w:=by
 cases h
 case non | bl | int | str | ty | ref=>rfl
 case tup | sc=>rename_i e q;exact⟨_,_,rfl,e,q⟩
 case rl=>rename_i e n q;exact⟨_,_,rfl,e,n,q⟩
 case dk | dt=>rename_i e n z q;exact⟨_,_,rfl,e,n,nK z q⟩
 case fk | ft=>rename_i e z q;exact⟨_,_,rfl,⟨_,e⟩,nK z q⟩
theorem AV.tupE(h:AV K H M v (.tup ws))(c:∀ a xs,v=.ref a->H a=some (.tup xs)->aM K H M xs ws->C):C:=
 let ⟨a,xs,e,f,q⟩:=h.inv;c a xs e f q
theorem AV.scE(h:AV K H M v (.sc ws))(c:∀ a xs,v=.ref a->lK K H a xs->aM K H M xs ws->C):C:=
 let ⟨a,xs,e,f,q⟩:=h.inv;c a xs e f q
theorem AV.rlE(h:AV K H M v (.rl ws))(c:∀ a xs,v=.ref a->H a=some (.lst xs)->aM K H M xs ws->C):C:=
 let ⟨a,xs,e,f,_,q⟩:=h.inv;c a xs e f q
theorem aM.nil_(h:aM K H M vs []):vs=[]:=by cases h;rfl
theorem aM.one(h:aM K H M vs [w]):∃ v,vs=[v]/\AV K H M v w:=by
 cases h with
 | cons x r=>rw[r.nil_];exact⟨_,rfl,x⟩
theorem aM.oneE(h:aM K H M vs [w])(c:∀ v,vs=[v]->AV K H M v w->C):C:=h.one.elim fun v h=>c v h.1 h.2
theorem aM.two{z:W}(h:aM K H M vs [w,z]):∃ v u,vs=[v,u]/\AV K H M v w/\AV K H M u z:=by
 cases h with
 | cons x r=>obtain⟨u,rfl,y⟩:=r.one;exact⟨_,_,rfl,x,y⟩
theorem AM.lstE{a:Addr}(b:AM K H M)(e:M a=some (.lst ws))(c:∀ xs,H a=some (.lst xs)->aM K H M xs ws->C):C:=(b.lst e).elim fun v h=>c v h.1 h.2
theorem iG{x y:V}(e:vs=[x])(f:x=y):vs=[y]:=by rw[e,f]
end
theorem up.el{K:Ac}{H:Hp}{e:SV}{C:Prop}{t:aW}{Q:VK}(h:up K t e H Q)(c:∀ d M R,AS K H M e d->AM K H M->t d M R->Up K H M R Q->C):C:=by obtain⟨d,M,R,a,b,h,k⟩:=h;exact c d M R a b h k
theorem jH.el{K:Ac}{H:Hp}{e:SV}{C:Prop}{t:dQ}{Q:Bool->Hp->Prop}(h:jH K t e H Q)(c:∀ d M R,AS K H M e d->AM K H M->t d M R->(∀ b H' M',Kp H M H' M'->AM K H' M'->R b M'->Q b H')->C):C:=by obtain⟨d,M,R,a,b,h,k⟩:=h;exact c d M R a b h k
theorem oT.el{K:Ac}{H:Hp}{e:SV}{C:Prop}{t:dZ}{Q:List V->Hp->Prop}(h:oT K t e H Q)(c:∀ d M R,AS K H M e d->AM K H M->t d M R->(∀ vs H' ws M',Kp H M H' M'->AM K H' M'->aM K H' M' vs ws->R ws M'->Q vs H')->C):C:=by obtain⟨d,M,R,a,b,h,k⟩:=h;exact c d M R a b h k
theorem qI.el{K:Ac}{H:Hp}{e:SV}{C:Prop}{t:aH}{E:lF}(h:qI K t E e H)(c:∀ d M D,AS K H M e d->AM K H M->t D d M->qH K H M D E->C):C:=by obtain⟨d,M,D,a,b,h,k⟩:=h;exact c d M D a b h k
end L3
namespace L2
section
variable {X:Cx}
theorem PE.weak{e:Lf}{t t':TE}(h:PE X e t)(k:∀ b H Q,t' b H Q->t b H Q):PE X e t':=fun a s b H Q I q=>h a s b H Q I (k b H Q q)
theorem PT.weak{e:Lf}{t t':TT}(h:PT X e t)(k:∀ b H Q,t' b H Q->t b H Q):PT X e t':=fun a s b H Q I q=>h a s b H Q I (k b H Q q)
theorem PW.weak{e:Lf}{t t':TT}(h:PW X e t)(k:∀ b H Q,t' b H Q->t b H Q):PW X e t':=fun c a s b H Q I q=>h c a s b H Q I (k b H Q q)
theorem PA.weak{es:List Lf}{t t':TA}(h:PA X es t)(k:∀ b H Q,t' b H Q->t b H Q):PA X es t':=fun pos a s b H Q I q=>h pos a s b H Q I (k b H Q q)
theorem PS.weak{st:PySem.Stmt}{t t':TS}(h:PS X st t)(k:∀ D b H,t' D b H->t D b H):PS X st t':=fun a s b H D I q=>h a s b H D I (k D b H q)
theorem fW.weak{st:List PySem.Stmt}{t t':TS}(h:fW X st t)(k:∀ D b H,t' D b H->t D b H):fW X st t':=fun a s b H D I q=>h a s b H D I (k D b H q)
theorem PO.weak{e:Option Lf}{t t':TO}(h:PO X e t)(k:∀ b H Q,t' b H Q->t b H Q):PO X e t':=fun a s b H Q I q=>h a s b H Q I (k b H Q q)
theorem g9.weak{es:List Lf}{t t':TT}(h:g9 X es t)(k:∀ b H Q,t' b H Q->t b H Q):g9 X es t':=fun a s b H Q I q=>h a s b H Q I (k b H Q q)
end
end L2
namespace L3
open PySem PySem.Spec PyProof.Rows L2
abbrev E3(X:Cx)(e:Expr)(t:aW):Prop:=PE X e (up X.K t)
abbrev T3(X:Cx)(e:Expr)(t:dQ):Prop:=PT X e (jH X.K t)
abbrev W3(X:Cx)(e:Expr)(t:dQ):Prop:=PW X e (jH X.K t)
abbrev A3(X:Cx)(es:List Expr)(t:dZ):Prop:=PA X es (oT X.K t)
def cB(K:Ac)(r:R3):R2:=fun x y H Q=>∃ a b M R,AM K H M/\AV K H M x a/\AV K H M y b/\r a b M R/\Up K H M R Q
def HU(K:Ac)(r:W->Mm->K3->Prop):V->Hp->VK->Prop:=fun x H Q=>∃ a M R,AM K H M/\AV K H M x a/\r a M R/\Up K H M R Q
def fG(K:Ac)(r:List W->Mm->K3->Prop):List V->Hp->VK->Prop:=fun xs H Q=>∃ ws M R,AM K H M/\aM K H M xs ws/\r ws M R/\Up K H M R Q
def jI(K:Ac)(r:W->List W->Mm->K3->Prop):V->List V->Hp->VK->Prop:=fun x xs H Q=>∃ a ws M R,AM K H M/\AV K H M x a/\aM K H M xs ws/\r a ws M R/\Up K H M R Q
section
variable {X:Cx}{a b c:Expr}{ta tb tc:aW}{pos:Pos}
def aA(i:Nat):aW:=fun a M R=>∃ w,a[i]? = some (some w)/\R w M
def vC(w:W):aW:=fun _ M R=>R w M
theorem v(i:Nat){x:Str}{pos:Pos}(f:X.N[i]? = some x:=by rfl)(b:wB X.env.scope x:=by first | exact Or.inl rfl | exact Or.inr (Or.inl rfl) | exact Or.inr (Or.inr rfl))(hd:(x == ("__debug__" : Str))=false:=by decide)
  (a:(x == ("__classdict__" : Str))=false:=by decide):E3 X (.Name x pos) (aA i):=(QQ f b hd a).weak fun σ H Q ⟨h,M,R,d,c,⟨w,e,r⟩,k⟩=>by
 obtain⟨v,g,av⟩:=d.get e
 exact⟨v,g,k.at c av r⟩
theorem aK{i j pos}:E3 X (.Constant (.int i) j pos) (vC (.int i)):=QS.weak fun σ H Q a=>a.el fun c M R d b r k=>k.at b (.int i) r
theorem fQ{b j pos}:E3 X (.Constant (.bool b) j pos) (vC (.bl b)):=QT.weak fun σ H Q a=>a.el fun d M R e c r k=>k.at c (.bl b) r
theorem kN{x j pos}:E3 X (.Constant (.str x) j pos) (vC (.str x)):=QU.weak fun σ H Q a=>a.el fun c M R d b r k=>k.at b (.str x) r
theorem HV{x:Str}{y:V}{w:W}{u:Ae}{pos:Pos}(d:Gl X x)(a:X.mg x=some u)(r:RelV y u)(hw:∀ H M,AV X.K H M y w)(hd:(x == ("__debug__" : Str))=false:=by decide):E3 X (.Name x pos) (vC w):=
 (QV d a r hd).weak fun σ H Q b=>b.el fun e M R f c r k=>k.at c (hw H M) r
theorem oV{x:Str}{y:V}{w:W}{u:Ae}{pos:Pos}(f:Gl X x)(a:X.mg x=none)(b:Ct x=some u)(r:RelV y u)(hw:∀ H M,AV X.K H M y w)(c:x≠"__name__":=by decide)(hd:(x == ("__debug__" : Str))=false:=by decide):E3 X (.Name x pos) (vC w):=
 (QW f a b r c hd).weak fun σ H Q d=>d.el fun g M R h e r k=>k.at e (hw H M) r
theorem dB(c:E3 X a ta):E3 X a (cF ta):=c.weak fun σ H Q b=>b.el fun d M R f e h k=>⟨d,M,_,f,e,h,k.frz⟩
def aE(r:R3)(ta tb:aW):aW:=fun a M R=>ta a M fun x b=>tb a b fun y c=>r x y c R
theorem tD{K:Ac}{r:R3}{σ:SV}{H:Hp}{Q:VK}(h:up K (aE r ta tb) σ H Q):p8 (cB K r) (up K ta) (up K tb) σ H Q:=by
 obtain⟨c,M,R,f,e,h,k⟩:=h
 refine⟨c,M,_,f,e,h,fun x t j o d a n m=>⟨c,o,_,f.kp e d,a,m,fun y s q i g b l p=>?_⟩⟩
 exact⟨j,q,i,R,b,n.kp a g,l,p,(k.kp d).kp g⟩
theorem bA{op:Operator}{r:R3}(d:a8 X (Dl op) (cB X.K r))(e:E3 X a ta)(c:E3 X b tb):E3 X (.BinOp a op b pos) (aE r ta tb):=(SN d e c).weak fun _ _ _ h=>tD h
theorem YL{op:CmpOp}{r:R3}(f:a8 X (Cf op) (cB X.K r))(e:E3 X a ta)(d:E3 X b tb)(c:Hh op b=false):E3 X (.Compare a [op] [b] pos) (aE r ta tb):=(TQ f e d c).weak fun _ _ _ h=>tD h
def bM(t:aW):dQ:=fun b M Q=>t b M fun w a=>∃ k,w=.bl k/\Q k a
theorem AV.bl_inv{K:Ac}{H:Hp}{M:Mm}{v:V}{k:Bool}(h:AV K H M v (.bl k)):v=.bl k:=by cases h;rfl
theorem YM{op:CmpOp}{r:R3}(o:a8 X (Cf op) (cB X.K r))(j:E3 X a ta)(g:E3 X b tb)(f:Hh op b=false):T3 X (.Compare a [op] [b] pos) (bM (aE r ta tb)):=
 (TR o j g f).weak fun σ H Q i=>i.el fun l M R s m h k=>tD ⟨l,M,_,s,m,h,fun v p w q n d av ⟨c,e,r⟩=>by
  subst e
  exact⟨c,av.bl_inv,k c p q n d r⟩⟩
def j0(r:W->Mm->K3->Prop)(ta:aW):aW:=fun a M R=>ta a M fun x b=>r x b R
theorem lL{op:UnaryOp}{r:W->Mm->K3->Prop}(n:p7 X (unaryOp op) (HU X.K r))(e:E3 X a ta):E3 X (.UnaryOp op a pos) (j0 r ta):=
 (SO n e).weak fun σ H Q c=>c.el fun f M R o j h k=>⟨f,M,_,o,j,h,fun x p d m g b l i=>⟨d,m,R,b,l,i,k.kp g⟩⟩
def kO:W->Mm->(Bool->Mm->Prop)->Prop
 | .non,M,Q=>Q false M
 | .bl b,M,Q=>Q b M
 | .int i,M,Q=>Q (i != 0) M
 | .str y,M,Q=>y.length<=Ai/\Q ((y.length:Int) != 0) M
 | .tup ws,M,Q=>Q (!ws.isEmpty) M
 | .rl ws,M,Q=>Q (!ws.isEmpty) M
 | .sc ws,M,Q=>Q (!ws.isEmpty) M
 | .dk kvs,M,Q=>Q (!kvs.isEmpty) M
 | .ref p,M,Q=>(∃ ws,M p=some (.lst ws)/\Q (!ws.isEmpty) M)\/∃ kvs,M p=some (.dK kvs)/\Q (!kvs.isEmpty) M
 | _,_,_=>False
def eV(t:aW):dQ:=fun b M Q=>t b M fun w a=>kO w a Q
theorem aM.empty{K:Ac}{H:Hp}{M:Mm}{vs:List V}{ws:List W}(h:aM K H M vs ws):(!ws.isEmpty) = !vs.isEmpty:=by cases h <;> rfl
theorem fH(m:E3 X a ta)(t:∀ d,isTrue a X.env d=(do let v <-d;My a.pos;Hr [v] (truthy v)):=by intro _;rfl):T3 X a (eV ta):=
 (TY m t).weak fun σ H Q l=>l.el fun o M R u s h k=>⟨o,M,_,u,s,h,fun v x w z f c av r=>by
  cases av with
  | non=>exact⟨false,rfl,k _ _ _ f c r⟩
  | bl b=>exact⟨b,rfl,k _ _ _ f c r⟩
  | int i=>exact⟨_,rfl,k _ _ _ f c r⟩
  | str y=>exact⟨_,⟨r.1,rfl⟩,k _ _ _ f c r.2⟩
  | ty n=>exact(show False from r).elim
  | tup e q=>exact⟨_,.inr (.inl ⟨_,bV.of e,q.empty⟩),k _ _ _ f c r⟩
  | rl e n q=>exact⟨_,.inl ⟨_,bF.of e,q.empty⟩,k _ _ _ f c r⟩
  | sc e q=>exact⟨_,.inl ⟨_,e.sq,q.empty⟩,k _ _ _ f c r⟩
  | @dk a ks kvs e n g q=>exact⟨!kvs.isEmpty,.inr (.inr ⟨_,e,by have:=nK g q;cases this <;> rfl⟩),k _ _ _ f c r⟩
  | dt e n g q=>exact(show False from r).elim
  | fk e g q=>exact(show False from r).elim
  | ft e g q=>exact(show False from r).elim
  | ref p=>
   rcases r with⟨ws,e,r⟩ | ⟨kvs,e,r⟩
   ·obtain⟨vs,j,q⟩:=c.lst e
    exact⟨_,.inl ⟨_,bF.of j,q.empty⟩,k _ _ _ f c r⟩
   ·obtain⟨ks,j,q⟩:=c _ _ e
    exact⟨!kvs.isEmpty,.inr (.inr ⟨_,j,by cases q <;> rfl⟩),k _ _ _ f c r⟩⟩
def iH(t u:dQ):dQ:=fun a M Q=>t a M fun c b=>if c=true then u a b Q else Q false b
def hJ(t u:dQ):dQ:=fun a M Q=>t a M fun c b=>if c=true then Q true b else u a b Q
def iI(t:dQ):dQ:=fun a M Q=>t a M fun c b=>Q (!c) b
variable {tA tB':dQ}{rest:List Expr}
theorem j3(b:T3 X a tA):W3 X (.BoolOp .And [a] pos) tA:=Q0 b
theorem kP(b:T3 X a tA):W3 X (.BoolOp .Or [a] pos) tA:=Q1 b
theorem jJ(p:T3 X a tA)(n:W3 X (.BoolOp .And (b :: rest) pos) tB'):W3 X (.BoolOp .And (a :: b :: rest) pos) (iH tA tB'):=
 (Q2 p n).weak fun σ H Q o=>o.el fun g M R m j h k=>⟨g,M,_,m,j,h,fun c q l e d i=>by
  cases c with
  | true=>exact⟨g,l,R,m.kp j e,d,i,fun b t u s f r=>k b t u (e.trans s) f r⟩
  | false=>exact k false q l e d i⟩
theorem iY(p:T3 X a tA)(n:W3 X (.BoolOp .Or (b :: rest) pos) tB'):W3 X (.BoolOp .Or (a :: b :: rest) pos) (hJ tA tB'):=
 (Q3 p n).weak fun σ H Q o=>o.el fun g M R m j h k=>⟨g,M,_,m,j,h,fun c q l e d i=>by
  cases c with
  | true=>exact k true q l e d i
  | false=>exact⟨g,l,R,m.kp j e,d,i,fun b t u s f r=>k b t u (e.trans s) f r⟩⟩
theorem jK(e:T3 X a tA):T3 X (.UnaryOp .Not a pos) (iI tA):=
 (Q4 e).weak fun σ H Q d=>d.el fun f M R n l h k=>⟨f,M,_,n,l,h,fun c g m i b j=>k (!c) g m i b j⟩
def nN(ta tb:aW):aW:=fun a M R=>ta a M fun x b=>∃ c,x=.bl c/\if c=true then tb a b R else R (.bl false) b
def tE(ta tb:aW):aW:=fun a M R=>ta a M fun x b=>∃ c,x=.bl c/\if c=true then R (.bl true) b else tb a b R
def YN(ta:aW):aW:=fun a M R=>ta a M fun x b=>∃ c,x=.bl c/\R (.bl (!c)) b
theorem oW{op}(h:E3 X a ta):E3 X (.BoolOp op [a] pos) ta:=Q7 h
theorem v_and(o:E3 X a ta)(m:E3 X (.BoolOp .And (b :: rest) pos) tb):E3 X (.BoolOp .And (a :: b :: rest) pos) (nN ta tb):=
 (Q8 o m).weak fun σ H Q n=>n.el fun g M R l j h k=>⟨g,M,_,l,j,h,fun x s r q f d p ⟨c,e,i⟩=>by
  subst e
  refine⟨c,p.bl_inv,?_⟩
  cases c with
  | true=>exact⟨g,q,R,l.kp j f,d,i,k.kp f⟩
  | false=>exact(k.kp f).at d (.bl false) i⟩
theorem v_or(o:E3 X a ta)(m:E3 X (.BoolOp .Or (b :: rest) pos) tb):E3 X (.BoolOp .Or (a :: b :: rest) pos) (tE ta tb):=
 (Q9 o m).weak fun σ H Q n=>n.el fun g M R l j h k=>⟨g,M,_,l,j,h,fun x s r q f d p ⟨c,e,i⟩=>by
  subst e
  refine⟨c,p.bl_inv,?_⟩
  cases c with
  | true=>exact(k.kp f).at d (.bl true) i
  | false=>exact⟨g,q,R,l.kp j f,d,i,k.kp f⟩⟩
def xK(t:dQ)(ta tb:aW):aW:=fun a M R=>t a M fun c b=>if c=true then ta a b R else tb a b R
theorem YO{c:Expr}(hc:T3 X c tA)(o:E3 X a ta)(m:E3 X b tb):E3 X (.IfExp c a b pos) (xK tA ta tb):=
 (RB hc o m).weak fun σ H Q n=>n.el fun f M R i g h k=>⟨f,M,_,i,g,h,fun c p l e d j=>by
  cases c with
  | true=>exact⟨f,l,R,i.kp g e,d,j,k.kp e⟩
  | false=>exact⟨f,l,R,i.kp g e,d,j,k.kp e⟩⟩
def aF:dZ:=fun _ M R=>R [] M
def aB(ta:aW)(c:dZ):dZ:=fun a M R=>ta a M fun x b=>c a b fun xs d=>R (x :: xs) d
variable {e:Expr}{es:List Expr}{te:aW}{t:dZ}
theorem aJ:A3 X [] aF:=UL.weak fun σ H Q b=>b.el fun c M R d a h k=>k [] H [] M (Kp.refl a) a .nil h
theorem aC(q:E3 X e te)(hr:A3 X es t)(n:Bl (e :: es) X.env=(false,eval e X.env) :: Bl es X.env:=by rfl):A3 X (e :: es) (aB te t):=
 (UM q hr n).weak fun σ H Q p=>p.el fun d M R f j h k=>⟨d,M,_,f,j,h,fun x w o r i a v u=>⟨d,r,_,f.kp j i,a,u,fun xs m ws s g b c l=>
  k (x :: xs) m (o :: ws) s (i.trans g) b (.cons (v.kp a g) c) l⟩⟩
def bO(t:dZ):aW:=fun a M R=>t a M fun ws b=>ws.length<=Ai/\R (.tup ws) b
def iZ(t:dZ):aW:=fun a M R=>t a M fun ws b=>ws.length<=Ai/\aV ws b R
theorem laidT{K:Ac}{H:Hp}{M:Mm}{R:K3}{Q:VK}{p:Addr}{xs:List V}{ws:List W}(d:AM K H M)(k:Up K H M R Q)(b:H p=none)(c:aM K H M xs ws)(r:R (.tup ws) M):Q (.ref p) (aR H p (.tup xs)):=by
 obtain⟨a,e⟩:=d.tup (u:=.tup xs) b
 exact k _ _ _ _ e a (.tup cM (c.newT b)) r
theorem iJ{K:Ac}{H:Hp}{M:Mm}{R:K3}{Q:VK}{p:Addr}{xs:List V}{ws:List W}(c:AM K H M)(k:Up K H M R Q)(b:H p=none)(d:aM K H M xs ws)(r:∀ p,M p=none->R (.ref p) (put M p (.lst ws))):Q (.ref p) (aR H p (.lst xs)):=by
 obtain⟨a,e⟩:=c.laid (o:=.lst ws) (u:=.lst xs) b ⟨xs,cM,d.newL b⟩
 exact k _ _ _ _ e a (.ref p) (r p (c.nonM b))
theorem tF{K:Ac}{H:Hp}{M:Mm}{R:K3}{Q:VK}{l:Addr}{xs:List V}{ws b:List W}{y:V}{w:W}(c:AM K H M)(k:Up K H M R Q)(hl:M l=some (.lst b))(e:aM K H M xs ws)(d:AV K H M y w)(r:R w (put M l (.lst ws))):Q y (aR H l (.lst xs)):=by
 obtain⟨a,f⟩:=c.write (o:=.lst ws) (u:=.lst xs) hl ⟨xs,cM,e.wr c hl⟩
 exact k _ _ _ _ f a (d.wr c hl) r
theorem bU{x1}(h:A3 X es t):E3 X (.Tuple es x1 pos) (bO t):=
 (UP h).weak fun σ H Q c=>c.el fun d M R i g h k=>⟨d,M,_,i,g,h,fun xs j ws l f b a ⟨hl,r⟩=>⟨by rw[a.length];exact hl,fun p e=>laidT b (k.kp f) e a r⟩⟩
theorem lN(h:A3 X es t):E3 X (.List es pos) (iZ t):=
 (FV h).weak fun σ H Q c=>c.el fun d M R i g h k=>⟨d,M,_,i,g,h,fun xs j ws l f b a ⟨hl,r⟩=>⟨by rw[a.length];exact hl,fun p e=>iJ b (k.kp f) e a r⟩⟩
def bN(r:List W->Mm->K3->Prop)(t:dZ):aW:=fun a M R=>t a M fun ws b=>r ws b R
variable {x:Str}{p:Pos}{id T:String}{r:List W->Mm->K3->Prop}
theorem HW{K:Ac}{σ:SV}{H:Hp}{Q:VK}(h:up K (bN r t) σ H Q):wO (fG K r) (oT K t) σ H Q:=by
 obtain⟨c,M,R,i,f,h,k⟩:=h
 exact⟨c,M,_,i,f,h,fun xs j ws g d a b e=>⟨ws,g,R,a,b,e,k.kp d⟩⟩
theorem cP(hc:cN X (.builtin id) (fG X.K r))(i:Gl X x)(c:X.mg x=none)(d:Ct x=some (.builtin id))(g:A3 X (e :: es) t)(f:x≠"__name__":=by decide)(a:(x == ("__debug__" : Str))=false:=by decide)
  (j:Bl (e :: es) X.env=(false,eval e X.env) :: Bl es X.env:=by rfl) (b:(Fs pos (Bl es X.env)).any (·.1)=false:=by rfl):E3 X (.Call (.Name x p) (e :: es) [] pos) (bN r t):=(UY hc i c d g f a j b).weak fun _ _ _ h=>HW h
theorem jL(hc:cN X (.type T) (fG X.K r))(i:Gl X x)(c:X.mg x=none)(d:Ct x=some (.type T))(g:A3 X (e :: es) t)(f:x≠"__name__":=by decide)(a:(x == ("__debug__" : Str))=false:=by decide)
  (j:Bl (e :: es) X.env=(false,eval e X.env) :: Bl es X.env:=by rfl) (b:(Fs pos (Bl es X.env)).any (·.1)=false:=by rfl):E3 X (.Call (.Name x p) (e :: es) [] pos) (bN r t):=(UZ hc i c d g f a j b).weak fun _ _ _ h=>HW h
abbrev bL:=List W->Mm->K3->Prop
def hV(K:Ac)(sp:bL):Sp:=fun vs H Q _=>∃ ws M R,AM K H M/\aM K H M vs ws/\sp ws M R/\Up K H M R Q
variable {k:Nat}{f:Addr}{fd:Bo}{ps:List Str}{sp:bL}
def bJ(sp:bL)(t:dZ):aW:=fun a M R=>t a M fun ws b=>sp ws b R
theorem YQ{K:Ac}{σ:SV}{H:Hp}{Q:VK}(h:up K (bJ sp t) σ H Q):FW (hV K sp) [] E0 (oT K t) σ H Q:=by
 obtain⟨c,M,R,i,f,h,k⟩:=h
 exact⟨c,M,_,i,f,h,fun xs j ws g d a b e=>⟨ws,g,R,a,by rw[Gf];exact b,e,k.kp d⟩⟩
theorem YR(F:fB X.prog X.w X.K X.mg X.base gP k f fd ps (hV X.K sp))(hr:cT k X.A)(j:Gl X x)(c:X.mg x=some (.ref f))(hk:Fh X.K (.ref f)=true)(d:Binds X.K fd ps [])
  (g:A3 X (e :: es) t) (a:(x == ("__debug__" : Str))=false:=by decide) (i:Bl (e :: es) X.env=(false,eval e X.env) :: Bl es X.env:=by rfl) (b:(Fs pos (Bl es X.env)).any (·.1)=false:=by rfl) :
  E3 X (.Call (.Name x p) (e :: es) [] pos) (bJ sp t):=(UQ F hr j c hk d .nil qD g a i b).weak fun _ _ _ h=>YQ h
def gS(T:String):W->Mm->Prop
 | .str _,_=>T = "str"
 | .int _,_=>T = "int"
 | .rl _,_=>T = "list"
 | .sc _,_=>T = "list"
 | .dk _,_=>T = "dict"
 | .dt _,_=>T = "dict"
 | .fk _,_=>T = "dict"
 | .ft _,_=>T = "dict"
 | .ref p,M=>(T = "list"/\∃ ws,M p=some (.lst ws))\/(T = "dict"/\((∃ kvs,M p=some (.dK kvs))\/∃ kvs,M p=some (.dT kvs)))
 | _,_=>False
theorem HX{K:Ac}{H:Hp}{M:Mm}{v:V}{w:W}(c:AM K H M)(av:AV K H M v w)(h:gS T w M):sQ K T v H:=by
 cases av with
 | str y=>exact h
 | int i=>exact h
 | rl e n q=>exact .inl ⟨h,_,bF.of e⟩
 | sc e q=>exact .inl ⟨h,_,e.sq⟩
 | dk e n d q=>exact .inr (.inr (.inl ⟨h,.inl ⟨_,.inl e⟩⟩))
 | dt e n d q=>exact .inr (.inr (.inl ⟨h,.inr ⟨_,.inl e⟩⟩))
 | ref p=>
  rcases h with⟨e,ws,h⟩ | ⟨e,h⟩
  ·obtain⟨vs,a,_⟩:=c.lst h
   exact .inl ⟨e,vs,bF.of a⟩
  ·refine .inr (.inr (.inl ⟨e,?_⟩))
   rcases h with⟨kvs,h⟩ | ⟨kvs,h⟩
   ·obtain⟨ks,a,_⟩:=c _ _ h;exact .inl ⟨ks,.inl a⟩
   ·obtain⟨ks,a,_⟩:=c _ _ h;exact .inr ⟨ks,.inl a⟩
 | non=>exact h.elim
 | bl b=>exact h.elim
 | ty n=>exact h.elim
 | tup e q=>exact h.elim
 | fk e d q=>exact .inr (.inr (.inl ⟨h,.inl ⟨_,.inr ⟨_,e⟩⟩⟩))
 | ft e d q=>exact .inr (.inr (.inl ⟨h,.inr ⟨_,.inr ⟨_,e⟩⟩⟩))
variable {o:Expr}{to:aW}{name:Str}{apos cpos:Pos}{rm:W->List W->Mm->K3->Prop}
def nO(T:String)(r:W->List W->Mm->K3->Prop)(to:aW):aW:=fun b M R=>to b M fun x a=>gS T x a/\r x [] a R
def dR(T:String)(r:W->List W->Mm->K3->Prop)(to:aW)(t:dZ):aW:=fun a M R=>to a M fun x b=>gS T x b/\t a b fun xs c=>r x xs c R
theorem qJ(g:Mg T)(slot:Slot T name id)(d:typeOf (.builtin id)=pure (.type "method_descriptor"))(f:fD X id (jI X.K rm))(r:E3 X o to)
  (b:Ez o name X.env (eval o X.env)=eval o X.env:=by rfl) (a:(apos.endLine == cpos.line)=true:=by rfl):E3 X (.Call (.Attribute o name apos) [] [] cpos) (nO T rm to):=
 (GD g slot d f r b a).weak fun σ H Q i=>i.el fun l M R s p h k=>⟨l,M,_,s,p,h,fun x t j q m c e ⟨ty,n⟩=>⟨HX c e ty,j,[],q,R,c,e,.nil,n,k.kp m⟩⟩
theorem eW(w:Mg T)(slot:Slot T name id)(g:typeOf (.builtin id)=pure (.type "method_descriptor"))(s:fD X id (jI X.K rm))(u:E3 X o to)(B:A3 X (e :: es) t)
  (b:Ez o name X.env (eval o X.env)=eval o X.env:=by rfl)
  (f:((Fs cpos (Bl (e :: es) X.env)).all (fun x=>!x.1) && (Ly cpos (Jj [] X.env)).all (fun x=>x.1.isSome)
   && decide ((e :: es).length + ([]:List Na).length + (if ([]:List Na).isEmpty then 0 else 1) < 30))=true:=by rfl)
  (d:(apos.endLine == cpos.line)=true:=by rfl) (y:Bl (e :: es) X.env=(false,eval e X.env) :: Bl es X.env:=by rfl) (a:(Fs cpos (Bl es X.env)).any (·.1)=false:=by rfl) :
  E3 X (.Call (.Attribute o name apos) (e :: es) [] cpos) (dR T rm to t):=
 (V3 w slot g s u B b f d y a).weak fun σ H Q z=>z.el fun l M R m q h k=>⟨l,M,_,m,q,h,fun x G A C p c r ⟨ty,E⟩=>⟨HX c r ty,l,C,_,m.kp q p,c,E,fun xs F ws D n i j v=>
  ⟨A,ws,D,R,i,r.kp c n,j,v,(k.kp p).kp n⟩⟩⟩
end
section
variable {X:Cx}
theorem mN{f:Ae->Ae->Sem Ae}{r:R2}{c:R3}(i:a8 X f r)(h:∀ x y H Q M R,AM X.K H M->Up X.K H M R Q->∀ a b,c a b M R->AV X.K H M x a->AV X.K H M y b->r x y H Q):a8 X f (cB X.K c):=
 fun pins s σ H x y v u Q I d e ⟨a,b,M,R,m,l,g,j,k⟩=>i pins s σ H x y v u Q I d e (h x y H Q M R m k a b j l g)
theorem YS{r:R2}{e:R3}(j:jE X r)(h:∀ x y H Q M R,AM X.K H M->Up X.K H M R Q->∀ c d,e c d M R->AV X.K H M x c->AV X.K H M y d->r x y H Q):jE X (cB X.K e):=
 fun b a pins s σ H x y v u Q I f g ⟨c,d,M,R,n,m,i,l,k⟩=>j b a pins s σ H x y v u Q I f g (h x y H Q M R n k c d l m i)
theorem xM{f:Ae}{r:List V->Hp->VK->Prop}{a:List W->Mm->K3->Prop}(b:cN X f r)(h:∀ xs H Q M R,AM X.K H M->Up X.K H M R Q->∀ ws,a ws M R->aM X.K H M xs ws->r xs H Q):cN X f (fG X.K a):=
 fun pins s σ H xs us Q I rs ⟨ws,M,R,e,d,c,k⟩=>b pins s σ H xs us Q I rs (h xs H Q M R e k ws c d)
def mO:R3
 | .int i,.int j,M,R=>R (.int (i + j)) M
 | .tup xs,.tup ys,M,R=>xs≠[]/\xs.length + ys.length<=Ai/\R (.tup (xs ++ ys)) M
 | .ref a,.ref b,M,R=>∃ xs ys,M a=some (.lst xs)/\M b=some (.lst ys)/\xs.length + ys.length<=Ai/\aV (xs ++ ys) M R
 | .rl xs,.ref b,M,R=>∃ ys,M b=some (.lst ys)/\xs.length + ys.length<=Ai/\aV (xs ++ ys) M R
 | .ref a,.rl ys,M,R=>∃ xs,M a=some (.lst xs)/\xs.length + ys.length<=Ai/\aV (xs ++ ys) M R
 | .rl xs,.rl ys,M,R=>xs.length + ys.length<=Ai/\aV (xs ++ ys) M R
 | _,_,_,_=>False
def lO(M:Mm):W->List W->Prop
 | .ref a,ws=>M a=some (.lst ws)
 | .rl ws,b=>ws=b
 | _,_=>False
theorem mP{K:Ac}{H:Hp}{M:Mm}{v:V}{w:W}{ws:List W}(b:AM K H M)(h:AV K H M v w)(e:lO M w ws):∃ a xs,v=.ref a/\H a=some (.lst xs)/\aM K H M xs ws:=by
 cases w <;> first | exact(show False from e).elim | skip
 case ref a=>exact b.lstE e fun xs f q=>⟨_,_,h.inv,f,q⟩
 case rl zs=>exact h.rlE fun a xs c f q=>⟨_,_,c,f,by rw[<-show zs=ws from e];exact q⟩
theorem YT{P:W->W->Prop}{M:Mm}{R:K3}(b:∀ i j,R (.int (i + j)) M->P (.int i) (.int j))(c:∀ xs ys,xs≠[]/\xs.length + ys.length<=Ai/\R (.tup (xs ++ ys)) M->P (.tup xs) (.tup ys))
  (a:∀ x y xs ys,lO M x xs->lO M y ys->xs.length + ys.length<=Ai->aV (xs ++ ys) M R->P x y):∀ x y,mO x y M R->P x y:=by
 intro x y h
 cases x <;> first | exact(show False from h).elim | (cases y <;> first | exact(show False from h).elim | skip)
 case int.int=>exact b _ _ h
 case tup.tup=>exact c _ _ h
 case ref.ref=>obtain⟨xs,ys,e,f,l,r⟩:=h;exact a _ _ _ _ e f l r
 case rl.ref=>obtain⟨ys,f,l,r⟩:=h;exact a _ _ _ _ rfl f l r
 case ref.rl=>obtain⟨xs,e,l,r⟩:=h;exact a _ _ _ _ e rfl l r
 case rl.rl=>exact a _ _ _ _ rfl rfl h.1 h.2
theorem YU:a8 X (Dl .Add) (cB X.K mO):=mN (SU.or (VE.or V9)) fun x y H Q M R f k=>YT
 (fun i j h e g=>.inl ⟨i,j,e.inv,g.inv,k.at f (.int _) h⟩)
 (fun xs ys h e g=>e.tupE fun a us m n c=>g.tupE fun b vs s q d=>.inr (.inl ⟨a,b,us,vs,m,s,bV.of n,bV.of q,
  fun z=>h.1 (Im.mp (by rw[<-c.length,z];rfl)),by rw[c.length,d.length];exact h.2.1,
  fun z=>k.at f (by rw[<-m];exact e) (by rw[<-Gf xs,<-Im.mp (show ys.length=0 by rw[<-d.length,z];rfl)];exact h.2.2),
  fun _ p o=>laidT f k o (c.append d) h.2.2⟩))
 (fun v w xs ys t u l r e g=>.inr (.inr (by
  obtain⟨a,us,m,n,c⟩:=mP f e t
  obtain⟨b,vs,s,q,d⟩:=mP f g u
  exact⟨a,b,us,vs,m,s,n,q,by rw[c.length,d.length];exact l,fun p o=>iJ f k o (c.append d) r⟩)))
def nP(C:Int->Int->Prop)(g:Int->Int->W):R3
 | .int i,.int j,M,R=>C i j/\R (g i j) M
 | _,_,_,_=>False
theorem YV{C:Int->Int->Prop}{g:Int->Int->W}{P:W->W->Prop}{M:Mm}{R:K3}(c:∀ i j,C i j/\R (g i j) M->P (.int i) (.int j))(x y:W)(h:nP C g x y M R):P x y:=by
 cases x <;> first | exact(show False from h).elim | (cases y <;> first | exact(show False from h).elim | exact c _ _ h)
theorem tG{f:Ae->Ae->Sem Ae}{C:Int->Int->Prop}{g:Int->Int->V}{g':Int->Int->W}(b:a8 X f (rI C g))(e:∀ H M i j,AV X.K H M (g i j) (g' i j)):a8 X f (cB X.K (nP C g')):=
 mN b fun x y H Q M R d k=>YV fun i j h c a=>⟨i,j,c.inv,a.inv,h.1,k.at d (e H M i j) h.2⟩
def lP(g:Int->Int->W):R3
 | .int i,.int j,M,R=>R (g i j) M
 | _,_,_,_=>False
theorem YW{g:Int->Int->W}{P:W->W->Prop}{M:Mm}{R:K3}(c:∀ i j,R (g i j) M->P (.int i) (.int j))(x y:W)(h:lP g x y M R):P x y:=by
 cases x <;> first | exact(show False from h).elim | (cases y <;> first | exact(show False from h).elim | exact c _ _ h)
theorem oX{f:Ae->Ae->Sem Ae}{g:Int->Int->V}{g':Int->Int->W}(b:a8 X f (kG g))(e:∀ H M i j,AV X.K H M (g i j) (g' i j)):a8 X f (cB X.K (lP g')):=
 mN b fun x y H Q M R d k=>YW fun i j h c a=>⟨i,j,c.inv,a.inv,k.at d (e H M i j) h⟩
abbrev mQ:R3:=lP fun i j=>.int (i - j)
theorem nQ:a8 X (Dl .Sub) (cB X.K mQ):=oX SW fun _ _ _ _=>.int _
abbrev kQ:R3:=nP qE fun i j=>.int (i / j)
theorem lQ:a8 X (Dl .FloorDiv) (cB X.K kQ):=tG XE fun _ _ _ _=>.int _
abbrev iK:R3:=nP (fun _ j=>0 < j) fun i j=>.int (i % j)
theorem i0:a8 X (Dl .Mod) (cB X.K iK):=tG SY fun _ _ _ _=>.int _
abbrev kR:R3:=nP FG fun i j=>.int (i ^ j.toNat)
theorem lR:a8 X (Dl .Pow) (cB X.K kR):=tG S4 fun _ _ _ _=>.int _
abbrev HY:R3:=nP (fun _ j=>0<=j) fun i j=>.int (i / 2 ^ j.toNat)
theorem YX:a8 X (Dl .RShift) (cB X.K HY):=tG S5 fun _ _ _ _=>.int _
abbrev HZ:R3:=lP fun i j=>.int (Builtin.bitAnd i j)
theorem YY:a8 X (Dl .BitAnd) (cB X.K HZ):=oX S6 fun _ _ _ _=>.int _
def qK:R3
 | .int i,.int j,M,R=>(mH i j\/oP i j)/\R (.int (i * j)) M
 | .ref a,.int n,M,R=>∃ xs,M a=some (.lst xs)/\-(2 ^ 63)<=n/\n < 2 ^ 63/\xs.length * n.toNat<=Ai/\aV (Br n.toNat xs).flatten M R
 | .rl xs,.int n,M,R=>-(2 ^ 63)<=n/\n < 2 ^ 63/\xs.length * n.toNat<=Ai/\aV (Br n.toNat xs).flatten M R
 | _,_,_,_=>False
theorem YZ{P:W->W->Prop}{M:Mm}{R:K3}(b:∀ i j,(mH i j\/oP i j)/\R (.int (i * j)) M->P (.int i) (.int j))
  (a:∀ x n xs,lO M x xs->-(2 ^ 63)<=n/\n < 2 ^ 63/\xs.length * n.toNat<=Ai/\aV (Br n.toNat xs).flatten M R->P x (.int n)):∀ x y,qK x y M R->P x y:=by
 intro x y h
 cases x <;> first | exact(show False from h).elim | (cases y <;> first | exact(show False from h).elim | skip)
 case int.int=>exact b _ _ h
 case ref.int=>obtain⟨xs,e,h⟩:=h;exact a _ _ _ e h
 case rl.int=>exact a _ _ _ rfl h
theorem Y0:a8 X (Dl .Mult) (cB X.K qK):=mN (SX.or (XD.or WC)) fun x y H Q M R d k=>YZ
 (fun i j h c b=>h.1.elim (fun z=>.inl ⟨i,j,c.inv,b.inv,z,k.at d (.int _) h.2⟩) fun z=>.inr (.inl ⟨i,j,c.inv,b.inv,z,k.at d (.int _) h.2⟩))
 (fun o n xs g h c b=>.inr (.inr (by
  obtain⟨a,us,m,f,e⟩:=mP d c g
  exact⟨a,n,us,m,b.inv,f,h.1,h.2.1,by rw[e.length];exact h.2.2.1,fun p l=>iJ d k l (e.flatRep _) h.2.2.2⟩)))
def j4:W->Mm->K3->Prop
 | .int i,M,R=>R (.int (-i)) M
 | _,_,_=>False
theorem lS:p7 X (unaryOp .USub) (HU X.K j4):=by
 rintro pins s σ H x v Q I a ⟨b,M,R,d,c,h,k⟩
 cases b <;> first | exact(show False from h).elim | skip
 case int i=>exact S8 pins s σ H _ v Q I a ⟨i,c.inv,k.at d (.int _) h⟩
def oY:R3:=lP fun i j=>.bl (decide (i < j))
theorem tH:a8 X (Cf .Lt) (cB X.K oY):=oX TF fun _ _ _ _=>.bl _
abbrev qL:R3:=lP fun i j=>.bl (decide (i<=j))
theorem tI:a8 X (Cf .LtE) (cB X.K qL):=oX TH fun _ _ _ _=>.bl _
abbrev IA:R3:=lP fun i j=>.bl (decide (j < i))
theorem Y1:a8 X (Cf .Gt) (cB X.K IA):=oX TJ fun _ _ _ _=>.bl _
abbrev IC:R3:=lP fun i j=>.bl (decide (j<=i))
theorem Y2:a8 X (Cf .GtE) (cB X.K IC):=oX TL fun _ _ _ _=>.bl _
mutual
inductive Snap(M:Mm):W->Lb->Prop
 | non:Snap M .non .none
 | bl (b:Bool):Snap M (.bl b) (.bool b)
 | int (i:Int):Snap M (.int i) (.int i)
 | str (x:Str):Snap M (.str x) (.str x)
 | tup {ws:List W} {ds:List Lb}:i4 M ws ds->Snap M (.tup ws) (.tuple ds)
 | rl {ws:List W} {ds:List Lb}:i4 M ws ds->Snap M (.rl ws) (.list ds)
 | ref {a:Addr} {ws:List W} {ds:List Lb}:M a=some (.lst ws)->i4 M ws ds->Snap M (.ref a) (.list ds)
inductive i4(M:Mm):List W->List Lb->Prop
 | nil:i4 M [] []
 | cons {w:W} {ws:List W} {d:Lb} {ds:List Lb}:Snap M w d->i4 M ws ds->i4 M (w :: ws) (d :: ds)
end
section
variable {pins:List (Addr×Obj)}{σ:SV}{H:Hp}{s:Ah}{M:Mm}
theorem i4.reads(I:Inv X pins σ H s)(G:AM X.K H M){ws:List W}{p:List Lb}(h:i4 M ws p):∀ {vs:List V} {us:List Ae},aM X.K H M vs ws->aZ vs us->∃ c,ReadsAll s.heap us p c:=
 i4.rec (motive_1:=fun w d _=>∀ {v:V} {u:Ae},AV X.K H M v w->RelV v u->∃ c,Reads s.heap u d c) (motive_2:=fun ws p _=>∀ {vs:List V} {us:List Ae},aM X.K H M vs ws->aZ vs us->∃ c,ReadsAll s.heap us p c)
  (fun av r=>by rw[show _=_ from av.inv] at r;rw[show _=_ from r];exact⟨_,.none⟩)
  (fun b _ _ av r=>by rw[show _=_ from av.inv] at r;rw[show _=_ from r];exact⟨_,.bool b⟩)
  (fun i _ _ av r=>by rw[show _=_ from av.inv] at r;exact r.elim fun t r=>by rw[r];exact⟨_,.int i t⟩)
  (fun x _ _ av r=>by rw[show _=_ from av.inv] at r;exact r.elim fun t r=>by rw[r];exact⟨_,.str x t⟩)
  (fun _ l _ _ av r=>av.tupE fun a xs e f q=>by
   rw[e] at r;rw[show _=_ from r]
   obtain⟨its,g,⟨o,m,k,n,j⟩,_⟩:=I.tuple (bV.of f)
   exact(l q g).elim fun c z=>⟨_,.tuple m k j (by simpa using z)⟩)
  (fun _ l _ _ av r=>av.rlE fun a xs e f q=>by
   rw[e] at r;rw[show _=_ from r]
   obtain⟨its,g,pl,_⟩:=I.list (bF.of f)
   obtain⟨o,m,k,n,j⟩:=pl.isList
   exact(l q g).elim fun c z=>⟨_,.list m k j (by simpa using z)⟩)
  (fun F _ l _ _ av r=>G.lstE F fun vs f q=>by
   rw[show _=_ from av.inv] at r;rw[show _=_ from r]
   obtain⟨its,g,pl,_⟩:=I.list (bF.of f)
   obtain⟨o,m,k,n,j⟩:=pl.isList
   exact(l q g).elim fun c z=>⟨_,.list m k j (by simpa using z)⟩)
  (fun av r=>by cases av;cases r;exact⟨_,.nil⟩)
  (fun _ _ A B _ _ av r=>by
   cases av with
   | cons a b=>
    cases r with
    | cons D J=>exact(A a D).elim fun x C=>(B b J).elim fun y E=>⟨_,.cons C E⟩) h
theorem Snap.reads(I:Inv X pins σ H s)(a:AM X.K H M){w:W}{d:Lb}{v:V}{u:Ae}(h:Snap M w d)(av:AV X.K H M v w)(r:RelV v u):∃ b,Reads s.heap u d b:=
 (i4.reads I a (.cons h .nil) (.cons av .nil) (.cons r .nil)).elim fun _ z=>by
  cases z with
  | cons q _=>exact⟨_,q⟩
end
def qM(c:Bool):R3:=fun x y M R=>∃ a b,Snap M x a/\Snap M y b/\HB a/\HB b/\R (.bl (if c then !PyData.eqv a b else Jx a b)) M
def rEq(a:Bool):R3
 | .int i,.int j,M,R=>R (.bl (if a then !decide (i=j) else decide (i=j))) M
 | .str i,.str j,M,R=>R (.bl (if a then !decide (i=j) else decide (i=j))) M
 | .bl i,.bl j,M,R=>R (.bl (if a then !decide (i=j) else decide (i=j))) M
 | x,y,M,R=>qM a x y M R
theorem ID{i j:Int}:decide (V.int i=V.int j)=decide (i=j):=by rw[Ef];simp
theorem tJ{i j:Str}:decide (V.str i=V.str j)=decide (i=j):=by rw[Ef];simp
theorem IE{i j:Bool}:decide (V.bl i=V.bl j)=decide (i=j):=by rw[Ef];simp
theorem IF{n:Bool}{P:W->W->Prop}{M:Mm}{R:K3}(c:∀ i j,R (.bl (if n then !decide (i=j) else decide (i=j))) M->P (.int i) (.int j))(d:∀ i j,R (.bl (if n then !decide (i=j) else decide (i=j))) M->P (.str i) (.str j))
  (b:∀ i j,R (.bl (if n then !decide (i=j) else decide (i=j))) M->P (.bl i) (.bl j)) (a:∀ x y,qM n x y M R->P x y) (x y:W) (h:rEq n x y M R):P x y:=by
 cases x <;> first | exact a _ _ h | (cases y <;> first | exact c _ _ h | exact d _ _ h | exact b _ _ h | exact a _ _ h)
theorem sV{i j:V}{x y:V}(e:x=i)(f:y=j)(h:sN i j=true):sN x y=true:=by rw[e,f];exact h
theorem dV{i j:V}{x y:V}{b:Bool}{Q:Bool->Prop}(e:x=i)(f:y=j)(h:decide (i=j)=b)(q:Q b):Q (decide (x=y)):=by rw[e,f,h];exact q
theorem Y3(j:X.A.units + 64 < Es):a8 X (Cf .Eq) (cB X.K (qM false)):=by
 rintro pins s σ H x y v u Q I c d ⟨m,o,M,R,a,h,f,⟨r,n,g,e,b,i,q⟩,k⟩
 obtain⟨p,l⟩:=g.reads I a h c
 obtain⟨bs,rb⟩:=e.reads I a f d
 exact SeqAt.compareEq_reads l rb b.1 i.1 (Nat.lt_of_le_of_lt (Mp (Bs (Nat.min_le_left _ _) (Bs b.2 (by decide))) _) j) ⟨.bl _,H,I,rfl,k.at a (.bl _) q⟩
theorem Y4(j:X.A.units + 64 < Es):a8 X (Cf .NotEq) (cB X.K (qM true)):=by
 rintro pins s σ H x y v u Q I c d ⟨m,o,M,R,a,h,f,⟨r,n,g,e,b,i,q⟩,k⟩
 obtain⟨p,l⟩:=g.reads I a h c
 obtain⟨bs,rb⟩:=e.reads I a f d
 exact SeqAt.compareNe_reads l rb b.1 i.1 (Nat.lt_of_le_of_lt (Mp (Bs (Nat.min_le_left _ _) (Bs b.2 (by decide))) _) j) ⟨.bl _,H,I,rfl,k.at a (.bl _) q⟩
theorem fI(f:X.A.units + 64 < Es):a8 X (Cf .Eq) (cB X.K (rEq false)):=mN (TB.or (Y3 f)) fun x y H Q M R d k=>IF
 (fun i j h c a=>.inl ⟨sV c.inv a.inv rfl,dV (Q:=fun b=>Q (.bl b) H) c.inv a.inv ID (k.at d (.bl _) h)⟩)
 (fun i j h c a=>.inl ⟨sV c.inv a.inv rfl,dV (Q:=fun b=>Q (.bl b) H) c.inv a.inv tJ (k.at d (.bl _) h)⟩)
 (fun i j h c a=>.inl ⟨sV c.inv a.inv rfl,dV (Q:=fun b=>Q (.bl b) H) c.inv a.inv IE (k.at d (.bl _) h)⟩)
 (fun e g h c a=>.inr ⟨e,g,M,R,d,c,a,h,k⟩)
theorem j5(f:X.A.units + 64 < Es):a8 X (Cf .NotEq) (cB X.K (rEq true)):=mN (TC.or (Y4 f)) fun x y H Q M R d k=>IF
 (fun i j h c a=>.inl ⟨sV c.inv a.inv rfl,dV (Q:=fun b=>Q (.bl !b) H) c.inv a.inv ID (k.at d (.bl _) h)⟩)
 (fun i j h c a=>.inl ⟨sV c.inv a.inv rfl,dV (Q:=fun b=>Q (.bl !b) H) c.inv a.inv tJ (k.at d (.bl _) h)⟩)
 (fun i j h c a=>.inl ⟨sV c.inv a.inv rfl,dV (Q:=fun b=>Q (.bl !b) H) c.inv a.inv IE (k.at d (.bl _) h)⟩)
 (fun e g h c a=>.inr ⟨e,g,M,R,d,c,a,h,k⟩)
def wK:aD->W
 | .inl i=>.int i
 | .inr x=>.str x
def aY{κ:Type}[DecidableEq κ](kvs:List (κ×W))(k:κ):Option W:=(kvs.find? fun a=>decide (a.1=k)).map (·.2)
def b9{κ:Type}[DecidableEq κ](kvs:List (κ×W))(k:κ)(v:W):List (κ×W):=
 if (kvs.any fun a=>decide (a.1=k))=true then kvs.map (fun a=>if a.1=k then(a.1,v) else a) else kvs ++ [(k,v)]
theorem AV.key{K:Ac}{H:Hp}{M:Mm}{v:V}{k:aD}(h:AV K H M v (wK k)):v=kV k:=by
 cases k <;> exact h.inv
theorem aM.keys{K:Ac}{H:Hp}{M:Mm}:∀ {vs:List V} {k:List aD},aM K H M vs (k.map wK)->vs=k.map kV
 | _,[],h=>by cases h;rfl
 | _,a :: r,h=>by
  cases h with
  | cons x y=>rw[x.key,aM.keys y];rfl
section
variable {κ:Type}[DecidableEq κ]{K:Ac}{H:Hp}{M:Mm}
theorem tK{ks:List (κ×V)}{kvs:List (κ×W)}(h:bK K H M κ ks kvs)(k:κ):(aY kvs k=none/\fZ ks k=none)\/∃ v w,aY kvs k=some w/\fZ ks k=some v/\AV K H M v w:=by
 induction h with
 | nil=>exact .inl ⟨rfl,rfl⟩
 | @cons p q ps qs r t a=>
  by_cases e:p.1=k
  ·refine .inr ⟨p.2,q.2,?_,?_,r.2⟩
   ·unfold aY;rw[Cs,decide_eq_true (by rw[<-r.1];exact e)];rfl
   ·exact sR e
  ·have b:¬ q.1=k:=by rw[<-r.1];exact e
   have l:aY (q :: qs) k=aY qs k:=by unfold aY;rw[Cs,decide_eq_false b]
   rw[l,sS e]
   exact a
theorem Y5{ks:List (κ×V)}{kvs:List (κ×W)}(h:bK K H M κ ks kvs)(k:κ):(ks.any fun a=>decide (a.1=k))=(kvs.any fun a=>decide (a.1=k)):=by
 induction h with
 | nil=>rfl
 | cons r t b=>rw[Em,Em,b,r.1]
theorem Y6{ks:List (κ×V)}{kvs:List (κ×W)}{v:V}{w:W}{k:κ}(av:AV K H M v w)(h:bK K H M κ ks kvs):bK K H M κ (ks.map (fun a=>if a.1=k then(a.1,v) else a)) (kvs.map (fun a=>if a.1=k then(a.1,w) else a)):=by
 induction h with
 | nil=>exact .nil
 | @cons p q ps qs r t b=>
  rw[Au,Au]
  refine .cons ?_ b
  by_cases e:p.1=k
  ·rw[if_pos e,if_pos (by rw[<-r.1];exact e)];exact⟨r.1,av⟩
  ·rw[if_neg e,if_neg (by rw[<-r.1];exact e)];exact r
theorem Y7{ks:List (κ×V)}{kvs:List (κ×W)}{v:V}{w:W}{k:κ}(av:AV K H M v w)(h:bK K H M κ ks kvs):bK K H M κ (ks ++ [(k,v)]) (kvs ++ [(k,w)]):=by
 induction h with
 | nil=>exact .cons ⟨rfl,av⟩ .nil
 | cons r t a=>exact .cons r a
theorem tL{ks:List (κ×V)}{kvs:List (κ×W)}{v:V}{w:W}(h:bK K H M κ ks kvs)(k:κ)(av:AV K H M v w):bK K H M κ (dY ks k v) (b9 kvs k w):=by
 unfold dY b9
 rw[Y5 h k]
 split
 ·exact Y6 av h
 ·exact Y7 av h
end
def eA(M:Mm):W->W->Option W->Prop
 | .ref a,y,o=>(∃ kvs k,M a=some (.dK kvs)/\y=wK k/\o=aY kvs k)\/∃ kvs k,M a=some (.dT kvs)/\y=.tup (k.map wK)/\o=aY kvs k
 | .dk kvs,y,o=>∃ k,y=wK k/\o=aY kvs k
 | .dt kvs,y,o=>∃ k,y=.tup (k.map wK)/\o=aY kvs k
 | .fk kvs,y,o=>∃ k,y=wK k/\o=aY kvs k
 | .ft kvs,y,o=>∃ k,y=.tup (k.map wK)/\o=aY kvs k
 | _,_,_=>False
theorem xN{K:Ac}{H:Hp}{M:Mm}{a:Addr}{y:V}{k:aD}{ks:List (aD×V)}{kvs:List (aD×W)}(d:Rd H a (.dK ks))(q:bK K H M aD ks kvs)(e:AV K H M y (wK k)):(aY kvs k=none/\g8 H a y none)\/∃ v w,aY kvs k=some w/\g8 H a y (some v)/\AV K H M v w:=by
 rw[e.key]
 rcases tK q k with⟨c,b⟩ | ⟨v,w,c,b,av⟩
 ·exact .inl ⟨c,by rw[<-b];exact .inl ⟨_,_,d,rfl,rfl⟩⟩
 ·exact .inr ⟨v,w,c,by rw[<-b];exact .inl ⟨_,_,d,rfl,rfl⟩,av⟩
theorem xO{K:Ac}{H:Hp}{M:Mm}{a:Addr}{y:V}{k:List aD}{ks:List (List aD×V)}{kvs:List (List aD×W)}(g:Rd H a (.dT ks))(q:bK K H M (List aD) ks kvs)(i:AV K H M y (.tup (k.map wK))):(aY kvs k=none/\g8 H a y none)\/∃ v w,aY kvs k=some w/\g8 H a y (some v)/\AV K H M v w:=
 i.tupE fun b xs e d h=>by
  rw[h.keys] at d
  rcases tK q k with⟨c,f⟩ | ⟨v,w,c,f,av⟩
  ·exact .inl ⟨c,by rw[<-f];exact .inr ⟨_,_,_,g,e,d,rfl⟩⟩
  ·exact .inr ⟨v,w,c,by rw[<-f];exact .inr ⟨_,_,_,g,e,d,rfl⟩,av⟩
theorem tM{K:Ac}{H:Hp}{M:Mm}{x y:V}{d j:W}{o:Option W}(i:AM K H M)(b:AV K H M x d)(c:AV K H M y j)(h:eA M d j o):∃ a,x=.ref a/\((o=none/\g8 H a y none)\/∃ v w,o=some w/\g8 H a y (some v)/\AV K H M v w):=by
 cases d <;> first | exact(show False from h).elim | skip
 case ref a=>
  rcases h with⟨kvs,k,e,rfl,rfl⟩ | ⟨kvs,k,e,rfl,rfl⟩
  ·obtain⟨ks,g,q⟩:=i _ _ e
   exact⟨a,b.inv,xN (.inl g) q c⟩
  ·obtain⟨ks,g,q⟩:=i _ _ e
   exact⟨a,b.inv,xO (.inl g) q c⟩
 all_goals
  obtain⟨k,rfl,rfl⟩:=h
  have b:=b.inv
 case dk=>obtain⟨a,ks,e,f,_,q⟩:=b;exact⟨a,e,xN (.inl f) q c⟩
 case dt=>obtain⟨a,ks,e,f,_,q⟩:=b;exact⟨a,e,xO (.inl f) q c⟩
 case fk=>obtain⟨a,ks,e,f,q⟩:=b;exact⟨a,e,xN (.inr f) q c⟩
 case ft=>obtain⟨a,ks,e,f,q⟩:=b;exact⟨a,e,xO (.inr f) q c⟩
def aO:R3
 | .tup ws,.int i,M,R=>∃ w,bI ws i=some w/\R w M
 | .rl ws,.int i,M,R=>∃ w,bI ws i=some w/\R w M
 | .sc ws,.int i,M,R=>∃ w,bI ws i=some w/\R w M
 | .dk kvs,y,M,R=>∃ w,eA M (.dk kvs) y (some w)/\R w M
 | .dt kvs,y,M,R=>∃ w,eA M (.dt kvs) y (some w)/\R w M
 | .fk kvs,y,M,R=>∃ w,eA M (.fk kvs) y (some w)/\R w M
 | .ft kvs,y,M,R=>∃ w,eA M (.ft kvs) y (some w)/\R w M
 | .str z,.int i,M,R=>z.length<=Ai/\∃ c,bI z.cps.toList i=some c/\R (.str ⟨#[c]⟩) M
 | .ref a,.int i,M,R=>(∃ ws w,M a=some (.lst ws)/\bI ws i=some w/\R w M)\/∃ w,eA M (.ref a) (.int i) (some w)/\R w M
 | .ref a,y,M,R=>∃ w,eA M (.ref a) y (some w)/\R w M
 | _,_,_,_=>False
theorem xP{K:Ac}{H:Hp}{M:Mm}{vs:List V}{ws:List W}{i:Int}{w:W}(q:aM K H M vs ws)(h:bI ws i=some w):∃ v,bI vs i=some v/\AV K H M v w:=by
 unfold bI at h ⊢
 rw[q.length]
 cases e:fY ws.length i with
 | none=>rw[e] at h;cases h
 | some j=>
  rw[e] at h
  exact q.getW (i:=j) h
theorem Y8(j:X.A.units + 1 < Es):jE X (fun x y H Q=>∃ a v,x=.ref a/\g8 H a y (some v)/\Q v H):=by
 intro c b pins s σ H x y v u Q I e f h k
 obtain⟨a,z,rfl,g,q⟩:=h
 cases e
 exact tail_any (WK I g) PySem.F.slot_dict_getitem.lookup (WE j I g f fun l m i d=>⟨z,H,i,d,q⟩) k
theorem Y9{P:W->W->Prop}{M:Mm}{R:K3}(f:∀ ws i w,bI ws i=some w->R w M->P (.tup ws) (.int i))(j:∀ ws i w,bI ws i=some w->R w M->P (.sc ws) (.int i))
  (b:∀ x ws i w,lO M x ws->bI ws i=some w->R w M->P x (.int i)) (d:∀ z i,z.length<=Ai/\(∃ c,bI z.cps.toList i=some c/\R (.str ⟨#[c]⟩) M)->P (.str z) (.int i))
  (a:∀ x y w,eA M x y (some w)->R w M->P x y) (x y:W) (h:aO x y M R):P x y:=by
 cases x
 case non | bl | int | ty=>exact(show False from h).elim
 case dk | dt | fk | ft=>exact h.elim fun w h=>a _ _ _ h.1 h.2
 all_goals cases y <;> first | exact(show False from h).elim | skip
 case tup.int=>obtain⟨w,e,r⟩:=h;exact f _ _ _ e r
 case sc.int=>obtain⟨w,e,r⟩:=h;exact j _ _ _ e r
 case rl.int=>obtain⟨w,e,r⟩:=h;exact b _ _ _ _ rfl e r
 case str.int=>exact d _ _ h
 case ref.int=>exact h.elim (fun⟨ws,w,e,g,r⟩=>b _ _ _ _ e g r) fun⟨w,e,r⟩=>a _ _ _ e r
 all_goals obtain⟨w,e,r⟩:=h;exact a _ _ _ e r
theorem ZA(o:X.A.units + 1 < Es):jE X (cB X.K aO):=YS (VJ.or (VL.or (VM.or (Y8 o)))) fun x y H Q M R j k=>Y9
 (fun ws i w h r d b=>d.tupE fun a xs e f q=>let ⟨z,e3,av⟩:=xP q h;.inr (.inl ⟨a,xs,i,z,e,b.inv,bV.of f,e3,k.at j av r⟩))
 (fun ws i w h r d b=>d.scE fun a xs e f q=>let ⟨z,e3,av⟩:=xP q h;.inl ⟨a,xs,i,z,e,b.inv,f.sq,e3,k.at j av r⟩)
 (fun l ws i w m h r d b=>let ⟨a,xs,e,f,q⟩:=mP j d m;let ⟨z,e3,av⟩:=xP q h;.inl ⟨a,xs,i,z,e,b.inv,bF.of f,e3,k.at j av r⟩)
 (fun z i h d b=>let ⟨c,e,r⟩:=h.2;.inr (.inr (.inl ⟨z,i,c,d.inv,b.inv,h.1,e,k.at j (.str _) r⟩)))
 (fun l s w g r d b=>.inr (.inr (.inr (by
  obtain⟨a,e,g⟩:=tM j d b g
  rcases g with⟨z,_⟩ | ⟨z,p,n,g',av⟩
  ·cases z
  ·exact⟨a,z,e,g',k.at j av (by rw[<-Cp n];exact r)⟩))))
variable {a b:Expr}{ta tb:aW}{pos:Pos}
theorem aS(e:X.A.units + 1 < Es)(d:E3 X a ta)(c:E3 X b tb)(f:GA b:=by exact fun _ _=>rfl):E3 X (.Subscript a b pos) (aE aO ta tb):=(VF (ZA e) d c f).weak fun _ _ _ h=>tD h
def dW(ws:List W)(lo hi:Option Int):List W:=(ws.drop (HT.sIx ws.length 0 lo)).take (HT.sIx ws.length ws.length hi - HT.sIx ws.length 0 lo)
def nR:W->Option Int->Option Int->Mm->K3->Prop
 | .rl ws,lo,hi,M,R=>aV (dW ws lo hi) M R
 | .sc ws,lo,hi,M,R=>aV (dW ws lo hi) M R
 | .ref a,lo,hi,M,R=>∃ ws,M a=some (.lst ws)/\aV (dW ws lo hi) M R
 | .tup ws,lo,hi,M,R=>¬ (HT.sIx ws.length 0 lo=0/\HT.sIx ws.length ws.length hi=ws.length)/\R (.tup (dW ws lo hi)) M
 | _,_,_,_,_=>False
theorem tN{K:Ac}{H:Hp}{M:Mm}{vs:List V}{ws:List W}{lo hi:Option Int}(q:aM K H M vs ws):aM K H M (mK vs lo hi) (dW ws lo hi):=by
 unfold mK dW
 rw[q.length]
 exact(q.drop _).take _
def ZC(K:Ac)(r:W->Option Int->Option Int->Mm->K3->Prop):V->Option Int->Option Int->Hp->VK->Prop:=fun x lo hi H Q=>∃ a M R,AM K H M/\AV K H M x a/\r a lo hi M R/\Up K H M R Q
theorem ZD:sP X (ZC X.K nR):=by
 rintro pins s σ H x v i l lo hi sl Q I d m pl g ⟨n,M,R,c,j,h,k⟩
 cases n <;> first | exact(show False from h).elim | skip
 case tup ws=>exact j.tupE fun a xs e f q=>VC pins s σ H _ v i l lo hi sl Q I d m pl g ⟨a,xs,e,bV.of f,by rw[q.length];exact h.1,fun p b=>laidT c k b (tN q) h.2⟩
 case sc ws=>exact j.scE fun a xs e f q=>wU pins s σ H _ v i l lo hi sl Q I d m pl g ⟨a,xs,e,f.sq,fun p b=>iJ c k b (tN q) h⟩
 case rl ws=>exact j.rlE fun a xs e f q=>wU pins s σ H _ v i l lo hi sl Q I d m pl g ⟨a,xs,e,bF.of f,fun p b=>iJ c k b (tN q) h⟩
 case ref a=>
  obtain⟨ws,e,r⟩:=h
  exact c.lstE e fun vs f q=>wU pins s σ H _ v i l lo hi sl Q I d m pl g ⟨a,vs,j.inv,bF.of f,fun p b=>iJ c k b (tN q) r⟩
abbrev nS:=S3->Mm->(Option Int->Mm->Prop)->Prop
def oZ(K:Ac)(t:nS):TO:=fun σ H Q=>∃ (c:S3) (M:Mm) (R:Option Int->Mm->Prop),AS K H M σ c/\AM K H M/\t c M R/\∀ o b a,Kp H M b a->AM K b a->R o a->Q o b
theorem oZ.el{K:Ac}{H:Hp}{σ:SV}{C:Prop}{t:nS}{Q:Option Int->Hp->Prop}(h:oZ K t σ H Q)(c:∀ d M R,AS K H M σ d->AM K H M->t d M R->(∀ o f e,Kp H M f e->AM K f e->R o e->Q o f)->C):C:=by obtain⟨d,M,R,a,b,h,k⟩:=h;exact c d M R a b h k
def xQ:nS:=fun _ M Q=>Q none M
def nT(t:aW):nS:=fun a M Q=>t a M fun x b=>∃ i,x=.int i/\Q (some i) b
theorem ZE:PO X none (oZ X.K xQ):=U7.weak fun σ H Q b=>b.el fun c M R d a h k=>k none H M (Kp.refl a) a h
theorem qN(h:E3 X a ta):PO X (some a) (oZ X.K (nT ta)):=(U8 h).weak fun σ H Q c=>c.el fun d M R m l h k=>⟨d,M,_,m,l,h,fun x o n p f b j ⟨i,e,g⟩=>by
 subst e;exact⟨i,j.inv,k _ _ _ f b g⟩⟩
def ZF(ta:aW)(tl b:nS):aW:=fun a M R=>ta a M fun x d=>tl a d fun l e=>b a e fun u c=>nR x l u c R
def eF:W->Bool
 | .non=>true
 | .bl _=>true
 | .int _=>true
 | .str _=>true
 | _=>false
def xR:W->W->Bool
 | .non,.non=>true
 | .bl a,.bl b=>a == b
 | .bl a,.int b=>(if a then 1 else 0) == b
 | .int a,.bl b=>a == (if b then 1 else 0)
 | .int a,.int b=>a == b
 | .str a,.str b=>a == b
 | _,_=>false
def inW(x:W)(ws:List W):Bool:=ws.any fun y=>xR y x
theorem AV.flat{K:Ac}{H:Hp}{M:Mm}{v:V}{w:W}(h:AV K H M v w)(f:eF w=true):kI v=true:=by cases h <;> first | rfl | exact f
def xS:W->V
 | .non=>.non
 | .bl b=>.bl b
 | .int i=>.int i
 | .str x=>.str x
 | _=>.non
theorem AV.flv{K:Ac}{H:Hp}{M:Mm}{v:V}{w:W}(h:AV K H M v w)(f:eF w=true):v=xS w:=by
 cases w <;> first | exact h.inv | exact absurd f Ap
theorem ZG:∀ {w z:W},eF w=true->eF z=true->kJ (xS w) (xS z)=xR w z:=by
 intro w z f g
 cases w <;> first | exact absurd f Ap | (cases z <;> first | rfl | exact absurd g Ap)
theorem AV.eq{K:Ac}{H:Hp}{M:Mm}{v u:V}{w z:W}(h:AV K H M v w)(b:AV K H M u z)(f:eF w=true)(a:eF z=true):kJ v u=xR w z:=by
 rw[h.flv f,b.flv a];exact ZG f a
theorem aM.inn{K:Ac}{H:Hp}{M:Mm}{u:V}{z:W}(hz:AV K H M u z)(a:eF z=true):∀ {vs:List V} {ws:List W},aM K H M vs ws->ws.all eF=true->vs.all kI=true/\inV u vs=inW z ws
 | _,_,.nil,_=>⟨rfl,rfl⟩
 | _,_,.cons x r,f=>by
  rw[Ib,Ce] at f
  obtain⟨c,b⟩:=aM.inn hz a r f.2
  refine⟨by rw[Ib,x.flat f.1,c];rfl,?_⟩
  unfold inV inW at b ⊢
  rw[Em,Em,b,x.eq hz f.1 a]
def occ(i j:Str):Bool:=!(Hs j i 0 j.length 1).isEmpty
def rIn(b:Bool):R3
 | .str i,.str j,M,R=>R (.bl (if b then !occ i j else occ i j)) M
 | x,.tup ws,M,R=>eF x=true/\ws.all eF=true/\R (.bl (if b then !inW x ws else inW x ws)) M
 | x,.rl ws,M,R=>eF x=true/\ws.all eF=true/\R (.bl (if b then !inW x ws else inW x ws)) M
 | x,.ref a,M,R=>(∃ ws,M a=some (.lst ws)/\eF x=true/\ws.all eF=true/\R (.bl (if b then !inW x ws else inW x ws)) M)\/∃ o,eA M (.ref a) x o/\R (.bl (if b then !o.isSome else o.isSome)) M
 | x,.dk kvs,M,R=>∃ o,eA M (.dk kvs) x o/\R (.bl (if b then !o.isSome else o.isSome)) M
 | x,.dt kvs,M,R=>∃ o,eA M (.dt kvs) x o/\R (.bl (if b then !o.isSome else o.isSome)) M
 | x,.fk kvs,M,R=>∃ o,eA M (.fk kvs) x o/\R (.bl (if b then !o.isSome else o.isSome)) M
 | x,.ft kvs,M,R=>∃ o,eA M (.ft kvs) x o/\R (.bl (if b then !o.isSome else o.isSome)) M
 | _,_,_,_=>False
def IG(M:Mm):W->List W->Prop
 | .tup ws,a=>ws=a
 | x,ws=>lO M x ws
theorem II{K:Ac}{H:Hp}{M:Mm}{v:V}{w:W}{ws:List W}(c:AM K H M)(h:AV K H M v w)(e:IG M w ws):∃ a xs,v=.ref a/\(bF K H a xs\/bV K H a xs)/\aM K H M xs ws:=by
 cases w
 case tup zs=>exact h.tupE fun a xs b f q=>⟨_,_,b,.inr (bV.of f),by rw[<-show zs=ws from e];exact q⟩
 case ref | rl=>obtain⟨a,xs,b,f,q⟩:=mP c h e;exact⟨a,xs,b,.inl (bF.of f),q⟩
 all_goals exact(show False from e).elim
theorem IJ{n:Bool}{P:W->W->Prop}{M:Mm}{R:K3}(d:∀ i j,R (.bl (if n then !occ i j else occ i j)) M->P (.str i) (.str j))
  (c:∀ x y ws,IG M y ws->eF x=true/\ws.all eF=true/\R (.bl (if n then !inW x ws else inW x ws)) M->P x y)
  (b:∀ x y o,eA M y x o->R (.bl (if n then !o.isSome else o.isSome)) M->P x y) (x y:W) (h:rIn n x y M R):P x y:=by
 cases y
 case non | bl | int | ty | sc=>exfalso;cases x <;> exact h
 case str=>cases x <;> first | exact(show False from h).elim | exact d _ _ h
 case tup=>exact c _ _ _ rfl (by cases x <;> exact h)
 case rl=>exact c _ _ _ rfl (by cases x <;> exact h)
 case ref a=>
  have h:(∃ ws,M a=some (.lst ws)/\eF x=true/\ws.all eF=true/\R (.bl (if n then !inW x ws else inW x ws)) M)\/∃ o,eA M (.ref a) x o/\R (.bl (if n then !o.isSome else o.isSome)) M:=by cases x <;> exact h
  exact h.elim (fun⟨ws,e,h⟩=>c _ _ _ e h) fun⟨o,g,r⟩=>b _ _ _ g r
 case dk kvs=>have h:∃ o,eA M (.dk kvs) x o/\R (.bl (if n then !o.isSome else o.isSome)) M:=(by cases x <;> exact h);exact h.elim fun o h=>b _ _ _ h.1 h.2
 case dt kvs=>have h:∃ o,eA M (.dt kvs) x o/\R (.bl (if n then !o.isSome else o.isSome)) M:=(by cases x <;> exact h);exact h.elim fun o h=>b _ _ _ h.1 h.2
 case fk kvs=>have h:∃ o,eA M (.fk kvs) x o/\R (.bl (if n then !o.isSome else o.isSome)) M:=(by cases x <;> exact h);exact h.elim fun o h=>b _ _ _ h.1 h.2
 case ft kvs=>have h:∃ o,eA M (.ft kvs) x o/\R (.bl (if n then !o.isSome else o.isSome)) M:=(by cases x <;> exact h);exact h.elim fun o h=>b _ _ _ h.1 h.2
def IK(n:Bool):R2:=fun x y H Q=>∃ a o,y=.ref a/\g8 H a x o/\Q (.bl (if n then !o.isSome else o.isSome)) H
theorem ZH(e:X.A.units + 1 < Es):a8 X (Cf .In) (IK false):=by
 rintro pins s σ H x y v u Q I b c ⟨a,o,rfl,g,q⟩
 cases c
 exact WG e I g b fun f d=>⟨.bl _,H,d,rfl,q⟩
theorem ZI(e:X.A.units + 1 < Es):a8 X (Cf .NotIn) (IK true):=by
 rintro pins s σ H x y v u Q I b c ⟨a,o,rfl,g,q⟩
 cases c
 exact WH e I g b fun f d=>⟨.bl _,H,d,rfl,q⟩
theorem IL{K:Ac}{H:Hp}{M:Mm}{x y:V}{b d:W}{o:Option W}(j:AM K H M)(i:AV K H M x b)(f:AV K H M y d)(h:eA M b d o):∃ a c,x=.ref a/\g8 H a y c/\c.isSome=o.isSome:=by
 obtain⟨a,e,⟨rfl,g⟩ | ⟨v,w,rfl,g,_⟩⟩:=tM j i f h
 ·exact⟨a,_,e,g,rfl⟩
 ·exact⟨a,_,e,g,rfl⟩
theorem lU(m:X.A.units + 1 < Es):a8 X (Cf .In) (cB X.K (rIn false)):=mN (TM.or (VU.or (ZH m))) fun x y H Q M R d k=>IJ
 (fun i j h b c=>.inl ⟨i,j,b.inv,c.inv,k.at d (.bl _) h⟩)
 (fun l n ws e h b c=>let ⟨a,xs,e1,f,q⟩:=II d c e;.inr (.inl ⟨a,xs,e1,f,b.flat h.1,(aM.inn b h.1 q h.2.1).1,by rw[(aM.inn b h.1 q h.2.1).2];exact k.at d (.bl _) h.2.2⟩))
 (fun l n o g r b c=>let ⟨a,o',e,g,z⟩:=IL d c b g;.inr (.inr ⟨a,o',e,g,by rw[z];exact k.at d (.bl _) r⟩))
theorem jM(m:X.A.units + 1 < Es):a8 X (Cf .NotIn) (cB X.K (rIn true)):=mN (TN.or (VW.or (ZI m))) fun x y H Q M R d k=>IJ
 (fun i j h b c=>.inl ⟨i,j,b.inv,c.inv,k.at d (.bl _) h⟩)
 (fun l n ws e h b c=>let ⟨a,xs,e1,f,q⟩:=II d c e;.inr (.inl ⟨a,xs,e1,f,b.flat h.1,(aM.inn b h.1 q h.2.1).1,by rw[(aM.inn b h.1 q h.2.1).2];exact k.at d (.bl _) h.2.2⟩))
 (fun l n o g r b c=>let ⟨a,o',e,g,z⟩:=IL d c b g;.inr (.inr ⟨a,o',e,g,by rw[z];exact k.at d (.bl _) r⟩))
def cV:List W->Mm->K3->Prop
 | [.tup ws],M,R=>R (.int ws.length) M
 | [.rl ws],M,R=>R (.int ws.length) M
 | [.sc ws],M,R=>R (.int ws.length) M
 | [.dk kvs],M,R=>R (.int kvs.length) M
 | [.str z],M,R=>z.length<=Ai/\R (.int z.length) M
 | [.ref a],M,R=>(∃ ws,M a=some (.lst ws)/\R (.int ws.length) M)\/∃ kvs,M a=some (.dK kvs)/\R (.int kvs.length) M
 | _,_,_=>False
theorem ZJ{P:List W->Prop}{M:Mm}{R:K3}(f:∀ ws,R (.int ws.length) M->P [.tup ws])(g:∀ ws,R (.int ws.length) M->P [.sc ws])(b:∀ x ws,lO M x ws->R (.int ws.length) M->P [x])
  (c:∀ z,z.length<=Ai/\R (.int z.length) M->P [.str z]) (i:∀ kvs,R (.int kvs.length) M->P [.dk kvs]) (d:∀ a kvs,M a=some (.dK kvs)->R (.int kvs.length) M->P [.ref a]) (l:List W) (h:cV l M R):P l:=by
 match l,h with
 | [.tup _],h=>exact f _ h
 | [.rl _],h=>exact b _ _ rfl h
 | [.sc _],h=>exact g _ h
 | [.dk _],h=>exact i _ h
 | [.str _],h=>exact c _ h
 | [.ref _],h=>exact h.elim (fun⟨ws,e,r⟩=>b _ _ e r) fun⟨ws,e,r⟩=>d _ _ e r
theorem d3:cN X (.builtin "len") (fG X.K cV):=xM (VX.or (VY.or W2)) fun xs H Q M R d k=>ZJ
 (fun ws h b=>b.oneE fun v c av=>av.tupE fun a us e f q=>.inl ⟨_,_,iG c e,.inr (bV.of f),by rw[q.length];exact k.at d (.int _) h⟩)
 (fun ws h b=>b.oneE fun v c av=>av.scE fun a us e f q=>.inl ⟨_,_,iG c e,.inl f.sq,by rw[q.length];exact k.at d (.int _) h⟩)
 (fun x ws g h b=>b.oneE fun v c av=>let ⟨a,us,e,f,q⟩:=mP d av g;.inl ⟨_,_,iG c e,.inl (bF.of f),by rw[q.length];exact k.at d (.int _) h⟩)
 (fun z h b=>b.oneE fun v c av=>.inr (.inl ⟨z,iG c av.inv,h.1,k.at d (.int _) h.2⟩))
 (fun kvs h b=>b.oneE fun v c av=>let ⟨a,ks,e,f,_,q⟩:=av.inv;.inr (.inr ⟨a,ks,iG c e,f,by rw[Cu q];exact k.at d (.int _) h⟩))
 (fun a kvs g h b=>b.oneE fun v c av=>let ⟨ks,f,q⟩:=d _ _ g;.inr (.inr ⟨a,ks,iG c av.inv,f,by rw[Cu q];exact k.at d (.int _) h⟩))
def lV:List W->Mm->K3->Prop
 | [.tup ws],M,R=>aV ws M R
 | [.rl ws],M,R=>aV ws M R
 | [.sc ws],M,R=>aV ws M R
 | [.dk kvs],M,R=>aV (kvs.map fun b=>wK b.1) M R
 | [.ref a],M,R=>(∃ ws,M a=some (.lst ws)/\aV ws M R)\/∃ kvs,M a=some (.dK kvs)/\aV (kvs.map fun b=>wK b.1) M R
 | _,_,_=>False
theorem IM{K:Ac}{H:Hp}{M:Mm}{ks:List (aD×V)}{kvs:List (aD×W)}(h:bK K H M aD ks kvs):aM K H M (ks.map fun a=>kV a.1) (kvs.map fun a=>wK a.1):=by
 induction h with
 | nil=>exact .nil
 | @cons p q ps qs r t b=>
  refine .cons ?_ b
  show AV K H M (kV p.1) (wK q.1)
  rw[r.1]
  cases q.1 with
  | inl i=>exact .int i
  | inr x=>exact .str x
theorem ZK{P:List W->Prop}{M:Mm}{R:K3}(f:∀ ws,aV ws M R->P [.tup ws])(g:∀ ws,aV ws M R->P [.sc ws])(c:∀ x ws,lO M x ws->aV ws M R->P [x])
  (i:∀ kvs:List (aD×W),aV (kvs.map fun b=>wK b.1) M R->P [.dk kvs]) (d:∀ a kvs,M a=some (.dK kvs)->aV (kvs.map fun b=>wK b.1) M R->P [.ref a]) (l:List W) (h:lV l M R):P l:=by
 match l,h with
 | [.tup _],h=>exact f _ h
 | [.rl _],h=>exact c _ _ rfl h
 | [.sc _],h=>exact g _ h
 | [.dk _],h=>exact i _ h
 | [.ref _],h=>exact h.elim (fun⟨ws,e,r⟩=>c _ _ e r) fun⟨ws,e,r⟩=>d _ _ e r
theorem xT(hc:X.calm=true):cN X (.type "list") (fG X.K lV):=xM (VZ.or (XT hc)) fun xs H Q M R g k=>ZK
 (fun ws h c=>c.oneE fun v d av=>av.tupE fun a us e f q=>.inl ⟨_,_,iG d e,.inr (bV.of f),fun p b=>iJ g k b q h⟩)
 (fun ws h c=>c.oneE fun v d av=>av.scE fun a us e f q=>.inl ⟨_,_,iG d e,.inl f.sq,fun p b=>iJ g k b q h⟩)
 (fun x ws i h c=>c.oneE fun v d av=>let ⟨a,us,e,f,q⟩:=mP g av i;.inl ⟨_,_,iG d e,.inl (bF.of f),fun p b=>iJ g k b q h⟩)
 (fun kvs h c=>c.oneE fun v d av=>let ⟨a,ks,e,f,_,q⟩:=av.inv;.inr ⟨a,ks,iG d e,f,fun p b=>iJ g k b (IM q) h⟩)
 (fun a kvs i h c=>c.oneE fun v d av=>let ⟨ks,f,q⟩:=g _ _ i;.inr ⟨a,ks,iG d av.inv,f,fun p b=>iJ g k b (IM q) h⟩)
def pA:List W->Mm->K3->Prop
 | [.tup ws],M,R=>R (.tup ws) M
 | [.rl ws],M,R=>R (.tup ws) M
 | [.ref a],M,R=>∃ ws,M a=some (.lst ws)/\R (.tup ws) M
 | _,_,_=>False
theorem ZL{P:List W->Prop}{M:Mm}{R:K3}(b:∀ ws,R (.tup ws) M->P [.tup ws])(a:∀ x ws,lO M x ws->R (.tup ws) M->P [x])(l:List W)(h:pA l M R):P l:=by
 match l,h with
 | [.tup _],h=>exact b _ h
 | [.rl _],h=>exact a _ _ rfl h
 | [.ref _],h=>exact h.elim fun ws h=>a _ _ h.1 h.2
theorem ZM:cN X (.type "tuple") (fG X.K pA):=xM V0 fun xs H Q M R c k=>ZL
 (fun ws h b=>b.oneE fun v d av=>av.tupE fun a us e f q=>⟨_,_,iG d e,.inr ⟨bV.of f,k.at c (by rw[<-e];exact av) h⟩⟩)
 (fun x ws i h b=>b.oneE fun v d av=>let ⟨a,us,e,f,q⟩:=mP c av i;⟨_,_,iG d e,.inl ⟨bF.of f,fun p g=>laidT c k g q h⟩⟩)
def xU:List W->Mm->K3->Prop
 | [.int i],M,R=>i.natAbs.log2 < 1920/\R (.str (toString i)) M
 | _,_,_=>False
theorem ZN:cN X (.type "str") (fG X.K xU):=by
 rintro pins s σ H xs us Q I rs ⟨ws,M,R,b,a,h,k⟩
 match ws,h with
 | [.int i],h=>
  obtain⟨v,rfl,av⟩:=a.one
  cases av
  exact T1 pins s σ H _ us Q I rs ⟨i,rfl,h.1,k.at b (.str _) h.2⟩
def bools(bs:List Bool):List W:=bs.map W.bl
theorem aM.bools{K:Ac}{H:Hp}{M:Mm}:∀ {bs:List Bool} {vs:List V},aM K H M vs (L3.bools bs)->vs=bs.map V.bl
 | [],_,h=>by cases h;rfl
 | b :: r,_,h=>by
  cases h with
  | cons x y=>cases x;rw[aM.bools y];rfl
def xV:List W->Mm->K3->Prop
 | [.ref a],M,R=>∃ bs,M a=some (.lst (bools bs))/\R (.bl (bs.all id)) M
 | [.rl ws],M,R=>∃ bs,ws=bools bs/\R (.bl (bs.all id)) M
 | _,_,_=>False
theorem IP(hc:X.calm=true):cN X (.builtin "all") (fG X.K xV):=by
 rintro pins s σ H xs us Q I rs ⟨ws,M,R,c,b,h,k⟩
 match ws,h with
 | [.ref a],h=>
  obtain⟨v,rfl,av⟩:=b.one
  cases av
  obtain⟨bs,e,r⟩:=h
  obtain⟨vs,f,q⟩:=c.lst e
  rw[q.bools] at f
  exact GZ hc pins s σ H _ us Q I rs ⟨a,bs,rfl,bF.of f,k.at c (.bl _) r⟩
 | [.rl ws],h=>
  obtain⟨v,rfl,av⟩:=b.one
  obtain⟨bs,rfl,r⟩:=h
  cases av with
  | rl f _ q=>
   rw[q.bools] at f
   exact GZ hc pins s σ H _ us Q I rs ⟨_,bs,rfl,bF.of f,k.at c (.bl _) r⟩
def fE:W->List W->Mm->K3->Prop
 | .ref l,[y],M,R=>∃ ws,M l=some (.lst ws)/\ws.length < Ai/\R .non (put M l (.lst (ws ++ [y])))
 | _,_,_,_=>False
theorem jN:fD X "list.append" (jI X.K fE):=by
 rintro pins s σ H x xs v us Q I c rs ⟨g,ws,M,R,b,i,a,h,k⟩
 match g,ws,h with
 | .ref l,[y],h=>
  obtain⟨z,rfl,d⟩:=a.one
  cases i
  obtain⟨ws,e,hl,r⟩:=h
  obtain⟨vs,f,q⟩:=b.lst e
  exact GF pins s σ H _ _ v us Q I c rs ⟨l,vs,z,rfl,rfl,f,by rw[q.length];exact hl,tF b k e (q.append (.cons d .nil)) .non r⟩
def rPop:W->List W->Mm->K3->Prop
 | .ref l,[],M,R=>∃ ws w,M l=some (.lst (ws ++ [w]))/\R w (put M l (.lst ws))
 | _,_,_,_=>False
theorem IQ:fD X "list.pop" (jI X.K rPop):=by
 rintro pins s σ H x xs v us Q I c rs ⟨g,ws,M,R,b,j,a,h,k⟩
 match g,ws,h with
 | .ref l,[],h=>
  cases a
  cases j
  obtain⟨ws,w,e,r⟩:=h
  obtain⟨vs,f,q⟩:=b.lst e
  have hl:=q.length
  rw[Am,Bn] at hl
  obtain⟨z,hz,d⟩:=q.getW (i:=ws.length) (w:=w) (by simp)
  refine V6 pins s σ H _ _ v us Q I c rs ⟨l,vs,z,rfl,rfl,f,by rw[hl];exact hz,tF b k e ?_ d r⟩
  have:=q.dropLast
  rw[List.dropLast_concat] at this
  exact this
def tO:aW:=fun _ M R=>nM [] M R
def nU:aW:=fun _ M R=>oU [] M R
theorem IS:E3 X (.Dict [] [] pos) tO:=WO.weak fun σ H Q ⟨e,M,R,f,c,h,k⟩ p b=>by
 obtain⟨a,d⟩:=c.laid (o:=.dK []) (u:=.dK []) b ⟨[],cM,.nil⟩
 exact k _ _ _ _ d a (.ref p) (h p (c.nonM b))
theorem qO:E3 X (.Dict [] [] pos) nU:=WQ.weak fun σ H Q ⟨e,M,R,f,c,h,k⟩ p b=>by
 obtain⟨a,d⟩:=c.laid (o:=.dT []) (u:=.dT []) b ⟨[],cM,.nil⟩
 exact k _ _ _ _ d a (.ref p) (h p (c.nonM b))
end
abbrev P3(X:Cx)(st:Stmt)(t:aH):Prop:=PS X st (qI X.K t)
abbrev kS(X:Cx)(st:List Stmt)(t:aH):Prop:=fW X st (qI X.K t)
abbrev eX:=W->S3->Mm->(S3->Mm->Prop)->Prop
abbrev mR:=List W->S3->Mm->(S3->Mm->Prop)->Prop
def gF(K:Ac)(g:eX):TG:=fun v b H Q=>∃ w a M R,AV K H M v w/\AS K H M b a/\AM K H M/\g w a M R/\iF K H M R Q
def pB(K:Ac)(g:mR):jX:=fun vs b H Q=>∃ ws a M R,aM K H M vs ws/\AS K H M b a/\AM K H M/\g ws a M R/\iF K H M R Q
theorem gF.el{K:Ac}{H:Hp}{f:SV}{C:Prop}{t:eX}{v:V}{Q:SV->Hp->Prop}(h:gF K t v f H Q)(c:∀ w e M R,AV K H M v w->AS K H M f e->AM K H M->t w e M R->iF K H M R Q->C):C:=by obtain⟨w,e,M,R,a,b,d,h,k⟩:=h;exact c w e M R a b d h k
theorem pB.el{K:Ac}{H:Hp}{f:SV}{C:Prop}{t:mR}{v:List V}{Q:SV->Hp->Prop}(h:pB K t v f H Q)(c:∀ w e M R,aM K H M v w->AS K H M f e->AM K H M->t w e M R->iF K H M R Q->C):C:=by obtain⟨w,e,M,R,a,b,d,h,k⟩:=h;exact c w e M R a b d h k
section
variable {X:Cx}{pos:Pos}
theorem _root_.L2.PG.weak{e:Expr}{t t':TG}(h:PG X e t)(k:∀ v b H Q,t' v b H Q->t v b H Q):PG X e t':=fun a s b H v u Q I r q=>h a s b H v u Q I r (k v b H Q q)
theorem _root_.L2.jD.weak{e:List Expr}{t t':jX}(h:jD X e t)(k:∀ v b H Q,t' v b H Q->t v b H Q):jD X e t':=fun a s b H v u Q I r q=>h a s b H v u Q I r (k v b H Q q)
theorem iF.at{K:Ac}{H:Hp}{M:Mm}{R:S3->Mm->Prop}{Q:SV->Hp->Prop}(h:iF K H M R Q)(c:AM K H M){a:SV}{b:S3}(d:AS K H M a b)(r:R b M):Q a H:=h a H b M (Kp.refl c) c d r
def bC(i:Nat):eX:=fun w a M R=>R (a.set i (some w)) M
theorem IT{i:Nat}{x:Str}(b:X.N.Nodup)(hi:X.N[i]? = some x)(d:Loc X.env.scope x)(hf:X.fn x=true\/X.env.scope.names.lookup x=some .local:=by first | exact .inl rfl | exact .inr rfl | assumption):PG X (.Name x pos) (gF X.K (bC i)):=
 (RT b hi d hf).weak fun v f H Q e=>e.el fun w g M R av a c h k=>k.at c (a.set av i) h
def i5:mR:=fun ws a M R=>ws=[]/\R a M
def dX(t:eX)(u:mR):mR:=fun ws c M R=>match ws with
 | w :: r=>t w c M fun a b=>u r a b R
 | []=>False
theorem kT:jD X [] (pB X.K i5):=RW.weak fun vs c H Q z=>z.el fun ws d M R av a b h k=>⟨aM.nil_ (by rw[<-h.1];exact av),k.at b a h.2⟩
theorem eJ{e:Expr}{es:List Expr}{t:eX}{u:mR}(m:PG X e (gF X.K t))(j:jD X es (pB X.K u))
  (g:(Gd (e :: es) X.env).map (·.2)=Lu e X.env :: (Gd es X.env).map (·.2):=by rfl):jD X (e :: es) (pB X.K (dX t u)):=
 (RX m j g).weak fun vs s H Q p=>p.el fun ws n M R av i f h k=>by
  cases av with
  | nil=>exact(show False from h).elim
  | cons x r=>exact⟨_,_,rfl,_,n,M,_,x,i,f,h,fun l q a o d c b h'=>⟨_,a,o,R,r.kp f d,b,c,h',k.kp d⟩⟩
def i6(n:Nat)(g:mR):eX:=fun w b M R=>match w with
 | .tup ws=>ws.length=n/\g ws b M R
 | .rl ws=>ws.length=n/\g ws b M R
 | .ref a=>∃ ws,M a=some (.lst ws)/\ws.length=n/\g ws b M R
 | _=>False
theorem kU{es:List Expr}{k:Nat}{t:mR}{n:Nat}(hc:X.calm=true)(h:jD X es (pB X.K t))
  (j:(Gd es X.env).length=n:=by rfl) (c:(Gd es X.env).findIdx? (·.1)=none:=by rfl):PG X (.Tuple es k pos) (gF X.K (i6 n t)):=by
 rintro b s i H v u Q I r ⟨w,m,M,R,av,g,d,hw,l⟩
 cases w <;> first | exact(show False from hw).elim | skip
 case tup ws=>exact av.tupE fun a xs e f q=>RZ hc h j c b s i H _ u Q I r ⟨a,xs,e,bV.of f,by rw[q.length];exact hw.1,_,m,M,R,q,g,d,hw.2,l⟩
 case rl ws=>exact av.rlE fun a xs e f q=>G2 hc h j c b s i H _ u Q I r ⟨a,xs,e,bF.of f,by rw[q.length];exact hw.1,_,m,M,R,q,g,d,hw.2,l⟩
 case ref a=>exact hw.elim fun ws hw=>d.lstE hw.1 fun xs f q=>G2 hc h j c b s i H _ u Q I r ⟨a,xs,av.inv,bF.of f,by rw[q.length];exact hw.2.1,_,m,M,R,q,g,d,hw.2.2,l⟩
def hW(te:aW)(g:eX):aH:=fun D a M=>te a M fun x b=>g x a b D.nx
theorem ZO{K:Ac}{te:aW}{g:eX}{D:lF}{e:SV}{H:Hp}(h:qI K (hW te g) D e H):sI (up K te) (gF K g) D e H:=by
 obtain⟨f,M,n,b,c,h,k⟩:=h
 exact⟨f,M,_,b,c,h,fun x o i l d a j m=>⟨i,f,l,n.nx,j,b.kp c d,a,m,k.nx.kp d⟩⟩
theorem kW{tg e:Expr}{te:aW}{g:eX}(b:E3 X e te)(d:PG X tg (gF X.K g))(a:swapsWithSole [tg] e pos.line X.env=pure false:=by rfl)(hw:swappedStores [tg] e X.env=pure none:=by rfl)
  (c:(Gd [tg] X.env).map (·.2)=[Lu tg X.env]:=by rfl):P3 X (.Assign [tg] e pos) (hW te g):=(R4 b d a hw c).weak fun _ _ _ h=>ZO h
def a9(i:Nat)(te:aW):aH:=fun D a M=>te a M fun x b=>D.nx (a.set i (some x)) b
theorem ZP{i:Nat}{x:Str}{e:Expr}{te:aW}{a:Pos}(m:X.N.Nodup)(hi:X.N[i]? = some x)(q:Loc X.env.scope x)(o:E3 X e te)(j:Hg e (some (.Name x a)) pos.line X.env=pure false:=by rfl)(hf:X.fn x=true\/X.env.scope.names.lookup x=some .local:=by first | exact .inl rfl | exact .inr rfl | assumption) :
  P3 X (.Assign [.Name x a] e pos) (a9 i te):=(R5 m hi q o j hf).weak fun D v H n=>n.el fun p M t c d h k=>⟨p,M,_,c,d,h,fun y r s u f b l g=>k.nx _ _ _ _ f b ((c.kp d f).set l i) g⟩
def qP(o i v:W)(M:Mm)(Q:Mm->Prop):Prop:=match o with
 | .ref a=>(∃ ws k j,i=.int k/\M a=some (.lst ws)/\fY ws.length k=some j/\Q (put M a (.lst (ws.set j v))))\/
   (∃ kvs k,i=wK k/\M a=some (.dK kvs)/\kvs.length < Ai/\Q (put M a (.dK (b9 kvs k v))))\/
   ∃ kvs k,i=.tup (k.map wK)/\M a=some (.dT kvs)/\kvs.length < Ai/\Q (put M a (.dT (b9 kvs k v)))
 | _=>False
def ZQ(K:Ac):sG:=fun o i v H Q=>∃ c wi d M R,AV K H M o c/\AV K H M i wi/\AV K H M v d/\AM K H M/\qP c wi d M R/\∀ a b,Kp H M a b->AM K a b->R b->Q a
theorem set_dict(f:X.A.units + 1 < Es):sH X (fun o i v H Q=>∃ a b,o=.ref a/\mM H a i v b/\Q b):=by
 intro c s n H o i v p l u Q I j e g h
 obtain⟨a,b,rfl,d,q⟩:=h
 cases j
 exact WI f I d e g fun m k=>⟨b,k,q⟩
theorem IU{κ:Type}[DecidableEq κ]{K:Ac}{H:Hp}{M:Mm}{ks:List (κ×V)}{kvs:List (κ×W)}{n:κ}{v:V}{b:W}{a:Addr}{o:MO}{u:HO}(c:AM K H M)(e:M a=some o)(q:bK K H M κ ks kvs)(av:AV K H M v b){d:MO}:bK K (aR H a u) (put M a d) κ (dY ks n v) (b9 kvs n b):=Paired.mapP (tL q n av) fun p q z=>⟨z.1,z.2.wr c e⟩
theorem ZR(F:X.A.units + 1 < Es):sH X (ZQ X.K):=by
 rintro d s E H o i v y z u Q I C x B ⟨J,wi,D,M,R,w,l,av,g,h,k⟩
 cases J <;> first | exact(show False from h).elim | skip
 rename_i a
 rcases h with⟨ws,n,j,m,e,G,r⟩ | ⟨kvs,n,m,e,hl,r⟩ | ⟨kvs,n,m,e,hl,r⟩
 ·rw[m] at l
  obtain⟨vs,f,q⟩:=g.lst e
  obtain⟨c,p⟩:=g.write (o:=.lst (ws.set j D)) (u:=.lst (vs.set j v)) e ⟨_,cM,(aM.set av j q).wr g e⟩
  exact VP d s E H _ _ v y z u Q I C x B ⟨a,vs,n,j,w.inv,l.inv,f,by rw[q.length];exact G,k _ _ p c r⟩
 ·rw[m] at l
  obtain⟨ks,f,q⟩:=g _ _ e
  obtain⟨c,p⟩:=g.write (o:=.dK (b9 kvs n D)) (u:=.dK (dY ks n v)) e ⟨_,cM,IU g e q av⟩
  exact set_dict F d s E H _ _ v y z u Q I C x B ⟨a,_,w.inv,by rw[l.key];exact mM.k f (by rw[Cu q];exact hl),k _ _ p c r⟩
 ·rw[m] at l
  obtain⟨ks,f,q⟩:=g _ _ e
  obtain⟨c,p⟩:=g.write (o:=.dT (b9 kvs n D)) (u:=.dT (dY ks n v)) e ⟨_,cM,IU g e q av⟩
  exact l.tupE fun b xs O L N=>set_dict F d s E H _ _ v y z u Q I C x B ⟨a,_,w.inv,by rw[O];exact mM.t f (by rw[<-N.keys];exact L) (by rw[Cu q];exact hl),k _ _ p c r⟩
def j6(f b:aW):eX:=fun w a M R=>f a M fun o d=>b a d fun i c=>qP o i w c fun e=>R a e
theorem w_sub{o i:Expr}{n m:aW}(F:X.A.units + 1 < Es)(B:E3 X o n)(hi:E3 X i m)
  (z:∀ v,Lu (.Subscript o i pos) X.env v=(do
   let d <-Hr [v] (eval o X.env)
   let l <-Hr [v,d] (eval i X.env)
   My pos
   Hr [v,d,l] (setItem d l v)
   release [v,d,l] []):=by intro _;rfl):PG X (.Subscript o i pos) (gF X.K (j6 n m)):=
 (R1 B hi (ZR F) z).weak fun v N H Q C=>C.el fun w p M R av g c h k=>⟨p,M,_,g,c,h,fun o G t D e a s y=>⟨p,D,_,g.kp c e,a,y,fun i L wi u f b E x=>
  ⟨t,wi,w,u,_,s.kp a f,E,(av.kp c e).kp a f,b,x,fun I J q j r=>k _ _ _ _ ((e.trans f).trans q) j (((g.kp c e).kp a f).kp b q) r⟩⟩⟩
def c7:aH:=fun D a M=>D.nx a M
def aN(t u:aH):aH:=fun D a M=>t {D with nx:=u D} a M
variable {st:Stmt}{rest:List Stmt}{t u:aH}{e:Expr}{te:aW}
theorem dE:kS X [] c7:=RF.weak fun D d H c=>c.el fun e M f a b h k=>k.nx.at b a h
theorem aP(i:P3 X st t)(f:kS X rest u):kS X (st :: rest) (aN t u):=(RG i f).weak fun D q H g=>g.el fun l M m e j h k=>
 ⟨l,M,_,e,j,h,⟨fun o p a n d c b h'=>⟨a,n,m,b,c,h',k.kp d⟩,k.rt,k.bk,k.ct⟩⟩
theorem aT(a:P3 X st t):kS X [st] t:=RH a
def cX(te:aW):aH:=fun D a M=>te a M fun _ b=>D.nx a b
theorem dG(g:E3 X e te)(f:Hg e none pos.line X.env=pure false:=by rfl):P3 X (.Expr e pos) (cX te):=(RJ g f).weak fun D m H j=>j.el fun i M n c d h k=>
 ⟨i,M,_,c,d,h,fun v l w o b a av r=>k.nx _ _ _ _ b a (c.kp d b) r⟩
def bR(te:aW):aH:=fun D a M=>te a M D.rt
theorem bW(b:E3 X e te):P3 X (.Return (some e) pos) (bR te):=(RL b).weak fun D g H f=>f.el fun d M i a c h k=>⟨d,M,_,a,c,h,k.rt⟩
def xW:aH:=fun D _ M=>D.rt .non M
theorem IV:P3 X (.Return none pos) xW:=RN.weak fun D d H b=>b.el fun e M f c a h k=>k.rt.at a .non h
def cG(c:dQ)(t u:aH):aH:=fun D a M=>c a M fun b d=>if b=true then t D a d else u D a d
theorem cS{c:Expr}{a b:List Stmt}{tc:dQ}(hc:T3 X c tc)(o:kS X a t)(n:kS X b u):P3 X (.If c a b pos) (cG tc t u):=(RP hc o n).weak fun D r H p=>p.el fun i M m f g h k=>
 ⟨i,M,_,f,g,h,fun b q j e d l=>by
  cases b with
  | true=>exact⟨i,j,m,f.kp g e,d,l,k.kp e⟩
  | false=>exact⟨i,j,m,f.kp g e,d,l,k.kp e⟩⟩
theorem tP:P3 X st (fun _ _ _=>False):=RS.weak fun D d H a=>a.el fun e M f b c h k=>h.elim
def tQ(c:dQ)(tb:aH):aH:=fun D e M=>∃ g:Nat->S3->Mm->Prop,(∃ m,g m e M)/\∀ m e M,g m e M->
 c e M fun b i=>if b=true then tb {D with nx:=fun d h=>∃ f a,f < m/\Sub a h/\g f d a,ct:=fun d h=>∃ f a,f < m/\Sub a h/\g f d a,bk:=D.nx} e i else D.nx e i
theorem xX{c:Expr}{n:List Stmt}{tc:dQ}{tb:aH}(Q:PassesOwn (Bu X.prog X.w) X.A X.env X.xe)(hc:T3 X c tc)(O:kS X n tb):P3 X (.While c n [] pos) (tQ tc tb):=
 (R7 Q hc O).weak fun D W H ⟨S,M,F,J,E,⟨q,⟨m,P⟩,h⟩,k⟩=>by
  refine⟨fun m g i=>∃ a d,Kp H M i d/\AM X.K i d/\AS X.K i d g a/\q m a d,⟨m,S,M,Kp.refl E,E,J,P⟩,?_⟩
  rintro m T V ⟨l,G,v,p,o,N⟩
  refine⟨l,G,_,o,p,h m l G N,fun b R x r t u=>?_⟩
  cases b with
  | false=>exact k.nx _ _ _ _ (v.trans r) t (o.kp p r) u
  | true=>
   have u:tb {F with nx:=fun a d=>∃ f e,f < m/\Sub e d/\q f a e,ct:=fun a d=>∃ f e,f < m/\Sub e d/\q f a e,bk:=F.nx} l x:=u
   refine⟨fun g i=>∃ f a d,f < m/\Kp H M i d/\AM X.K i d/\AS X.K i d g a/\q f a d,fun g i ⟨f,a,d,B,s,C,I,L⟩=>⟨f,B,a,d,s,C,I,L⟩,l,x,_,o.kp p r,t,u,?_⟩
   have j:iF X.K R x (fun a d=>∃ f e,f < m/\Sub e d/\q f a e) (fun g i=>∃ f a d,f < m/\Kp H M i d/\AM X.K i d/\AS X.K i d g a/\q f a d):=
    fun g i a d U z y ⟨f,e,B,s,C⟩=>⟨f,a,e,B,((v.trans r).trans U).sub s,z.sub s,y.sub s,C⟩
   exact⟨j,(k.rt.kp v).kp r,(k.nx.kp v).kp r,j⟩
abbrev h8:=S3->Mm->(List W->(Mm->Prop)->Mm->Prop)->Prop
structure i7(K:Ac)(H0:Hp)(M0:Mm)(J:It)(ws:List W)(keep:Mm->Prop):Prop where
 go:∀ i H M,Kp H0 M0 H M->AM K H M->keep M->i < ws.length->J.go i H
 stop:∀ H M,Kp H0 M0 H M->AM K H M->keep M->J.stop ws.length H
 yld:∀ i H M x H',Kp H0 M0 H M->AM K H M->keep M->i < ws.length->J.yld i H x H'->∃ w,ws[i]? = some w/\Kp H M H' M/\AM K H' M/\AV K H' M x w
def gH(K:Ac)(wi:h8):TI:=fun e H d=>∃ (c:S3) (M:Mm) (R:List W->(Mm->Prop)->Mm->Prop),AS K H M e c/\AM K H M/\wi c M R/\∀ J a ws keep b,Kp H M a b->AM K a b->i7 K a b J ws keep->R ws keep b->d J a
theorem gH.el{K:Ac}{H:Hp}{g:SV}{C:Prop}{t:h8}{Q:It->Hp->Prop}(h:gH K t g H Q)(c:∀ e M R,AS K H M g e->AM K H M->t e M R->(∀ J d ws keep f,Kp H M d f->AM K d f->i7 K d f J ws keep->R ws keep f->Q J d)->C):C:=by obtain⟨e,M,R,a,b,h,k⟩:=h;exact c e M R a b h k
theorem _root_.L2.PI.weak{tg iter:Expr}{t t':TI}(h:PI X tg iter t)(k:∀ b H R,t' b H R->t b H R):PI X tg iter t':=fun a s b H R I q=>h a s b H R I (k b H R q)
def IW(ws:List W)(keep:Mm->Prop)(g:eX)(tb:aH)(D:D3)(b:S3)(M:Mm):Prop:=
 ∃ d:Nat->S3->Mm->Prop,d 0 b M/\(∀ i b M,i<=ws.length->d i b M->keep M)/\
  (∀ i w b M,ws[i]? = some w->d i b M->g w b M fun f h=>tb {D with nx:=fun c e=>∃ a,Sub a e/\d (i + 1) c a,ct:=fun c e=>∃ a,Sub a e/\d (i + 1) c a,bk:=D.nx} f h)/\
  ∀ b M,d ws.length b M->D.nx b M
def d4(wi:h8)(g:eX)(tb:aH):aH:=fun D a M=>wi a M fun ws keep b=>IW ws keep g tb D a b
theorem eI{tg iter:Expr}{p:List Stmt}{wi:h8}{g:eX}{tb:aH}{pos:Pos}(hp:PassesOwn (Bu X.prog X.w) X.A X.env X.xe)(hc:X.calm=true)(hi:PI X tg iter (gH X.K wi))(hg:PG X tg (gF X.K g))(hb:kS X p tb)
  (N:∀ x,Fd iter X.env x=pure x:=by intro _;rfl):P3 X (.For tg iter p [] pos) (d4 wi g tb):=
 (SI hp hc hi hg hb N).weak fun D σ H z0=>z0.el fun Z M D' U Y h k=>by
  refine⟨Z,M,_,U,Y,h,fun J E ws keep B C v I ⟨z,h0,hk,N,hd⟩=>?_⟩
  refine⟨fun i m c d=>m=ws.length - i/\i<=ws.length/\∃ a b,Kp E B d b/\AM X.K d b/\AS X.K d b c a/\z i a b,⟨_,rfl,De _,Z,B,Kp.refl v,v,U.kp Y C,h0⟩,?_⟩
  rintro i m σ2 S ⟨rfl,hi,f,o,u,l,t,s⟩
  by_cases r:i < ws.length
  ·refine .inr ⟨I.go i S o u l (hk i f o hi s) r,fun c d=>∃ a b,Kp E B d b/\AM X.K d b/\AS X.K d b c a/\z (i + 1) a b,fun c d q=>⟨ws.length - (i + 1),by omega,rfl,r,q⟩,fun x H3 y=>?_⟩
   obtain⟨w,hw,W,Q,ax⟩:=I.yld i S o x H3 u l (hk i f o hi s) r y
   refine⟨w,f,o,_,ax,t.kp l W,Q,N i w f o hw s,fun σ4 H4 R V k4 O G h4=>⟨R,V,_,G,O,h4,?_⟩⟩
   have T:=((u.trans W).trans k4)
   have j:iF X.K H4 V (fun a b=>∃ n,Sub n b/\z (i + 1) a n) (fun c d=>∃ a b,Kp E B d b/\AM X.K d b/\AS X.K d b c a/\z (i + 1) a b):=
    fun c d a b k' L F ⟨n,P,q3⟩=>⟨a,n,(T.trans k').sub P,L.sub P,F.sub P,q3⟩
   exact⟨j,k.rt.kp (C.trans T),k.nx.kp (C.trans T),j⟩
  ·have e:i=ws.length:=by omega
   subst e
   exact .inl ⟨I.stop S o u l (hk _ f o hi s),k.nx _ _ _ _ (C.trans u) l t (hd f o s)⟩
theorem d5{ws:List W}{keep:Mm->Prop}{g:eX}{tb:aH}{D:D3}{b:S3}{M:Mm}(c:Nat->S3->Mm->Prop)(k:c 0 b M)(hk:∀ i b M,i<=ws.length->c i b M->keep M)
  (h:∀ i w b M,ws[i]? = some w->c i b M->g w b M fun f j=>tb {D with nx:=fun d e=>∃ a,Sub a e/\c (i + 1) d a,ct:=fun d e=>∃ a,Sub a e/\c (i + 1) d a,bk:=D.nx} f j)
  (hd:∀ b M,c ws.length b M->D.nx b M):IW ws keep g tb D b M:=⟨c,k,hk,h,hd⟩
variable {tg l a b:Expr}{tl ta tb':aW}
theorem ZS{K:Ac}{b:Hp}{c:Mm}{p:Addr}{ws:List W}:i7 K b c (oH K p) ws fun M=>M p=some (.lst ws) where
 go:=fun i H M _ a e hi=>by
  obtain⟨vs,f,q⟩:=a.lst e
  exact⟨vs,vs[i]'(by rw[q.length];exact hi),bF.of f,by simp⟩
 stop:=fun H M _ a e=>by
  obtain⟨vs,f,q⟩:=a.lst e
  exact⟨vs,bF.of f,by rw[q.length];exact Aj _⟩
 yld:=fun i H M x d _ a e hi y=>by
  obtain⟨rfl,y⟩:=y
  obtain⟨vs,f,q⟩:=a.lst e
  obtain⟨w,hw,av⟩:=q.getV (y vs (bF.of f))
  exact⟨w,hw,Kp.refl a,a,av⟩
theorem IX{K:Ac}{c:Hp}{a:Mm}{p:Addr}{vs:List V}{ws:List W}(d:AM K c a)(st:∀ H M,Kp c a H M->bF K H p vs)(e:aM K c a vs ws):i7 K c a (oH K p) ws fun _=>True:=by
 refine⟨fun i H M k b _ hi=>⟨vs,vs[i]'(by rw[e.length];exact hi),st H M k,by simp⟩,fun H M k b _=>⟨vs,st H M k,by rw[e.length];exact Aj _⟩,fun i H M x f k b _ hi y=>?_⟩
 obtain⟨rfl,y⟩:=y
 obtain⟨w,hw,av⟩:=(e.kp d k).getV (y vs (st _ M k))
 exact⟨w,hw,Kp.refl b,b,av⟩
theorem ZT{K:Ac}{b:Hp}{c:Mm}{p:Addr}{vs:List V}{ws:List W}(a:AM K b c)(e:lK K b p vs)(d:aM K b c vs ws):i7 K b c (oH K p) ws fun _=>True:=
 IX a (fun H M k=>by
  refine lK.sq ?_
  rcases e with⟨o,e⟩ | e
  ·exact .inl ⟨o,(k.fr _ _ (a.noFrz e) e).1⟩
  ·exact .inr e) d
theorem ZU{K:Ac}{b:Hp}{a:Mm}{p:Addr}{vs:List V}{ws:List W}(c:AM K b a)(e:b p=some (.lst vs))(n:a p=none)(d:aM K b a vs ws):i7 K b a (oH K p) ws fun _=>True:=
 IX c (fun H M k=>bF.of (k.fr _ _ n e).1) d
theorem ZV{K:Ac}{b:Hp}{c:Mm}{p:Addr}{vs:List V}{ws:List W}(a:AM K b c)(e:b p=some (.tup vs))(f:aM K b c vs ws):i7 K b c (wF K p) ws fun _=>True:=by
 have st:∀ H M,Kp b c H M->bV K H p vs:=fun H M k=>bV.of (k.fr _ _ (a.noTup e) e).1
 refine⟨fun i H M k d _ hi=>⟨vs,vs[i]'(by rw[f.length];exact hi),st H M k,by simp⟩,fun H M k d _=>⟨vs,st H M k,by rw[f.length];exact Aj _⟩,fun i H M x g k d _ hi y=>?_⟩
 obtain⟨rfl,y⟩:=y
 obtain⟨w,hw,av⟩:=(f.kp a k).getV (y vs (st _ M k))
 exact⟨w,hw,Kp.refl d,d,av⟩
theorem ZW{K:Ac}{c:Hp}{b:Mm}{lo:Int}{n:Nat}:i7 K c b (sJ lo n) ((Cv n).map fun i=>W.int (lo + (i:Nat))) fun _=>True where
 go:=fun i H M _ a _ hi=>by show i < n;simpa using hi
 stop:=fun H M _ a _=>by show n<=_;simp
 yld:=fun i H M x d _ a _ hi y=>by
  obtain⟨rfl,rfl⟩:=y
  have hi:i < n:=by simpa using hi
  exact⟨.int (lo + i),by simp[hi],Kp.refl a,a,.int _⟩
theorem ZX{K:Ac}{d:Hp}{b:Mm}{z:Str}:i7 K d b (xB z) (z.cps.toList.map fun c=>W.str ⟨#[c]⟩) fun _=>True where
 go:=fun i H M _ a _ hi=>by show i < z.cps.size;simpa using hi
 stop:=fun H M _ a _=>by show z.cps.size<=_;simp
 yld:=fun i H M x e _ a _ hi y=>by
  obtain⟨rfl,c,hc,rfl⟩:=y
  exact⟨.str ⟨#[c]⟩,by rw[Aw,hc];rfl,Kp.refl a,a,.str _⟩
def mS(X:Cx)(tg:Expr)(r:V->Hp->(It->Hp->Prop)->Prop):Prop:=
 ∀ (a:List (Addr×Obj)) (s:Ah) (b:SV) (H:Hp) (x:V) (u:Ae) (R:It->Hp->Prop),Inv X a b H s->RelV x u->r x H R->Bf (Bu X.prog X.w) X.A (pyIter u) (wD X a b tg R) X.xe s
theorem xY:mS X tg (fun x H R=>∃ a,x=.ref a/\(∃ xs,bF X.K H a xs)/\R (oH X.K a) H):=by
 rintro f c l g x u R d h ⟨a,rfl,⟨xs,j⟩,q⟩
 cases h
 obtain⟨its,k,p,hz⟩:=d.list j
 refine Hq p.isList ?_
 refine⟨c.heap.objs.size,[c.heap.objs.size],_,_,g,rfl,d.kept (t':=c.toks) fun b o e=>Ag _ e,R8 a _,⟨_,Ar _ rfl,rfl,rfl⟩,fun b i=>?_,q⟩
 have e:b=c.heap.objs.size:=by simpa using i
 subst e
 exact d.fpOk (Aj _) (d.hok.fresh (Aj _))
theorem ZY:mS X tg (fun x H R=>∃ a,x=.ref a/\(∃ xs,bV X.K H a xs)/\R (wF X.K a) H):=by
 rintro f c l g x u R d h ⟨a,rfl,⟨xs,j⟩,q⟩
 cases h
 obtain⟨its,k,p,hz⟩:=d.tuple j
 refine wpAny_pyIter_tuple (show c.heap.IsTuple a its.toArray from p) ?_
 refine⟨c.heap.objs.size,[c.heap.objs.size],_,_,g,rfl,d.kept (t':=c.toks) fun b o e=>Ag _ e,R9 a _,⟨_,Ar _ rfl,rfl,rfl⟩,fun b i=>?_,q⟩
 have e:b=c.heap.objs.size:=by simpa using i
 subst e
 exact d.fpOk (Aj _) (d.hok.fresh (Aj _))
theorem ZZ{x:Str}{l:Pos}:mS X (.Name x l) (fun x H R=>∃ z,x=.str z/\R (xB z) H):=by
 rintro g f p j x u R h m ⟨z,rfl,q⟩
 obtain⟨t,rfl⟩:=m
 have fp:∀ b∈[f.heap.objs.size],gZ X g j b:=fun b n=>by
  have e:b=f.heap.objs.size:=by simpa using n
  subst e
  exact h.fpOk (Aj _) (h.hok.fresh (Aj _))
 cases k:z.cps.all (· < 128)
 ·refine wpAny_pyIter_wide k ?_
  exact⟨f.heap.objs.size,[f.heap.objs.size],_,_,j,rfl,h.kept (t':=f.toks) fun b o e=>Ag _ e,
   G0 z _ "str_iterator" t (fun A s i c Q E a b d=>wpAny_pyNext_wide_item a b d) (fun A s i Q E a b c d=>wpAny_pyNext_wide_end a b c d) (fun A i s Q E a b=>wpAny_pyIter_striter_wide a b),⟨_,Ar _ rfl,rfl,rfl⟩,fp,q⟩
 ·refine wpAny_pyIter_ascii k ?_
  exact⟨f.heap.objs.size,[f.heap.objs.size],_,_,j,rfl,h.kept (t':=f.toks) fun b o e=>Ag _ e,
   G0 z _ "str_ascii_iterator" t (fun A s i c Q E a b d=>wpAny_pyNext_ascii_item a b d) (fun A s i Q E a b c d=>wpAny_pyNext_ascii_end a b c d) (fun A i s Q E a b=>wpAny_pyIter_striter_ascii a b),⟨_,Ar _ rfl,rfl,rfl⟩,fp,q⟩
theorem _root_.L2.PI.of{r:V->Hp->(It->Hp->Prop)->Prop}{tl:TE}(hl:PE X l tl)(hr:mS X tg r):PI X tg l (fun b H R=>tl b H fun x c=>r x c R):=fun a s b H R I h=>
 a6 (hl a s b H _ I h) fun u d ⟨x,c,f,e,g⟩=>hr a d b c x u R f e g
def tR(K:Ac)(r:W->Mm->(List W->(Mm->Prop)->Mm->Prop)->Prop):V->Hp->(It->Hp->Prop)->Prop:=fun x H d=>∃ (c:W) (M:Mm) (R:List W->(Mm->Prop)->Mm->Prop),AV K H M x c/\AM K H M/\r c M R/\
 ∀ J a ws keep b,Kp H M a b->AM K a b->i7 K a b J ws keep->R ws keep b->d J a
def jO:W->Mm->(List W->(Mm->Prop)->Mm->Prop)->Prop
 | .tup ws,b,R=>R ws (fun _=>True) b
 | .rl ws,b,R=>R ws (fun _=>True) b
 | .sc ws,b,R=>R ws (fun _=>True) b
 | .ref a,b,R=>∃ ws,b a=some (.lst ws)/\R ws (fun M=>M a=some (.lst ws)) b
 | _,_,_=>False
def cJ:W->Mm->(List W->(Mm->Prop)->Mm->Prop)->Prop
 | .tup ws,b,R=>R ws (fun _=>True) b
 | .rl ws,b,R=>R ws (fun _=>True) b
 | .sc ws,b,R=>R ws (fun _=>True) b
 | .str z,b,R=>R (z.cps.toList.map fun c=>W.str ⟨#[c]⟩) (fun _=>True) b
 | .ref a,b,R=>∃ ws,b a=some (.lst ws)/\R ws (fun M=>M a=some (.lst ws)) b
 | _,_,_=>False
theorem IY:mS X tg (tR X.K jO):=by
 rintro b s j H x u i I g ⟨l,M,R,d,c,h,k⟩
 have k:=fun J ws keep=>k J H ws keep M (Kp.refl c) c
 cases l <;> first | exact(show False from h).elim | skip
 case tup ws=>exact d.tupE fun a xs e f q=>ZY b s j H _ u i I g ⟨a,e,⟨xs,bV.of f⟩,k _ _ _ (ZV c f q) h⟩
 case rl ws=>obtain⟨a,xs,e,f,n,q⟩:=d.inv;exact xY b s j H _ u i I g ⟨a,e,⟨xs,bF.of f⟩,k _ _ _ (ZU c f n q) h⟩
 case sc ws=>exact d.scE fun a xs e f q=>xY b s j H _ u i I g ⟨a,e,⟨xs,f.sq⟩,k _ _ _ (ZT c f q) h⟩
 case ref a=>exact h.elim fun ws h=>c.lstE h.1 fun vs f q=>xY b s j H _ u i I g ⟨a,d.inv,⟨vs,bF.of f⟩,k _ _ _ ZS h.2⟩
theorem Z0{y:Str}{i:Pos}:mS X (.Name y i) (tR X.K cJ):=by
 rintro a s f H x u e I d ⟨g,M,R,c,b,h,k⟩
 cases g <;> first | exact(show False from h).elim | skip
 case str z=>exact ZZ a s f H _ u e I d ⟨z,c.inv,k _ _ _ _ _ (Kp.refl b) b ZX h⟩
 all_goals exact IY a s f H x u e I d ⟨_,M,R,c,b,h,k⟩
def cC(r:W->Mm->(List W->(Mm->Prop)->Mm->Prop)->Prop)(tl:aW):h8:=fun b M R=>tl b M fun w a=>r w a R
theorem xZ{r:W->Mm->(List W->(Mm->Prop)->Mm->Prop)->Prop}(hl:E3 X l tl)(hr:mS X tg (tR X.K r)):PI X tg l (gH X.K (cC r tl)):=(PI.of hl hr).weak fun v H u m=>m.el fun q M R c i h k=>
 ⟨q,M,_,c,i,h,fun x t p n o b d e=>⟨p,n,R,d,b,e,fun J g ws keep j s a f r=>k J g ws keep j (o.trans s) a f r⟩⟩
theorem qQ(hl:E3 X l tl):PI X tg l (gH X.K (cC jO tl)):=xZ hl IY
theorem dO{y:Str}{a:Pos}(hl:E3 X l tl):PI X (.Name y a) l (gH X.K (cC cJ tl)):=xZ hl Z0
def iL(lo:Int)(n:Nat):List W:=(Cv n).map fun i=>W.int (lo + (i:Nat))
def qR(ta:dZ):h8:=fun b M R=>ta b M fun ws a=>∃ j:Int,ws=[.int j]/\-(2 ^ 62)<=j/\j < 2 ^ 62/\R (iL 0 j.toNat) (fun _=>True) a
def Z1(ta:dZ):h8:=fun b M R=>ta b M fun ws a=>∃ i j:Int,ws=[.int i,.int j]/\(-(2 ^ 62)<=i/\i < 2 ^ 62/\-(2 ^ 62)<=j/\j < 2 ^ 62)/\R (iL i (j - i).toNat) (fun _=>True) a
theorem yA{d:dZ}{p pos:Pos}(m:Gl X "range")(s:X.mg "range" = none)(l:A3 X [a] d)(n:Bl [a] X.env=[(false,eval a X.env)]:=by rfl):PI X tg (.Call (.Name "range" p) [a] [] pos) (gH X.K (qR d)):=
 (SF m s l n).weak fun z H x q=>q.el fun u M R f o h k=>⟨u,M,_,f,o,h,fun vs w ws y t b c ⟨j,e,i,g,r⟩=>by
  rw[e] at c
  obtain⟨v,e,av⟩:=c.one
  exact⟨j,iG e av.inv,i,g,k _ _ _ _ _ t b ZW r⟩⟩
def pC(ws:List W)(keep:Mm->Prop)(g:eX)(tt:dQ)(te:aW)(c:S3)(j:Mm)(R:K3):Prop:=
 ∀ p,j p=none->∃ d:Nat->S3->List W->Mm->Prop,d 0 c [] j/\(∀ vs i e acc M,i<=ws.length->M p=none->d i e acc M->keep (put M p (.fix vs)))/\
  (∀ vs i w e acc M,ws[i]? = some w->M p=none->d i e acc M->g w e (put M p (.fix vs)) fun a l=>tt a l fun b h=>
   if b=true then te a h fun y k=>k p=some (.fix vs)/\acc.length < Ai/\∃ f,Sub f (del k p)/\d (i + 1) a (acc ++ [y]) f
   else h p=some (.fix vs)/\∃ f,Sub f (del h p)/\d (i + 1) a acc f)/\
  ∀ e acc M,M p=none->d ws.length e acc M->R (.ref p) (put M p (.lst acc))
def tS(js:List (Option Nat))(a:S3):S3:=js.map fun o=>o.bind fun j=>(a[j]?).join
theorem AS.cmap{K:Ac}{H:Hp}{M:Mm}{b:SV}{a:S3}(h:AS K H M b a):∀ js:List (Option Nat),AS K H M (cmap js b) (tS js a)
 | []=>.nil
 | none :: r=>.cons (fun _ e=>nomatch e) (AS.cmap h r)
 | some j :: r=>.cons (fun w e=>by
   have e:(a[j]?).join=some w:=e
   cases q:a[j]? with
   | none=>rw[q] at e;cases e
   | some z=>
    rw[q] at e
    have e:z=some w:=e
    subst e
    obtain⟨v,d,c⟩:=h.get q
    exact⟨v,by show(b[j]?).join=some v;rw[d];rfl,c⟩) (AS.cmap h r)
def eL(wi:h8)(g:eX)(tt:dQ)(te:aW)(js:List (Option Nat)):aW:=fun a M R=>wi a M fun ws keep b=>pC ws keep g tt te (tS js a) b R
theorem yB{wi:h8}{g:eX}{tt:dQ}{te:aW}{js:List (Option Nat)}{σ:SV}{H:Hp}{Q:VK}(h:up X.K (eL wi g tt te js) σ H Q):xA (gH X.K wi) (fun _=>gF X.K g) (fun _=>jH X.K tt) (fun _=>up X.K te) js σ H Q:=by
 obtain⟨τ,M,R,as,am,h,k⟩:=h
 refine⟨τ,M,_,as,am,h,fun J H1 ws keep M1 k1 v W L p U B=>?_⟩
 obtain⟨Pv,h0,hk,hs,hd⟩:=L p (v.nonM U)
 obtain⟨V,kp⟩:=v.laid (o:=.fix []) (u:=.lst []) U cM
 have hMp:=v.nonM U
 refine XC ws.length (fun i D c q=>∃ j acc m,m p=none/\Kp H1 M1 q (put m p (.fix c))/\AM X.K q (put m p (.fix c))/\AS X.K q (put m p (.fix c)) D j/\aM X.K q (put m p (.fix c)) c acc/\Pv i j acc m) ?_ ?_ ?_
 ·exact⟨tS js τ,[],M1,hMp,kp,V,((as.kp am k1).kp v kp).cmap js,.nil,h0⟩
 ·rintro D c q ⟨j,acc,m,F,A,d,G,av,I⟩
  refine⟨W.stop q _ A d (hk _ _ _ _ _ (Aj _) F I),?_⟩
  have hp':q p=some (.lst c):=d p _ a5
  refine k _ q _ (put m p (.lst acc)) (k1.trans ⟨fun a o n e=>?_,A.dom⟩) (fun a o e=>?_) (.ref p) (hd j acc m F I)
  ·obtain⟨x,y⟩:=A.fr a o n e
   exact⟨x,by rw[aQ (eT e U)] at y ⊢;exact y⟩
  ·by_cases Z:a=p
   ·subst Z;rw[a5] at e;cases e;exact⟨c,hp',av.go HR⟩
   ·rw[aQ Z] at e;exact(d a o (by rw[aQ Z];exact e)).go HR rfl
 ·rintro i D c q hi ⟨j,acc,m,F,A,d,G,av,I⟩
  have O:=hk c i j acc m (Jz hi) F I
  refine⟨W.go i q _ A d O hi,fun x H3 y=>?_⟩
  obtain⟨w,hw,k3,am3,ax⟩:=W.yld i q _ x H3 A d O hi y
  refine⟨w,j,_,_,ax,G.kp d k3,am3,hs c i w j acc m hw F I,fun σ4 H4 l S k4 z r h4=>⟨l,S,_,r,z,h4,fun b H5 s P E T=>?_⟩⟩
  have kk:Kp q (put m p (.fix c)) H5 s:=(k3.trans k4).trans P
  cases b with
  | false=>
   obtain⟨m5,C,sb,Y⟩:s p=some (.fix c)/\∃ C,Sub C (del s p)/\Pv (i + 1) l acc C:=T
   have f:Sub (put C p (.fix c)) s:=by
    have:=(sb.trans Sub.del).put (a:=p) (o:=.fix c)
    rwa [HN m5] at this
   exact W4 ⟨l,acc,C,sb.non oS,(A.trans kk).sub f,E.sub f,(r.kp z P).sub f,(av.kp d kk).sub f,Y⟩
  | true=>
   have T:te l s fun y S=>S p=some (.fix c)/\acc.length < Ai/\∃ s,Sub s (del S p)/\Pv (i + 1) l (acc ++ [y]) s:=T
   refine W5 ⟨l,s,_,r.kp z P,E,T,fun y H6 wy C k6 t ay ⟨m6,hl,M7,sb,pv7⟩=>?_⟩
   have N:=kk.trans k6
   have hp6:H6 p=some (.lst c):=t p _ m6
   obtain⟨am8,k8⟩:=t.write (o:=.fix (c ++ [y])) (u:=.lst (c ++ [y])) m6 cM
   have f:Sub (put M7 p (.fix (c ++ [y]))) (put C p (.fix (c ++ [y]))):=(sb.trans Sub.del).put
   refine⟨hp6,by rw[av.length];exact hl,l,acc ++ [wy],M7,sb.non oS,((A.trans N).trans k8).sub f,am8.sub f,(((r.kp z P).kp E k6).kp t k8).sub f,?_,pv7⟩
   exact(((av.kp d N).append (.cons ay .nil)).kp t k8).sub f
variable {sc:Iw}{N':List Str}{js:List (Option Nat)}{iter elt:Expr}{ifs:List Expr}{wi:h8}{g:eX}{tt:dQ}
def gJ:dQ:=fun _ M Q=>Q true M
theorem i8:g9 X [] (jH X.K gJ):=W9.weak fun d H Q b=>b.el fun e M R c a h k=>k true H M (Kp.refl a) a h
theorem tT{c:Expr}{t:dQ}(h:T3 X c t):g9 X [c] (jH X.K t):=XA h
theorem i9(N':List Str)(js:List (Option Nat))(hi:PI X tg iter (gH X.K wi))
  (e:∀ B,PG (cU X sc N' B) tg (gF X.K g)) (ht:∀ B,g9 (cU X sc N' B) ifs (jH X.K tt)) (d:∀ B,PE (cU X sc N' B) elt (up X.K te))
  (b:lH N' sc X.env.scope=true:=by kernel_rfl) (c:eU N' X.N sc js N'=true:=by kernel_rfl) (hc:X.calm=true:=by rfl) (a:∀ x,Fd iter X.env x=pure x:=by intro _;rfl) :
  E3 X (.ListComp elt [⟨tg,iter,ifs,0⟩] sc pos) (eL wi g tt te js):=(XB N' js hi e ht d b c hc a).weak fun _ _ _ h=>yB h
theorem Z2{i:Nat}{x:Str}{f a:Pos}(r:X.N.Nodup)(b:X.N[i]? = some x)(w:Loc X.env.scope x)(N':List Str)(js:List (Option Nat))(hi:PI X tg iter (gH X.K wi))
  (o:∀ B,PG (cU X sc N' B) tg (gF X.K g)) (ht:∀ B,g9 (cU X sc N' B) ifs (jH X.K tt)) (u:∀ B,PE (cU X sc N' B) elt (up X.K te))
  (t:lH N' sc X.env.scope=true:=by kernel_rfl) (m:eU N' X.N sc js N'=true:=by kernel_rfl) (hc:X.calm=true:=by rfl) (c:Hg (.ListComp elt [⟨tg,iter,ifs,0⟩] sc pos) (some (.Name x f)) a.line X.env=pure true:=by rfl)
  (hf:X.fn x=true\/X.env.scope.names.lookup x=some .local:=by first | exact .inl rfl | exact .inr rfl | assumption)
  (p:∀ x,Fd iter X.env x=pure x:=by intro _;rfl):P3 X (.Assign [.Name x f] (.ListComp elt [⟨tg,iter,ifs,0⟩] sc pos) a) (a9 i (eL wi g tt te js)):=
 (GX r b w N' js hi o ht u t m hc c hf p).weak fun D F H s=>s.el fun v M C e j h k=>yB ⟨v,M,_,e,j,h,fun y z A E l d q n=>k.nx _ _ _ _ l d ((e.kp j l).set q i) n⟩
end
def bS(N:List Str)(ws:List W):S3:=ws.map some ++ Br (N.length - ws.length) none
def bB(R:K3):D3:={nx:=fun _ b=>∃ a,Sub a b/\R .non a,rt:=fun w b=>∃ a,Sub a b/\R w a}
section
variable {P:Ay}{w:Bq}{K:Ac}{mg:Str->Option Ae}{base:Heap}
theorem Z3{x a:Str}{st:Stmt}{f:Addr}{fd:Bo}{N ps:List Str}{k:Nat}{sp:bL}(F:kK K x a st f fd)(S:oK N ps (eS st))(len:∀ ws M R,sp ws M R->ws.length=ps.length)
  (e:∀ (b:Ae) (A:Cr) (outer:List Env) (s:Ah) (H:Hp) (E:XK) (ws:List W) (M:Mm) (R:K3),cT k (A.deeper (Ls a (eS st) s.heap.objs.size f b))->sp ws M R->
   ∃ t,kS (mJ gP P w K mg base N a (eS st) f b A outer s H E).nox (gY st) t/\t (bB R) (bS N ws) M):fB P w K mg base gP (k + 1) f fd ps (hV K sp):=by
 refine F.ok S (fun vs H Q E ⟨ws,M,R,l,av,h,_⟩=>by rw[av.length];exact len ws M R h) fun b A outer s H vs Q E hr ⟨ws,M,R,l,av,h,m⟩=>?_
 obtain⟨t,ht,h'⟩:=e b A outer s H E ws M R hr h
 refine⟨_,ht,bS N ws,M,bB R,?_,l,h',⟨fun o i n q g d p ⟨c,sb,r⟩=>m _ i _ c (g.sub sb) (d.sub sb) .non r,fun v i w q g d j ⟨c,sb,r⟩=>m v i w c (g.sub sb) (d.sub sb) (j.sub sb) r,fun _ _ _ _ _ _ _ z=>z.elim,fun _ _ _ _ _ _ _ z=>z.elim⟩⟩
 unfold L2.start bS
 rw[av.length]
 exact AS.start av _
def qS:bL:=fun ws M R=>∃ ns:List Int,ws=[.sc (ns.map W.int)]/\ns.length<=63/\(M=fun _=>none)/\∀ a,R (.bl true) a
theorem Z4{H:Hp}{a:Addr}{ns:List Int}(hl:ns.length<=63)(c:sW H)(b:bF K H a (ns.map V.int)):hV K qS [.ref a] H (fun v _=>v=.bl true) fun _ _ _=>False:=by
 have hr:lK K H a (ns.map V.int):=by
  rcases b with(e | ⟨o,e⟩) | e
  ·rcases c a with z | ⟨o,xs,z⟩
   ·rw[z] at e;cases e
   ·rw[z] at e;cases e
  ·exact .inl ⟨o,e⟩
  ·exact .inr e
 exact⟨[.sc (ns.map W.int)],fun _=>none,fun w _=>w=.bl true,fun a o e=>(nomatch e),.cons (.sc hr (aM.int ns)) .nil,⟨ns,rfl,hl,rfl,fun _=>rfl⟩,fun v d w f _ _ av r=>by subst r;exact av.bl_inv⟩
end
section
variable {X:Cx}{a b c:Expr}{ta tb tc:aW}{pos:Pos}
def qT(r f:R3)(ta tb tc:aW):aW:=fun a M R=>ta a M fun x d=>tb a d fun y c=>r x y c fun z b=>∃ k,z=.bl k/\if k=true then tc a b fun w e=>f y w e R else R (.bl false) b
def qU:aH:=fun _ _ _=>False
def IZ(M:Mm):W->String->Prop
 | .non,T=>T = "NoneType"
 | .bl _,T=>T = "bool"
 | .int _,T=>T = "int"
 | .str _,T=>T = "str"
 | .tup _,T=>T = "tuple"
 | .rl _,T=>T = "list"
 | .dk _,T=>T = "dict"
 | .ref a,T=>(T = "list"/\∃ ws,M a=some (.lst ws))\/(T = "dict"/\((∃ kvs,M a=some (.dK kvs))\/∃ kvs,M a=some (.dT kvs)))
 | _,_=>False
def JA:List (String×String×Bool):=[("int","int",true),("int","bool",false),("int","str",false),("int","tuple",false),("int","list",false),("bool","bool",true),("bool","int",true),("bool","str",false),("bool","list",false),("bool","tuple",false),("str","str",true),("str","int",false),("str","tuple",false),("str","list",false),("str","bool",false),("tuple","tuple",true),("tuple","list",false),("tuple","str",false),("tuple","int",false),("tuple","bool",false),("list","list",true),("list","tuple",false),("list","str",false),("list","int",false),("list","bool",false),("NoneType","list",false),("NoneType","tuple",false),("NoneType","int",false),("NoneType","str",false),("NoneType","bool",false),("dict","dict",true),("dict","list",false)]
def yC(n T:String):Option Bool:=(JA.find? fun p=>p.1 == n && p.2.1 == T).map fun p=>p.2.2
def JB(K:Ac):List (String×String×Bool)->Prop
 | []=>True
 | p :: l=>Ij K (.type p.1) (.type p.2.1)=some p.2.2/\JB K l
theorem JC{K:Ac}:∀ {l:List (String×String×Bool)},JB K l->∀ p∈l,Ij K (.type p.1) (.type p.2.1)=some p.2.2
 | _ :: _,h,_,m=>by
  cases m with
  | head=>exact h.1
  | tail _ m=>exact JC h.2 _ m
theorem Z5(K:Ac):∀ p∈JA,Ij K (.type p.1) (.type p.2.1)=some p.2.2:=by
 refine JC ?_
 refine⟨by kernel_rfl,by kernel_rfl,by kernel_rfl,by kernel_rfl,by kernel_rfl,by kernel_rfl,by kernel_rfl,by kernel_rfl,by kernel_rfl,by kernel_rfl,by kernel_rfl,by kernel_rfl,by kernel_rfl,by kernel_rfl,by kernel_rfl,by kernel_rfl,by kernel_rfl,by kernel_rfl,by kernel_rfl,by kernel_rfl,by kernel_rfl,by kernel_rfl,by kernel_rfl,by kernel_rfl,by kernel_rfl,by kernel_rfl,by kernel_rfl,by kernel_rfl,by kernel_rfl,by kernel_rfl,by kernel_rfl,by kernel_rfl,trivial⟩
theorem Z6(K:Ac){n T:String}{b:Bool}(h:yC n T=some b):Ij K (.type n) (.type T)=some b:=by
 obtain⟨p,c,e⟩:=Bb.mp h
 have a:=List.find?_some c
 have d:=Z5 K p (List.mem_of_find?_eq_some c)
 rw[Ce,beq_iff_eq,beq_iff_eq] at a
 rw[<-a.1,<-a.2,d,e]
def cH:List W->Mm->K3->Prop
 | [w,.ty T],M,R=>∃ n b,IZ M w n/\yC n T=some b/\R (.bl b) M
 | _,_,_=>False
theorem pD:cN X (.builtin "isinstance") (fG X.K cH):=by
 rintro d s p H xs us Q I rs ⟨ws,M,R,j,l,h,k⟩
 match ws,h with
 | [w,.ty T],h=>
  obtain⟨v,u,rfl,av,o⟩:=l.two
  cases o
  obtain⟨n,b,c,m,r⟩:=h
  have ty:iE X.K H v (.type n):=by
   cases w <;> first | exact(show False from c).elim | skip
   case non=>rw[show n=_ from c,show v=_ from av.inv];exact .non
   case bl b=>rw[show n=_ from c,show v=_ from av.inv];exact .bl b
   case int i=>rw[show n=_ from c,show v=_ from av.inv];exact .int i
   case str x=>rw[show n=_ from c,show v=_ from av.inv];exact .str x
   case tup=>obtain⟨a,xs,g,e,q⟩:=av.inv;rw[show n=_ from c,g];exact .tup e
   case rl=>obtain⟨a,xs,g,e,_,q⟩:=av.inv;rw[show n=_ from c,g];exact .lst e
   case dk=>obtain⟨a,xs,g,e,_,q⟩:=av.inv;rw[show n=_ from c,g];exact .dK e
   case ref a=>
    rw[show v=_ from av.inv]
    rcases c with⟨e,ws,h⟩ | ⟨e,h⟩
    ·subst e
     obtain⟨vs,f,_⟩:=j.lst h
     exact .lst f
    ·subst e
     rcases h with⟨kvs,h⟩ | ⟨kvs,h⟩
     ·obtain⟨ks,f,_⟩:=j _ _ h;exact .dK f
     ·obtain⟨ks,f,_⟩:=j _ _ h;exact .dT f
  exact XI d s p H _ us Q I rs ⟨v,T,_,b,rfl,ty,Z6 X.K m,k.at j (.bl b) r⟩
def yD:W->List W->Mm->K3->Prop
 | .str z,[],M,R=>z.length<=5592405/\R (.str (Txt.upper z)) M
 | _,_,_,_=>False
theorem m_upper:fD X "str.upper" (jI X.K yD):=by
 rintro a s f H x xs v us Q I g rs ⟨c,ws,M,R,e,d,b,h,k⟩
 match c,ws,h with
 | .str z,[],h=>
  cases d;cases b
  exact XG a s f H _ _ v us Q I g rs ⟨z,rfl,rfl,h.1,k.at e (.str _) h.2⟩
def tU:W->List W->Mm->K3->Prop
 | .str z,[.str y],M,R=>(y.length == 0)=false/\z.length<=Ai/\R (.tup [.str (Cg z y).1,.str (Cg z y).2.1,.str (Cg z y).2.2]) M
 | _,_,_,_=>False
theorem m_partition:fD X "str.partition" (jI X.K tU):=by
 rintro a s g H x xs v us Q I j rs ⟨c,ws,M,R,f,d,b,h,k⟩
 match c,ws,h with
 | .str z,[.str y],h=>
  obtain⟨u,rfl,e⟩:=b.one
  cases d;cases e
  exact XH a s g H _ _ v us Q I j rs ⟨z,y,rfl,rfl,h.1,h.2.1,fun p i=>laidT f k i (.cons (.str _) (.cons (.str _) (.cons (.str _) .nil))) h.2.2⟩
end
section
variable {X:Cx}{a b:Expr}{ta tb:aW}{pos:Pos}{es:List Expr}{t:dZ}
theorem Z7{K:Ac}{H:Hp}{M:Mm}{R:K3}{Q:VK}{p:Addr}{xs:List V}{ws:List W}(c:AM K H M)(k:Up K H M R Q)(b:H p=none)(d:aM K H M xs ws)(r:R (.rl ws) M):Q (.ref p) (aR H p (.lst xs)):=by
 obtain⟨a,e⟩:=c.tup (u:=.lst xs) b
 exact k _ _ _ _ e a (.rl cM (c.nonM b) (d.newT b)) r
def gA(t:dZ):aW:=fun b M R=>t b M fun ws a=>ws.length<=Ai/\R (.rl ws) a
theorem gU(h:A3 X es t):E3 X (.List es pos) (gA t):=
 (FV h).weak fun m H Q i=>i.el fun f M R c d h k=>⟨f,M,_,c,d,h,fun xs j ws l e b a ⟨hl,r⟩=>⟨by rw[a.length];exact hl,fun p g=>Z7 b (k.kp e) g a r⟩⟩
theorem JD{f:Ae->Ae->Sem Ae}{r b:R3}(h:a8 X f (cB X.K r))(k:∀ x y M R,b x y M R->r x y M fun w n=>frz w n R):a8 X f (cB X.K b):=fun a s j H x y v u Q I m o ⟨d,i,M,R,g,e,c,h',l⟩=>
 h a s j H x y v u Q I m o ⟨d,i,M,_,g,e,c,k _ _ _ _ h',l.frz⟩
theorem JE{f:Ae}{r b:List W->Mm->K3->Prop}(h:cN X f (fG X.K r))(k:∀ x M R,b x M R->r x M fun w i=>frz w i R):cN X f (fG X.K b):=fun a s e H xs us Q I rs ⟨ws,M,R,d,c,h',g⟩=>
 h a s e H xs us Q I rs ⟨ws,M,_,d,c,k _ _ _ h',g.frz⟩
def dS:R3
 | .int i,.int j,M,R=>R (.int (i + j)) M
 | .tup xs,.tup ys,M,R=>xs≠[]/\xs.length + ys.length<=Ai/\R (.tup (xs ++ ys)) M
 | .ref a,.ref b,M,R=>∃ xs ys,M a=some (.lst xs)/\M b=some (.lst ys)/\xs.length + ys.length<=Ai/\R (.rl (xs ++ ys)) M
 | .rl xs,.ref b,M,R=>∃ ys,M b=some (.lst ys)/\xs.length + ys.length<=Ai/\R (.rl (xs ++ ys)) M
 | .ref a,.rl ys,M,R=>∃ xs,M a=some (.lst xs)/\xs.length + ys.length<=Ai/\R (.rl (xs ++ ys)) M
 | .rl xs,.rl ys,M,R=>xs.length + ys.length<=Ai/\R (.rl (xs ++ ys)) M
 | _,_,_,_=>False
theorem eQ:a8 X (Dl .Add) (cB X.K dS):=JD YU fun x y M R h=>by
 cases x <;> first | exact(show False from h).elim | (cases y <;> first | exact(show False from h).elim | skip)
 case int.int i j=>exact h
 case tup.tup i j=>exact h
 case ref.ref i j=>obtain⟨xs,ys,c,b,a,r⟩:=h;exact⟨xs,ys,c,b,a,aV.frz r⟩
 case rl.ref i j=>obtain⟨ys,b,a,r⟩:=h;exact⟨ys,b,a,aV.frz r⟩
 case ref.rl i j=>obtain⟨ys,b,a,r⟩:=h;exact⟨ys,b,a,aV.frz r⟩
 case rl.rl i j=>exact⟨h.1,aV.frz h.2⟩
def jP:R3
 | .int i,.int j,M,R=>(mH i j\/oP i j)/\R (.int (i * j)) M
 | .ref a,.int n,M,R=>∃ xs,M a=some (.lst xs)/\-(2 ^ 63)<=n/\n < 2 ^ 63/\xs.length * n.toNat<=Ai/\R (.rl (Br n.toNat xs).flatten) M
 | .rl xs,.int n,M,R=>-(2 ^ 63)<=n/\n < 2 ^ 63/\xs.length * n.toNat<=Ai/\R (.rl (Br n.toNat xs).flatten) M
 | _,_,_,_=>False
theorem mT:a8 X (Dl .Mult) (cB X.K jP):=JD Y0 fun x y M R h=>by
 cases x <;> first | exact(show False from h).elim | (cases y <;> first | exact(show False from h).elim | skip)
 case int.int i j=>exact h
 case ref.int i j=>obtain⟨xs,d,b,a,c,r⟩:=h;exact⟨xs,d,b,a,c,aV.frz r⟩
 case rl.int i j=>obtain⟨b,a,c,r⟩:=h;exact⟨b,a,c,aV.frz r⟩
def lW:List W->Mm->K3->Prop
 | [.tup ws],M,R=>R (.rl ws) M
 | [.rl ws],M,R=>R (.rl ws) M
 | [.sc ws],M,R=>R (.rl ws) M
 | [.dk kvs],M,R=>R (.rl (kvs.map fun b=>wK b.1)) M
 | [.ref a],M,R=>(∃ ws,M a=some (.lst ws)/\R (.rl ws) M)\/∃ kvs,M a=some (.dK kvs)/\R (.rl (kvs.map fun b=>wK b.1)) M
 | _,_,_=>False
theorem yE(hc:X.calm=true):cN X (.type "list") (fG X.K lW):=JE (xT hc) fun x M R h=>by
 match x,h with
 | [.tup ws],h=>exact aV.frz h
 | [.rl ws],h=>exact aV.frz h
 | [.sc ws],h=>exact aV.frz h
 | [.dk kvs],h=>exact aV.frz h
 | [.ref a],h=>
  rcases h with⟨ws,e,r⟩ | ⟨kvs,e,r⟩
  ·exact .inl ⟨ws,e,aV.frz r⟩
  ·exact .inr ⟨kvs,e,aV.frz r⟩
def pE:W->Option Int->Option Int->Mm->K3->Prop
 | .rl ws,lo,hi,M,R=>R (.rl (dW ws lo hi)) M
 | .sc ws,lo,hi,M,R=>R (.rl (dW ws lo hi)) M
 | .ref a,lo,hi,M,R=>∃ ws,M a=some (.lst ws)/\R (.rl (dW ws lo hi)) M
 | .tup ws,lo,hi,M,R=>¬ (HT.sIx ws.length 0 lo=0/\HT.sIx ws.length ws.length hi=ws.length)/\R (.tup (dW ws lo hi)) M
 | _,_,_,_,_=>False
theorem Z8{x:W}{l u:Option Int}{M:Mm}{R:K3}(h:pE x l u M R):nR x l u M fun w b=>frz w b R:=by
 cases x <;> first | exact(show False from h).elim | skip
 case tup ws=>exact h
 case rl ws=>exact aV.frz h
 case sc ws=>exact aV.frz h
 case ref a=>obtain⟨ws,e,r⟩:=h;exact⟨ws,e,aV.frz r⟩
def qV(ta:aW)(tl e:nS):aW:=fun a M R=>ta a M fun x c=>tl a c fun l b=>e a b fun u d=>pE x l u d R
theorem yF{lo hi:Option Expr}{tl m:nS}{s:Pos}(w:E3 X a ta)(hl:PO X lo (oZ X.K tl))(A:PO X hi (oZ X.K m)):E3 X (.Subscript a (.Slice lo hi none s) pos) (qV ta tl m):=
 (VA ZD w hl A).weak fun E H Q v=>v.el fun j M R d e h k=>⟨j,M,_,d,e,h,fun x C B y g b o r=>⟨j,y,_,d.kp e g,b,r,fun l D p i c q=>⟨j,p,_,(d.kp e g).kp b i,c,q,fun u F z n f t=>
  ⟨B,z,_,f,(o.kp b i).kp c n,Z8 t,(((k.kp g).kp i).kp n).frz⟩⟩⟩⟩
variable {sc:Iw}{N':List Str}{js:List (Option Nat)}{tg iter elt:Expr}{ifs:List Expr}{wi:h8}{g:eX}{tt:dQ}{te:aW}
theorem Z9{i:Nat}{x:Str}{f a:Pos}(r:X.N.Nodup)(b:X.N[i]? = some x)(w:Loc X.env.scope x)(N':List Str)(js:List (Option Nat))(hi:PI X tg iter (gH X.K wi))
  (o:∀ B,PG (cU X sc N' B) tg (gF X.K g)) (ht:∀ B,g9 (cU X sc N' B) ifs (jH X.K tt)) (u:∀ B,PE (cU X sc N' B) elt (up X.K te))
  (t:lH N' sc X.env.scope=true:=by kernel_rfl) (m:eU N' X.N sc js N'=true:=by kernel_rfl) (hc:X.calm=true:=by rfl) (c:Hg (.ListComp elt [⟨tg,iter,ifs,0⟩] sc pos) (some (.Name x f)) a.line X.env=pure true:=by rfl)
  (hf:X.fn x=true\/X.env.scope.names.lookup x=some .local:=by first | exact .inl rfl | exact .inr rfl | assumption)
  (p:∀ x,Fd iter X.env x=pure x:=by intro _;rfl):P3 X (.Assign [.Name x f] (.ListComp elt [⟨tg,iter,ifs,0⟩] sc pos) a) (a9 i (cF (eL wi g tt te js))):=
 (GX r b w N' js hi o ht u t m hc c hf p).weak fun D F H s=>s.el fun v M C e j h k=>yB ⟨v,M,_,e,j,h,Up.frz fun y z A E l d q n=>k.nx _ _ _ _ l d ((e.kp j l).set q i) n⟩
end
def Pl:Nat->W->Prop
 | _,.non=>True
 | _,.int _=>True
 | _,.str x=>PyData.strOk x=true
 | n + 1,.tup ws=>∀ w∈ws,Pl n w
 | n + 1,.rl ws=>∀ w∈ws,Pl n w
 | _,_=>False
def cQ(M:Mm):W->W
 | .ref a=>match M a with
  | some (.lst ws)=>.rl ws
  | _=>.ref a
 | w=>w
section
variable {M:Mm}
theorem yG{n:Nat}(b:∀ {w:W},Pl n w->∃ d,Snap M w d/\d.canLay0=true/\d.depth<=n):∀ {ws:List W},(∀ w∈ws,Pl n w)->∃ a,i4 M ws a/\PyData.canLayAll0 a=true/\PyData.depthAll a<=n
 | [],_=>⟨[],.nil,rfl,by simp[PyData.depthAll]⟩
 | w :: ws,h=>by
  obtain⟨d,s,c,e⟩:=b (h w Ba)
  obtain⟨a,g,f,i⟩:=yG b fun z hz=>h z (An _ hz)
  exact⟨d :: a,.cons s g,by simp[PyData.canLayAll0,c,f],by simp only[PyData.depthAll];lia⟩
theorem zaa:∀ {n:Nat} {w:W},Pl n w->∃ d,Snap M w d/\d.canLay0=true/\d.depth<=n:=by
 intro n
 induction n with
 | zero=>
  intro w h
  cases w <;> first | exact(show False from h).elim | skip
  case non=>exact⟨_,.non,rfl,by simp[Hi]⟩
  case int i=>exact⟨_,.int i,rfl,by simp[Hi]⟩
  case str x=>exact⟨_,.str x,h,by simp[Hi]⟩
 | succ n a=>
  intro w h
  cases w <;> first | exact(show False from h).elim | skip
  case non=>exact⟨_,.non,rfl,by simp[Hi]⟩
  case int i=>exact⟨_,.int i,rfl,by simp[Hi]⟩
  case str x=>exact⟨_,.str x,h,by simp[Hi]⟩
  case tup ws=>
   obtain⟨b,s,c,e⟩:=yG a h
   exact⟨_,.tup s,by simpa [PyData.canLay0] using c,by simp only[Hi];lia⟩
  case rl ws=>
   obtain⟨b,s,c,e⟩:=yG a h
   exact⟨_,.rl s,by simpa [PyData.canLay0] using c,by simp only[Hi];lia⟩
theorem JF{n:Nat}{w:W}(h:Pl n (cQ M w)):∃ d,Snap M w d/\Snap M (cQ M w) d/\d.canLay0=true/\d.depth<=n:=by
 obtain⟨d,s,c,e⟩:=zaa (M:=M) h
 refine⟨d,?_,s,c,e⟩
 cases w <;> first | exact s | skip
 case ref a=>
  cases q:M a with
  | none=>
   have e:cQ M (.ref a)=.ref a:=by simp[cQ,q]
   rw[e] at s;exact s
  | some o=>
   cases o with
   | lst ws=>
    have e:cQ M (.ref a)=.rl ws:=by simp[cQ,q]
    rw[e] at s
    cases s with
    | rl r=>exact .ref q r
   | dK _=>
    have e:cQ M (.ref a)=.ref a:=by simp[cQ,q]
    rw[e] at s;exact s
   | dT _=>
    have e:cQ M (.ref a)=.ref a:=by simp[cQ,q]
    rw[e] at s;exact s
   | fix _=>
    have e:cQ M (.ref a)=.ref a:=by simp[cQ,q]
    rw[e] at s;exact s
   | ins _ _ _=>
    have e:cQ M (.ref a)=.ref a:=by simp[cQ,q]
    rw[e] at s;exact s
   | dn _ _ _ _=>
    have e:cQ M (.ref a)=.ref a:=by simp[cQ,q]
    rw[e] at s;exact s
   | vw _=>
    have e:cQ M (.ref a)=.ref a:=by simp[cQ,q]
    rw[e] at s;exact s
theorem JG{n:Nat}(h:∀ {x y:W} {dx a:Lb},Pl n x->Pl n y->Snap M x dx->Snap M y a->(Jx dx a=true↔x=y)):∀ {xs ys:List W} {dx a:List Lb},(∀ w∈xs,Pl n w)->(∀ w∈ys,Pl n w)->i4 M xs dx->i4 M ys a->(Mf dx a=true↔xs=ys):=by
 intro xs
 induction xs with
 | nil=>
  intro ys dx a d e c b
  cases c
  cases b <;> simp[Mf]
 | cons x xs i=>
  intro ys dx a d e c b
  cases c with
  | cons c g=>
   cases b with
   | nil=>simp[Mf]
   | cons b f=>
    rw[Mf,Ce,h (d x Ba) (e _ Ba) c b,i (fun z hz=>d z (An _ hz)) (fun z hz=>e z (An _ hz)) g f]
    simp
theorem zab:∀ {n:Nat} {x y:W} {dx c:Lb},Pl n x->Pl n y->Snap M x dx->Snap M y c->(Jx dx c=true↔x=y):=by
 intro n
 induction n with
 | zero=>
  intro x y dx c a b e d
  cases e <;> first | exact(show False from a).elim | skip
  all_goals cases d <;> first | exact(show False from b).elim | simp[Jx]
 | succ n f=>
  intro x y dx c a b e d
  cases e <;> first | exact(show False from a).elim | skip
  all_goals cases d <;> first | exact(show False from b).elim | skip
  all_goals first | (simp[Jx];done) | skip
  case tup.tup r1 _ _ r2=>rw[Jx,JG f a b r1 r2];simp
  case rl.rl r1 _ _ r2=>rw[Jx,JG f a b r1 r2];simp
theorem zac{a:Bool}{x y:W}{R:K3}(n:Nat)(p:n<=60)(e:Pl n (cQ M x))(f:Pl n (cQ M y))(h:∀ b:Bool,(b=true↔cQ M x=cQ M y)->R (.bl (if a then !b else b)) M):qM a x y M R:=by
 obtain⟨dx,g,c,k,o⟩:=JF e
 obtain⟨l,i,d,j,m⟩:=JF f
 exact⟨dx,l,g,i,⟨k,by lia⟩,⟨j,by lia⟩,h _ (zab e f c d)⟩
theorem lX{a:Bool}{x y:W}{R:K3}(n:Nat)(e:n<=60)(c:Pl n (cQ M x))(f:Pl n (cQ M y))(h:∀ b:Bool,(b=true↔cQ M x=cQ M y)->R (.bl (if a then !b else b)) M):rEq a x y M R:=by
 have d:=zac n e c f h
 cases x <;> first | exact d | skip
 case int i=>
  cases y <;> first | exact d | skip
  case int j=>exact h (decide (i=j)) (by simp[cQ])
 case str i=>
  cases y <;> first | exact d | skip
  case str j=>exact h (decide (i=j)) (by simp[cQ])
 case bl i=>
  cases y <;> first | exact d | skip
  case bl j=>exact(show False by cases n <;> exact c).elim
end
theorem qW{M:Mm}{neg:Bool}{x y:W}{R:K3}(n:Nat)(hn:n<=60)(hx:Pl n (cQ M x))(e:cQ M y=cQ M x)(h:R (.bl (!neg)) M):rEq neg x y M R:=by
 refine lX n hn hx (by rw[e];exact hx) fun b hb=>?_
 have:b=true:=hb.mpr e.symm
 subst this
 cases neg <;> exact h
theorem tV{ws:List W}{keep:Mm->Prop}{g:eX}{t:dQ}{v:aW}{d:S3}{m:Mm}{R:K3}(St:S3->Prop)(e:W->S3)(c:W->Option W->Prop)(hl:ws.length<=Ai)(hk:∀ M,Sub m M->keep M)
  (B:St d) (ht:∀ w∈ws,St (e w)) (F:∀ w∈ws,∀ h M (C:S3->Mm->Prop),St h->C (e w) M->g w h M C)
  (G:∀ w∈ws,∀ M (C:K3) (D:Mm->Prop),Sub m M->(∀ y,c w (some y)->C y M)->(c w none->D M)->t (e w) M fun b u=>if b=true then v (e w) u C else D u)
  (r:∀ os,Fm c ws os->aV (os.filterMap id) m R):pC ws keep g t v d m R:=by
 intro p j
 refine⟨fun i h acc M=>St h/\(∃ os,Fm c (ws.take i) os/\acc=os.filterMap id)/\M=m,⟨B,⟨[],by simp;exact .nil,rfl⟩,rfl⟩,?_,?_,?_⟩
 ·rintro vs i h acc M _ s ⟨_,_,rfl⟩;exact hk _ (Sub.new j)
 ·rintro vs i w h acc M hw s ⟨st,⟨os,po,rfl⟩,rfl⟩
  have q:w∈ws:=Av hw
  have hi:i < ws.length:=(Ak.mp hw).1
  have n:ws.take (i + 1)=ws.take i ++ [w]:=by rw[Dy,hw];rfl
  have f:∀ o,c w o->Fm c (ws.take (i + 1)) (os ++ [o]):=fun o x=>by
   rw[n]
   clear hw s st n
   revert os
   generalize ws.take i=l
   intro os po
   induction po with
   | nil=>exact .cons x .nil
   | cons a b z=>exact .cons a z
  have k:(os.filterMap id).length < Ai:=by
   have I:=List.length_filterMap_le id os
   have E:=Cu po
   rw[Cw] at E
   lia
  refine F w q h _ _ st (G w q _ _ _ (Sub.new j) (fun y H=>⟨a5,k,M,?_,ht w q,⟨_,f _ H,?_⟩,rfl⟩) fun A=>⟨a5,M,?_,ht w q,⟨_,f _ A,?_⟩,rfl⟩)
  ·rw[nJ j];exact Sub.refl _
  ·simp
  ·rw[nJ j];exact Sub.refl _
  ·simp
 ·rintro h acc M s ⟨_,⟨os,po,rfl⟩,rfl⟩
  rw[Cq] at po
  exact r os po p j
def yH(rest:S3):S3->Prop:=fun a=>∃ o,a=o :: rest
theorem kX{ws:List W}{keep:Mm->Prop}{d:aW}{o:Option W}{rest:S3}{c:Mm}{R:K3}(f:W->W)(hl:ws.length<=Ai)(hk:∀ M,Sub c M->keep M)
  (e:∀ w∈ws,∀ M (C:K3),Sub c M->C (f w) M->d (some w :: rest) M C) (r:aV (ws.map f) c R):pC ws keep (bC 0) gJ d (o :: rest) c R:=by
 refine tV (yH rest) (fun w=>some w :: rest) (fun w o=>o=some (f w)) hl hk ⟨_,rfl⟩ (fun w _=>⟨_,rfl⟩) ?_ ?_ ?_
 ·rintro w _ j M C ⟨o,rfl⟩ h;exact h
 ·intro w hw M C D sb i _
  show(if true=true then d (some w :: rest) M C else D M)
  rw[if_pos rfl]
  exact e w hw M C sb (i _ rfl)
 ·intro os po
  have:os.filterMap id=ws.map f:=by
   clear r e hl hk
   induction po with
   | nil=>rfl
   | cons a b g=>subst a;simp[g]
  rw[this];exact r
theorem yI{ws:List W}{keep:Mm->Prop}{i:dQ}{j:aW}{o:Option W}{rest:S3}{g:Mm}{R:K3}(f:W->Option W)(hl:ws.length<=Ai)(hk:∀ M,Sub g M->keep M)
  (k:∀ w∈ws,∀ M (C:K3) (D:Mm->Prop),Sub g M->(∀ y,f w=some y->C y M)->(f w=none->D M)->i (some w :: rest) M fun b l=>if b=true then j (some w :: rest) l C else D l)
  (r:aV (ws.filterMap f) g R):pC ws keep (bC 0) i j (o :: rest) g R:=by
 refine tV (yH rest) (fun w=>some w :: rest) (fun w o=>o=f w) hl hk ⟨_,rfl⟩ (fun w _=>⟨_,rfl⟩) ?_ ?_ ?_
 ·rintro w _ s M C ⟨o,rfl⟩ h;exact h
 ·intro w hw M C D sb p m
  exact k w hw M C D sb (fun y e=>p y e.symm) fun e=>m e.symm
 ·intro os po
  have:os.filterMap id=ws.filterMap f:=by
   clear r k hl hk
   induction po with
   | nil=>rfl
   | @cons a b c d e _ n=>
    subst e
    cases q:f a <;> simp[q,n]
  rw[this];exact r
theorem JH{ws:List W}{keep:Mm->Prop}{e:aW}{o:Option W}{rest:S3}{d:Mm}{R:K3}(P:W->W->Prop)(hl:ws.length<=Ai)(hk:∀ M,Sub d M->keep M)
  (f:∀ w∈ws,∀ M (C:K3),Sub d M->(∀ y,P w y->C y M)->e (some w :: rest) M C) (r:∀ ys,Fm P ws ys->aV ys d R):pC ws keep (bC 0) gJ e (o :: rest) d R:=by
 refine tV (yH rest) (fun w=>some w :: rest) (fun w o=>∃ y,o=some y/\P w y) hl hk ⟨_,rfl⟩ (fun w _=>⟨_,rfl⟩) ?_ ?_ ?_
 ·rintro w _ j M C ⟨o,rfl⟩ h;exact h
 ·intro w hw M C D sb i _
  show(if true=true then e (some w :: rest) M C else D M)
  rw[if_pos rfl]
  exact f w hw M C sb fun y c=>i y ⟨y,rfl,c⟩
 ·intro os po
  have:∃ ys,os=ys.map some/\Fm P ws ys:=by
   clear r f hl hk
   induction po with
   | nil=>exact⟨[],rfl,.nil⟩
   | cons a b g=>
    obtain⟨y,rfl,c⟩:=a
    obtain⟨ys,rfl,h⟩:=g
    exact⟨y :: ys,rfl,.cons c h⟩
  obtain⟨ys,rfl,c⟩:=this
  rw[List.filterMap_map]
  have:(ys.filterMap (id ∘ some))=ys:=by simp
  rw[this]
  exact r ys c
def zad(rest:S3):S3->Prop:=fun b=>∃ c a,b=c :: a :: rest
def zae(rest:S3):W->S3
 | .tup [a,b]=>some a :: some b :: rest
 | _=>none :: none :: rest
abbrev zaf:eX:=i6 2 (dX (bC 0) (dX (bC 1) i5))
theorem zag{ws:List W}{keep:Mm->Prop}{e:dQ}{f:aW}{k j:Option W}{rest:S3}{d:Mm}{R:K3}(P:W->Option W->Prop)(hw:∀ w∈ws,∃ a b,w=.tup [a,b])(hl:ws.length<=Ai)(hk:∀ M,Sub d M->keep M)
  (m:∀ a b,.tup [a,b]∈ws->∀ M (C:K3) (D:Mm->Prop),Sub d M->(∀ y,P (.tup [a,b]) (some y)->C y M)->(P (.tup [a,b]) none->D M)->e (some a :: some b :: rest) M fun l g=>if l=true then f (some a :: some b :: rest) g C else D g)
  (r:∀ os,Fm P ws os->aV (os.filterMap id) d R):pC ws keep zaf e f (k :: j :: rest) d R:=by
 refine tV (zad rest) (zae rest) P hl hk ⟨_,_,rfl⟩ (fun w c=>?_) ?_ ?_ r
 ·obtain⟨a,b,rfl⟩:=hw w c;exact⟨_,_,rfl⟩
 ·rintro w c o M C ⟨p,q,rfl⟩ h
  obtain⟨a,b,rfl⟩:=hw w c
  exact⟨rfl,rfl,h⟩
 ·intro w c M C D sb n i
  obtain⟨a,b,rfl⟩:=hw w c
  exact m a b c M C D sb n i
structure Df(K:Ac)(mg:Str->Option Ae)(x:Str)(st:Stmt)(ps:List Str)(f:Addr)(fd:Bo):Prop where
 fn:kK K x x st f fd
 at_:mg x=some (.ref f)
 bi:Binds K fd ps []
theorem d6:Ct "len" = some (.builtin "len"):=PySem.boot_len
theorem lY:Ct "list" = some (.type "list"):=by decide +kernel
theorem tW:Ct "tuple" = some (.type "tuple"):=by decide +kernel
theorem zah:Ct "str" = some (.type "str"):=by decide +kernel
theorem zai:Ct "bool" = some (.type "bool"):=by decide +kernel
theorem yJ:Ct "dict" = some (.type "dict"):=by decide +kernel
theorem pF:Ct "isinstance" = some (.builtin "isinstance"):=by decide +kernel
theorem JI:Ct "all" = some (.builtin "all"):=by decide +kernel
theorem zaj:Ct "any" = some (.builtin "any"):=by decide +kernel
theorem zak:Ct "sorted" = some (.builtin "sorted"):=by decide +kernel
theorem mU{a:Type}(x:a)(xs:List a):bI (x :: xs) 0=some x:=by simp[bI,fY]
theorem zal{a:Type}(x y:a)(xs:List a):bI (x :: y :: xs) 1=some y:=iW (j:=1) rfl
theorem zam{a:Type}(x y z:a)(xs:List a):bI (x :: y :: z :: xs) 2=some z:=iW (j:=2) rfl
theorem tX{b:Type}{xs:List b}{i:Int}(c:0<=i)(d:i < xs.length):∃ x,bI xs i=some x/\xs[i.toNat]? = some x/\x∈xs:=by
 have a:i.toNat < xs.length:=by omega
 refine⟨xs[i.toNat],?_,Bp a,List.getElem_mem a⟩
 simp[bI,fY,c,d,a]
theorem JJ{ws:List W}{lo hi:Option Int}{w:W}(h:w∈dW ws lo hi):w∈ws:=List.mem_of_mem_drop (Jp h)
theorem JK{ws:List W}{lo hi:Option Int}:(dW ws lo hi).length<=ws.length:=by
 unfold dW;rw[Cw,Ft];omega
theorem zan{i j:Int}(a:0 < j)(b:j<=1000000000):qE i j:=⟨a,Int.lt_of_le_of_lt b (by decide +kernel)⟩
theorem zao{i j:Int}(a:0 < j)(b:j<=1000000000):qE i j↔True:=iff_true_intro (zan a b)
def nV(ws:List W):Prop:=∀ w∈ws,∃ i,w=W.int i
theorem ints_map(ns:List Int):nV (ns.map W.int):=fun w h=>by
 obtain⟨i,_,e⟩:=Ao.mp h
 exact⟨i,e.symm⟩
theorem nV.cut{ws:List W}(h:nV ws)(lo hi:Option Int):nV (dW ws lo hi):=fun w m=>h w (JJ m)
theorem small{n:Nat}(h:n<=10000000):n<=Ai:=Bs h (by decide)
theorem gK{n:Nat}(h:n < 10000000):n < Ai:=Cb h (by decide)
theorem JL{S:List W}{i j:Int}(a:0<=i)(b:0<=j):(dW S (some i) (some j)).length<=(j - i).toNat:=by
 unfold dW HT.sIx
 simp only[]
 rw[if_neg (by omega),if_neg (by omega),Cw,Ft]
 omega
theorem dH{w:W}{T n:String}{b:Bool}{M:Mm}{R:K3}(c:∀ m,IZ M w m↔m=n)(a:yC n T=some b):cH [w,.ty T] M R↔R (.bl b) M:=
 ⟨fun⟨_,_,d,f,e⟩=>by cases (c _).mp d;cases a.symm.trans f;exact e,fun h=>⟨n,b,(c n).mpr rfl,a,h⟩⟩
theorem zap{M:Mm}{R:K3}:cH [W.non,.ty "list"] M R↔R (.bl false) M:=dH (fun _=>Ec) (by decide)
theorem zaq{M:Mm}{R:K3}:cH [W.non,.ty "tuple"] M R↔R (.bl false) M:=dH (fun _=>Ec) (by decide)
theorem zar{M:Mm}{R:K3}:cH [W.non,.ty "int"] M R↔R (.bl false) M:=dH (fun _=>Ec) (by decide)
theorem zas{M:Mm}{R:K3}:cH [W.non,.ty "str"] M R↔R (.bl false) M:=dH (fun _=>Ec) (by decide)
theorem zat{M:Mm}{R:K3}:cH [W.non,.ty "bool"] M R↔R (.bl false) M:=dH (fun _=>Ec) (by decide)
theorem zau{b:Bool}{M:Mm}{R:K3}:cH [W.bl b,.ty "bool"] M R↔R (.bl true) M:=dH (fun _=>Ec) (by decide)
theorem zav{b:Bool}{M:Mm}{R:K3}:cH [W.bl b,.ty "int"] M R↔R (.bl true) M:=dH (fun _=>Ec) (by decide)
theorem zaw{b:Bool}{M:Mm}{R:K3}:cH [W.bl b,.ty "str"] M R↔R (.bl false) M:=dH (fun _=>Ec) (by decide)
theorem zax{b:Bool}{M:Mm}{R:K3}:cH [W.bl b,.ty "list"] M R↔R (.bl false) M:=dH (fun _=>Ec) (by decide)
theorem zay{b:Bool}{M:Mm}{R:K3}:cH [W.bl b,.ty "tuple"] M R↔R (.bl false) M:=dH (fun _=>Ec) (by decide)
theorem zaz{i:Int}{M:Mm}{R:K3}:cH [W.int i,.ty "int"] M R↔R (.bl true) M:=dH (fun _=>Ec) (by decide)
theorem zaA{i:Int}{M:Mm}{R:K3}:cH [W.int i,.ty "bool"] M R↔R (.bl false) M:=dH (fun _=>Ec) (by decide)
theorem zaB{i:Int}{M:Mm}{R:K3}:cH [W.int i,.ty "str"] M R↔R (.bl false) M:=dH (fun _=>Ec) (by decide)
theorem zaC{i:Int}{M:Mm}{R:K3}:cH [W.int i,.ty "tuple"] M R↔R (.bl false) M:=dH (fun _=>Ec) (by decide)
theorem zaD{i:Int}{M:Mm}{R:K3}:cH [W.int i,.ty "list"] M R↔R (.bl false) M:=dH (fun _=>Ec) (by decide)
theorem zaE{x:Str}{M:Mm}{R:K3}:cH [W.str x,.ty "str"] M R↔R (.bl true) M:=dH (fun _=>Ec) (by decide)
theorem zaF{x:Str}{M:Mm}{R:K3}:cH [W.str x,.ty "int"] M R↔R (.bl false) M:=dH (fun _=>Ec) (by decide)
theorem zaG{x:Str}{M:Mm}{R:K3}:cH [W.str x,.ty "tuple"] M R↔R (.bl false) M:=dH (fun _=>Ec) (by decide)
theorem zaH{x:Str}{M:Mm}{R:K3}:cH [W.str x,.ty "list"] M R↔R (.bl false) M:=dH (fun _=>Ec) (by decide)
theorem zaI{x:Str}{M:Mm}{R:K3}:cH [W.str x,.ty "bool"] M R↔R (.bl false) M:=dH (fun _=>Ec) (by decide)
theorem zaJ{ws:List W}{M:Mm}{R:K3}:cH [W.tup ws,.ty "tuple"] M R↔R (.bl true) M:=dH (fun _=>Ec) (by decide)
theorem zaK{ws:List W}{M:Mm}{R:K3}:cH [W.tup ws,.ty "list"] M R↔R (.bl false) M:=dH (fun _=>Ec) (by decide)
theorem zaL{ws:List W}{M:Mm}{R:K3}:cH [W.tup ws,.ty "str"] M R↔R (.bl false) M:=dH (fun _=>Ec) (by decide)
theorem zaM{ws:List W}{M:Mm}{R:K3}:cH [W.tup ws,.ty "int"] M R↔R (.bl false) M:=dH (fun _=>Ec) (by decide)
theorem zaN{ws:List W}{M:Mm}{R:K3}:cH [W.tup ws,.ty "bool"] M R↔R (.bl false) M:=dH (fun _=>Ec) (by decide)
theorem zaO{ws:List W}{M:Mm}{R:K3}:cH [W.rl ws,.ty "list"] M R↔R (.bl true) M:=dH (fun _=>Ec) (by decide)
theorem zaP{ws:List W}{M:Mm}{R:K3}:cH [W.rl ws,.ty "tuple"] M R↔R (.bl false) M:=dH (fun _=>Ec) (by decide)
theorem zaQ{ws:List W}{M:Mm}{R:K3}:cH [W.rl ws,.ty "str"] M R↔R (.bl false) M:=dH (fun _=>Ec) (by decide)
theorem zaR{ws:List W}{M:Mm}{R:K3}:cH [W.rl ws,.ty "int"] M R↔R (.bl false) M:=dH (fun _=>Ec) (by decide)
theorem zaS{ws:List W}{M:Mm}{R:K3}:cH [W.rl ws,.ty "bool"] M R↔R (.bl false) M:=dH (fun _=>Ec) (by decide)
theorem zaT{p:Addr}{ws:List W}{M:Mm}{R:K3}:cH [.ref p,.ty "list"] (put M p (.lst ws)) R↔R (.bl true) (put M p (.lst ws)):=
 dH (n:="list") (fun m=>Iff.intro (fun h=>h.elim And.left (fun h=>h.2.elim (fun⟨_,e⟩=>nomatch a5.symm.trans e) (fun⟨_,e⟩=>nomatch a5.symm.trans e))) (fun e=>Or.inl ⟨e,ws,a5⟩)) (by decide)
theorem zaU{a:Bool}{i j:Int}{M:Mm}{R:K3}:L3.rEq a (.int i) (.int j) M R=R (.bl (if a then !decide (i=j) else decide (i=j))) M:=rfl
theorem zaV{a:Bool}{i j:Str}{M:Mm}{R:K3}:L3.rEq a (.str i) (.str j) M R=R (.bl (if a then !decide (i=j) else decide (i=j))) M:=rfl
theorem zaW{a:Bool}{i j:Bool}{M:Mm}{R:K3}:L3.rEq a (.bl i) (.bl j) M R=R (.bl (if a then !decide (i=j) else decide (i=j))) M:=rfl
theorem yK{M:Mm}{a:Addr}{k:Str}{v:W}{kvs:List (aD×W)}{Q:Mm->Prop}(h:M a=some (.dK kvs))(hl:kvs.length < Ai)(q:Q (put M a (.dK (b9 kvs (Sum.inr k) v)))):qP (.ref a) (.str k) v M Q:=.inr (.inl ⟨kvs,.inr k,rfl,h,hl,q⟩)
theorem yL{M:Mm}{a:Addr}{k:List aD}{v:W}{kvs:List (List aD×W)}{Q:Mm->Prop}(h:M a=some (.dT kvs))(hl:kvs.length < Ai)(q:Q (put M a (.dT (b9 kvs k v)))):qP (.ref a) (.tup (k.map wK)) v M Q:=.inr (.inr ⟨kvs,k,rfl,h,hl,q⟩)
theorem zaX{M:Mm}{a:Addr}{k:Int}{v:W}{ws:List W}{Q:Mm->Prop}(h:M a=some (.lst ws))(c:0<=k)(b:k < ws.length)(q:Q (put M a (.lst (ws.set k.toNat v)))):qP (.ref a) (.int k) v M Q:=
 .inl ⟨ws,k,k.toNat,rfl,h,by unfold fY;rw[if_pos c,if_pos b],q⟩
section
variable {X:Cx}{a b c:Expr}{ta tb tc:aW}{pos:Pos}
theorem zaY{K:Ac}{r s:R3}{p:SV}{H:Hp}{Q:VK}(h:up K (qT r s ta tb tc) p H Q):FO (cB K r) (cB K s) (up K ta) (up K tb) (up K tc) p H Q:=by
 obtain⟨n,M,R,j,m,h,k⟩:=h
 refine⟨n,M,_,j,m,h,fun x U B E i b G L=>⟨n,E,_,j.kp m i,b,L,fun y P t I f a u J=>⟨B,t,I,_,a,G.kp b f,u,J,fun z T O D g d v ⟨c,e,o⟩=>?_⟩⟩⟩
 subst e
 refine⟨c,v.bl_inv,?_⟩
 cases c with
 | false=>exact((k.kp i).kp f).kp g |>.at d (.bl false) o
 | true=>exact⟨n,D,_,((j.kp m i).kp b f).kp a g,d,o,fun w S F A q l N C=>⟨t,F,A,R,l,(u.kp a g).kp d q,N,C,(((k.kp i).kp f).kp g).kp q⟩⟩
theorem JM{op d:CmpOp}{r i:R3}(j:a8 X (Cf op) (cB X.K r))(g:a8 X (Cf d) (cB X.K i))(n:E3 X a ta)(x:E3 X b tb)(hc:E3 X c tc)
  (u:lastMarks [op,d] [b,c]=false:=by with_unfolding_all rfl):T3 X (.Compare a [op,d] [b,c] pos) (bM (qT r i ta tb tc)):=
 (TU j g n x hc u).weak fun y H Q o=>o.el fun t M R l q h k=>zaY ⟨t,M,_,l,q,h,fun v s w p m f av ⟨c,e,r⟩=>by
  subst e
  exact⟨c,av.bl_inv,k c s p m f r⟩⟩
theorem any_range{bs:List Bool}:(Cv bs.length).any (fun i=>bs.getD i false)=bs.any id:=by
 induction bs with
 | nil=>rfl
 | cons b r a=>
  rw[Bk,List.range_succ_eq_map,Em,List.any_map,Em]
  have:((fun i=>(b :: r).getD i false) ∘ Nat.succ)=fun i=>r.getD i false:=by
   funext i;simp[List.getD]
  rw[this,a]
  simp
theorem JN(hc:X.calm=true):cN X (.builtin "any") (fun xs H Q=>∃ (p:Addr) (bs:List Bool),xs=[.ref p]/\bF X.K H p (bs.map V.bl)/\Q (.bl (bs.any id)) H):=by
 intro l s E H xs us Q I r h
 obtain⟨p,bs,rfl,w,q⟩:=h
 obtain⟨u,rfl,g⟩:=vals1 r
 cases g
 obtain⟨its,f,pl,hz⟩:=I.list w
 have j:p < s.heap.objs.size:=by obtain⟨_,e,_⟩:=pl.isList;exact Bc e
 refine call_any_walk (Hq pl.isList ?_)
 have y:X.A.in1.handled=none:=I.ok.hd hc
 refine⟨s.heap.objs.size,[s.heap.objs.size,p],[s.heap.objs.size],its.toArray.size,(fun i v=>its.toArray[i]? = some v),_,(fun i=>bs.getD i false),rfl,Ld y s.heap.objs.size p (Bj j) its.toArray,
  ⟨⟨_,Ar _ rfl,rfl,rfl⟩,pl.isList.push _⟩,?_,fun h' tk hk=>?_⟩
 ·intro i v B C D n d
  have a:its[i]? = some v:=by simpa using n
  have hi:i < its.length:=(Ak.mp a).1
  have hl:=f.length
  rw[Ab] at hl
  have t:bs[i]? = some (bs.getD i false):=by
   have c:i < bs.length:=by lia
   simp[List.getD,Bp c]
  obtain⟨u,m,g⟩:=f.get (i:=i) (x:=.bl (bs.getD i false)) (by rw[Aw,t];rfl)
  rw[a] at m;cases m
  cases (show v=Value.bool (bs.getD i false) from g)
  exact Af d
 ·have hl:=f.length
  rw[Ab] at hl
  have e:(Cv its.toArray.size).any (fun i=>bs.getD i false)=bs.any id:=by
   rw[Az,<-hl,any_range]
  rw[e]
  refine⟨.bl (bs.any id),H,?_,rfl,q⟩
  exact I.kept (t':=tk) fun b o k=>hk b o (fun z=>by
   have:b=s.heap.objs.size:=by simpa using z
   exact absurd (Bc k) (by rw[this];exact Gx _)) (Ag _ k)
def JO:List W->Mm->K3->Prop
 | [.ref a],M,R=>∃ bs,M a=some (.lst (bools bs))/\R (.bl (bs.any id)) M
 | [.rl ws],M,R=>∃ bs,ws=bools bs/\R (.bl (bs.any id)) M
 | _,_,_=>False
theorem zaZ(hc:X.calm=true):cN X (.builtin "any") (fG X.K JO):=by
 rintro b s g H xs us Q I rs ⟨ws,M,R,d,c,h,k⟩
 match ws,h with
 | [.ref a],h=>
  obtain⟨v,rfl,av⟩:=c.one
  obtain rfl:=av.inv
  obtain⟨bs,e,r⟩:=h
  obtain⟨vs,f,q⟩:=d.lst e
  rw[q.bools] at f
  exact JN hc b s g H _ us Q I rs ⟨a,bs,rfl,bF.of f,k.at d (.bl _) r⟩
 | [.rl ws],h=>
  obtain⟨v,rfl,av⟩:=c.one
  obtain⟨bs,rfl,r⟩:=h
  cases av with
  | rl f _ q=>
   rw[q.bools] at f
   exact JN hc b s g H _ us Q I rs ⟨_,bs,rfl,bF.of f,k.at d (.bl _) r⟩
end
def jQ:Nat->List W->List W
 | _,[]=>[]
 | n,w :: r=>.tup [.int n,w] :: jQ (n + 1) r
theorem tY:∀ {ws:List W} {n:Nat},(jQ n ws).length=ws.length
 | [],_=>rfl
 | _ :: r,n=>by simp[jQ,tY (ws:=r)]
theorem JP:∀ {ws:List W} {n i:Nat},(jQ n ws)[i]? = (ws[i]?).map fun w=>W.tup [.int ((n + i:Nat):Int),w]
 | [],_,_=>by simp[jQ]
 | w :: r,n,0=>by simp[jQ]
 | w :: r,n,i + 1=>by
  rw[jQ,Eb,Eb,JP]
  congr 2
  funext w
  congr 4
  lia
section
variable {X:Cx}{a b c:Expr}{ta tb tc:aW}{pos:Pos}
theorem JQ{K:Ac}{c:Hp}{b:Mm}{p:Addr}{vs:List V}{ws:List W}{keep:Mm->Prop}(e:aM K c b vs ws)(d:AM K c b)(st:∀ H M,Kp c b H M->AM K H M->keep M->bF K H p vs):i7 K c b (xG K p vs) (jQ 0 ws) keep:=by
 refine⟨fun i H M k a kp hi=>⟨st H M k a kp,by rw[tY] at hi;rw[e.length];exact hi⟩,fun H M k a kp=>⟨st H M k a kp,by rw[tY,e.length];exact Aj _⟩,fun i H M x m k a kp hi y=>?_⟩
 obtain⟨l,u,j,g,rfl,rfl⟩:=y
 obtain⟨w,hw,av⟩:=(e.kp d k).getV j
 obtain⟨f,h⟩:=a.tup (u:=.tup [.int (i:Nat),u]) g
 refine⟨.tup [.int ((i:Nat):Int),w],by rw[JP,hw];simp,h,f,.tup cM (.cons (.int _) (.cons (av.go (go_same g)) .nil))⟩
def JR(ta:dZ):h8:=fun c M R=>ta c M fun ws b=>match ws with
 | [.rl a]=>R (jQ 0 a) (fun _=>True) b
 | [.sc a]=>R (jQ 0 a) (fun _=>True) b
 | [.ref p]=>∃ a,b p=some (.lst a)/\False
 | _=>False
theorem za0{g:dZ}{p pos:Pos}{es:List Expr}{l:Nat}{m:Pos}(y:Gl X "enumerate")(s:X.mg "enumerate" = none)(t:A3 X [a] g)(z:Bl [a] X.env=[(false,eval a X.env)]:=by rfl):PI X (.Tuple es l m) (.Call (.Name "enumerate" p) [a] [] pos) (gH X.K (JR g)):=
 (XZ y s t z).weak fun A H C j=>j.el fun x M R i u h k=>⟨x,M,_,i,u,h,fun vs D ws B d b c r=>by
  match ws,r with
  | [.rl w],r=>
   obtain⟨v,rfl,av⟩:=c.one
   cases av with
   | rl e n q=>exact⟨_,_,rfl,bF.of e,k _ _ _ _ _ d b (JQ q b fun H M k _ _=>bF.of (k.fr _ _ n e).1) r⟩
  | [.sc w],r=>
   obtain⟨v,rfl,av⟩:=c.one
   cases av with
   | sc e q=>exact⟨_,_,rfl,e.sq,k _ _ _ _ _ d b (JQ q b fun H M k _ _=>by
     refine lK.sq ?_
     rcases e with⟨o,e⟩ | e
     ·exact .inl ⟨o,(k.fr _ _ (b.noFrz e) e).1⟩
     ·exact .inr e) r⟩
  | [.ref p],r=>obtain⟨_,_,f⟩:=r;exact f.elim⟩
end
theorem za1:kO .non z0 z1=z1 false z0:=rfl
theorem za2:kO (.bl b) z0 z1=z1 b z0:=rfl
theorem za3:kO (.int i) z0 z1=z1 (i != 0) z0:=rfl
theorem za4:kO (.str y) z0 z1=(Kj y<=Ai/\z1 ((↑(Kj y):Int) != 0) z0):=rfl
theorem za5:kO (.tup ws) z0 z1=z1 (!List.isEmpty ws) z0:=rfl
theorem za6:kO (.rl ws) z0 z1=z1 (!List.isEmpty ws) z0:=rfl
theorem za7:kO (.sc ws) z0 z1=z1 (!List.isEmpty ws) z0:=rfl
theorem za8:∀ (a:Mm) (z1:Bool->Mm->Prop) (kvs:List (L2.aD×W)),kO (W.dk kvs) a z1=z1 (!List.isEmpty kvs) a:=by intros;rfl
theorem za9:kO (.ref p) z0 z1=((∃ ws,z0 p=some (MO.lst ws)/\z1 (!List.isEmpty ws) z0)\/∃ kvs,z0 p=some (MO.dK kvs)/\z1 (!List.isEmpty kvs) z0):=rfl
theorem zba:∀ (a:Mm) (z1:List W->(Mm->Prop)->Mm->Prop) (ws:List W),cJ (W.tup ws) a z1=z1 ws (fun(x:Mm)=>True) a:=by intros;rfl
theorem zbb:∀ (a:Mm) (z1:List W->(Mm->Prop)->Mm->Prop) (ws:List W),cJ (W.rl ws) a z1=z1 ws (fun(x:Mm)=>True) a:=by intros;rfl
theorem zbc:∀ (a:Mm) (z1:List W->(Mm->Prop)->Mm->Prop) (ws:List W),cJ (W.sc ws) a z1=z1 ws (fun(x:Mm)=>True) a:=by intros;rfl
theorem zbd:∀ (a:Mm) (z1:List W->(Mm->Prop)->Mm->Prop) (z:PySem.Str),cJ (W.str z) a z1=z1 (Gh (fun(c:Nat)=>W.str {cps:=#[c]}) (Array.toList (PySem.Str.cps z))) (fun(x:Mm)=>True) a:=by intros;rfl
theorem zbe:∀ (b:Mm) (z1:List W->(Mm->Prop)->Mm->Prop) (a:PySem.Addr),cJ (W.ref a) b z1 = ∃ (ws:List W),b a=Option.some (MO.lst ws)/\z1 ws (fun(M:Mm)=>M a=Option.some (MO.lst ws)) b:=by intros;rfl
theorem zbf:∀ (a:Mm) (z1:List W->(Mm->Prop)->Mm->Prop) (ws:List W),jO (W.tup ws) a z1=z1 ws (fun(x:Mm)=>True) a:=by intros;rfl
theorem zbg:∀ (a:Mm) (z1:List W->(Mm->Prop)->Mm->Prop) (ws:List W),jO (W.rl ws) a z1=z1 ws (fun(x:Mm)=>True) a:=by intros;rfl
theorem zbh:∀ (a:Mm) (z1:List W->(Mm->Prop)->Mm->Prop) (ws:List W),jO (W.sc ws) a z1=z1 ws (fun(x:Mm)=>True) a:=by intros;rfl
theorem zbi:∀ (b:Mm) (z1:List W->(Mm->Prop)->Mm->Prop) (a:PySem.Addr),jO (W.ref a) b z1 = ∃ (ws:List W),b a=Option.some (MO.lst ws)/\z1 ws (fun(M:Mm)=>M a=Option.some (MO.lst ws)) b:=by intros;rfl
theorem zbj:mO (.int i) (.int j) z0 z1=z1 (.int (i + j)) z0:=rfl
theorem zbk:mO (.tup xs) (.tup ys) z0 z1=(xs≠[]/\Bg xs + Bg ys<=Ai/\z1 (.tup (xs ++ ys)) z0):=rfl
theorem zbl:mO (.ref a) (.ref b) z0 z1 = ∃ xs,∃ ys,z0 a=some (MO.lst xs)/\z0 b=some (MO.lst ys)/\Bg xs + Bg ys<=Ai/\aV (xs ++ ys) z0 z1:=rfl
theorem zbm:mO (.rl xs) (.ref b) z0 z1 = ∃ ys,z0 b=some (MO.lst ys)/\Bg xs + Bg ys<=Ai/\aV (xs ++ ys) z0 z1:=rfl
theorem zbn:mO (.ref a) (.rl ys) z0 z1 = ∃ xs,z0 a=some (MO.lst xs)/\Bg xs + Bg ys<=Ai/\aV (xs ++ ys) z0 z1:=rfl
theorem zbo:mO (.rl xs) (.rl ys) z0 z1=(Bg xs + Bg ys<=Ai/\aV (xs ++ ys) z0 z1):=rfl
theorem zbp:dS (.int i) (.int j) z0 z1=z1 (.int (i + j)) z0:=rfl
theorem zbq:dS (.tup xs) (.tup ys) z0 z1=(xs≠[]/\Bg xs + Bg ys<=Ai/\z1 (.tup (xs ++ ys)) z0):=rfl
theorem zbr:dS (.ref a) (.ref b) z0 z1 = ∃ xs,∃ ys,z0 a=some (MO.lst xs)/\z0 b=some (MO.lst ys)/\Bg xs + Bg ys<=Ai/\z1 (.rl (xs ++ ys)) z0:=rfl
theorem zbs:dS (.rl xs) (.ref b) z0 z1 = ∃ ys,z0 b=some (MO.lst ys)/\Bg xs + Bg ys<=Ai/\z1 (.rl (xs ++ ys)) z0:=rfl
theorem zbt:dS (.ref a) (.rl ys) z0 z1 = ∃ xs,z0 a=some (MO.lst xs)/\Bg xs + Bg ys<=Ai/\z1 (.rl (xs ++ ys)) z0:=rfl
theorem zbu:dS (.rl xs) (.rl ys) z0 z1=(Bg xs + Bg ys<=Ai/\z1 (.rl (xs ++ ys)) z0):=rfl
theorem zbv:lP g (.int i) (.int j) z1 z2=z2 (g i j) z1:=rfl
theorem zbw:nP C g (.int i) (.int j) z2 z3=(C i j/\z3 (g i j) z2):=rfl
theorem zbx:oY (.int i) (.int j) z0 z1=z1 (.bl (decide (i < j))) z0:=rfl
theorem zby:j4 (.int i) z0 z1=z1 (.int (-i)) z0:=rfl
theorem zbz:aO (.tup ws) (.int i) z0 z1 = ∃ w,L2.bI ws i=some w/\z1 w z0:=rfl
theorem zbA:aO (.rl ws) (.int i) z0 z1 = ∃ w,L2.bI ws i=some w/\z1 w z0:=rfl
theorem zbB:aO (.sc ws) (.int i) z0 z1 = ∃ w,L2.bI ws i=some w/\z1 w z0:=rfl
theorem zbC:∀ (a:W) (z1:Mm) (z2:K3) (kvs:List (L2.aD×W)),aO (W.dk kvs) a z1 z2 = ∃ (w:W),eA z1 (W.dk kvs) a (Option.some w)/\z2 w z1:=by intros;rfl
theorem zbD:∀ (a:W) (z1:Mm) (z2:K3) (kvs:List (List L2.aD×W)),aO (W.dt kvs) a z1 z2 = ∃ (w:W),eA z1 (W.dt kvs) a (Option.some w)/\z2 w z1:=by intros;rfl
theorem zbE:aO (.str z) (.int i) z0 z1=(Kj z<=Ai/\∃ c,L2.bI (Array.toList (PySem.Str.cps z)) i=some c/\z1 (.str {cps:=#[c]}) z0):=rfl
theorem zbF:aO (.ref a) (.int i) z0 z1=((∃ ws,∃ w,z0 a=some (MO.lst ws)/\L2.bI ws i=some w/\z1 w z0)\/∃ w,eA z0 (.ref a) (.int i) (some w)/\z1 w z0):=rfl
theorem zbG:∀ (b:W) (z1:Mm) (z2:K3) (a:PySem.Addr),(∀ (i:Int),b=W.int i->False)->aO (W.ref a) b z1 z2 = ∃ (w:W),eA z1 (W.ref a) b (Option.some w)/\z2 w z1:=by
 intro x M R a h;cases x <;> first | rfl | exact(h _ rfl).elim
theorem zbH:cV [.tup ws] z0 z1=z1 (.int (↑(Bg ws):Int)) z0:=rfl
theorem zbI:cV [.rl ws] z0 z1=z1 (.int (↑(Bg ws):Int)) z0:=rfl
theorem zbJ:cV [.sc ws] z0 z1=z1 (.int (↑(Bg ws):Int)) z0:=rfl
theorem zbK:∀ (a:Mm) (z1:K3) (kvs:List (L2.aD×W)),cV [W.dk kvs] a z1=z1 (W.int (↑(Bg kvs):Int)) a:=by intros;rfl
theorem zbL:cV [.str z] z0 z1=(Kj z<=Ai/\z1 (.int (↑(Kj z):Int)) z0):=rfl
theorem zbM:cV [.ref a] z0 z1=((∃ ws,z0 a=some (MO.lst ws)/\z1 (.int (↑(Bg ws):Int)) z0)\/∃ kvs,z0 a=some (MO.dK kvs)/\z1 (.int (↑(Bg kvs):Int)) z0):=rfl
theorem zbN:lV [.tup ws] z0 z1=aV ws z0 z1:=rfl
theorem zbO:lV [.rl ws] z0 z1=aV ws z0 z1:=rfl
theorem zbP:lV [.sc ws] z0 z1=aV ws z0 z1:=rfl
theorem zbQ:∀ (a:Mm) (z1:K3) (kvs:List (L2.aD×W)),lV [W.dk kvs] a z1=aV (Gh (fun(b:L2.aD×W)=>wK (Ci b)) kvs) a z1:=by intros;rfl
theorem zbR:lV [.ref a] z0 z1=((∃ ws,z0 a=some (MO.lst ws)/\aV ws z0 z1)\/∃ kvs,z0 a=some (MO.dK kvs)/\aV (Gh (fun(b:L2.aD×W)=>wK (Ci b)) kvs) z0 z1):=rfl
theorem zbS:lW [.tup ws] z0 z1=z1 (.rl ws) z0:=rfl
theorem zbT:lW [.rl ws] z0 z1=z1 (.rl ws) z0:=rfl
theorem zbU:lW [.sc ws] z0 z1=z1 (.rl ws) z0:=rfl
theorem zbV:∀ (a:Mm) (z1:K3) (kvs:List (L2.aD×W)),lW [W.dk kvs] a z1=z1 (W.rl (Gh (fun(b:L2.aD×W)=>wK (Ci b)) kvs)) a:=by intros;rfl
theorem zbW:lW [.ref a] z0 z1=((∃ ws,z0 a=some (MO.lst ws)/\z1 (.rl ws) z0)\/∃ kvs,z0 a=some (MO.dK kvs)/\z1 (.rl (Gh (fun(b:L2.aD×W)=>wK (Ci b)) kvs)) z0):=rfl
theorem zbX:pA [.tup ws] z0 z1=z1 (.tup ws) z0:=rfl
theorem zbY:pA [.rl ws] z0 z1=z1 (.tup ws) z0:=rfl
theorem zbZ:pA [.ref a] z0 z1 = ∃ ws,z0 a=some (MO.lst ws)/\z1 (.tup ws) z0:=rfl
theorem zb0:xU [.int i] z0 z1=(Nat.log2 (Int.natAbs i) < 1920/\z1 (.str (PySem.Str.ofString (ToString.toString i))) z0):=rfl
theorem zb1:pE (.rl ws) z0 z1 z2 z3=z3 (.rl (dW ws z0 z1)) z2:=rfl
theorem zb2:pE (.sc ws) z0 z1 z2 z3=z3 (.rl (dW ws z0 z1)) z2:=rfl
theorem zb3:pE (.ref a) z0 z1 z2 z3 = ∃ ws,z2 a=some (MO.lst ws)/\z3 (.rl (dW ws z0 z1)) z2:=rfl
theorem zb4:pE (.tup ws) z0 z1 z2 z3=(¬(HT.sIx (Bg ws) 0 z0=0/\HT.sIx (Bg ws) (Bg ws) z1=Bg ws)/\z3 (.tup (dW ws z0 z1)) z2):=rfl
theorem zb5:nR (.rl ws) z0 z1 z2 z3=aV (dW ws z0 z1) z2 z3:=rfl
theorem zb6:nR (.sc ws) z0 z1 z2 z3=aV (dW ws z0 z1) z2 z3:=rfl
theorem zb7:nR (.ref a) z0 z1 z2 z3 = ∃ ws,z2 a=some (MO.lst ws)/\aV (dW ws z0 z1) z2 z3:=rfl
theorem zb8:nR (.tup ws) z0 z1 z2 z3=(¬(HT.sIx (Bg ws) 0 z0=0/\HT.sIx (Bg ws) (Bg ws) z1=Bg ws)/\z3 (.tup (dW ws z0 z1)) z2):=rfl
theorem zb9:fE (.ref l) [y] z0 z1 = ∃ ws,z0 l=some (MO.lst ws)/\Bg ws < Ai/\z1 .non (put z0 l (MO.lst (ws ++ [y]))):=rfl
theorem zca:rPop (.ref l) [] z0 z1 = ∃ ws,∃ w,z0 l=some (MO.lst (ws ++ [w]))/\z1 w (put z0 l (MO.lst ws)):=rfl
theorem zcb:gS T (.str x_2) z1=(T = "str"):=rfl
theorem zcc:gS T (.int i) z1=(T = "int"):=rfl
theorem zcd:gS T (.rl ws) z1=(T = "list"):=rfl
theorem zce:gS T (.sc ws) z1=(T = "list"):=rfl
theorem zcf:∀ (T:String) (z1:Mm) (kvs:List (L2.aD×W)),gS T (W.dk kvs) z1=(T = "dict"):=by intros;rfl
theorem zcg:∀ (T:String) (z1:Mm) (kvs:List (List L2.aD×W)),gS T (W.dt kvs) z1=(T = "dict"):=by intros;rfl
theorem zch:gS T (.ref p) z1=((T = "list"/\∃ ws,z1 p=some (MO.lst ws))\/T = "dict"/\((∃ kvs,z1 p=some (MO.dK kvs))\/∃ kvs,z1 p=some (MO.dT kvs))):=rfl
theorem zci:qK (.int i) (.int j) z0 z1=((L2.mH i j\/L2.oP i j)/\z1 (.int (i * j)) z0):=rfl
theorem zcj:qK (.ref a) (.int n) z0 z1 = ∃ xs,z0 a=some (MO.lst xs)/\-2 ^ 63<=n/\n < 2 ^ 63/\Bg xs * Iq n<=Ai/\aV (List.flatten (Br (Iq n) xs)) z0 z1:=rfl
theorem zck:qK (.rl xs) (.int n) z0 z1=(-2 ^ 63<=n/\n < 2 ^ 63/\Bg xs * Iq n<=Ai/\aV (List.flatten (Br (Iq n) xs)) z0 z1):=rfl
theorem zcl:jP (.int i) (.int j) z0 z1=((L2.mH i j\/L2.oP i j)/\z1 (.int (i * j)) z0):=rfl
theorem zcm:jP (.ref a) (.int n) z0 z1 = ∃ xs,z0 a=some (MO.lst xs)/\-2 ^ 63<=n/\n < 2 ^ 63/\Bg xs * Iq n<=Ai/\z1 (.rl (List.flatten (Br (Iq n) xs))) z0:=rfl
theorem zcn:jP (.rl xs) (.int n) z0 z1=(-2 ^ 63<=n/\n < 2 ^ 63/\Bg xs * Iq n<=Ai/\z1 (.rl (List.flatten (Br (Iq n) xs))) z0):=rfl
section
variable {X:Cx}
def zco:List W->Mm->K3->Prop
 | [.dk kvs],M,R=>∃ ks:List Str,kvs.map Ci=ks.map Sum.inr/\ks.length < 64/\∀ a:List Str,a.Perm ks->aV (a.map W.str) M R
 | _,_,_=>False
def yM:List W->Mm->K3->Prop
 | [.dk kvs],M,R=>∃ ks:List Str,kvs.map Ci=ks.map Sum.inr/\ks.length < 64/\∀ a:List Str,a.Perm ks->R (.rl (a.map W.str)) M
 | _,_,_=>False
theorem zcp{K:Ac}{H:Hp}{M:Mm}(a:List Str):aM K H M (a.map V.str) (a.map W.str):=by
 induction a with
 | nil=>exact .nil
 | cons s r b=>exact .cons (.str s) b
theorem zcq(hc:X.calm=true):cN X (.builtin "sorted") (fG X.K zco):=by
 rintro a s j H xs us Q I rs ⟨ws,M,R,i,b,h,k⟩
 match ws,h with
 | [.dk kvs],h=>
  obtain⟨v,rfl,av⟩:=b.one
  obtain⟨ks,hk,c,r⟩:=h
  cases av with
  | dk e n l q=>exact YH hc a s j H _ us Q I rs ⟨_,_,ks,rfl,e,l.trans hk,c,fun f g p d=>iJ i k d (zcp f) (r f g)⟩
theorem zcr(hc:X.calm=true):cN X (.builtin "sorted") (fG X.K yM):=JE (zcq hc) fun x M R h=>by
 match x,h with
 | [.dk kvs],⟨ks,b,c,r⟩=>exact⟨ks,b,c,fun d a=>aV.frz (r d a)⟩
end
end L3
namespace Rg
open PySem PySem.Spec PyProof.Rows L2 L3
structure aG where
 name:Str
 parts:List Str
 cost:Int
def mV(t:Str):Prop:=∀ c∈cs t,c < 128
structure lZ(t:Str):Prop where
 len:t.length<=20
 nm:iX t=true
 hd:∃ c r,cs t=c :: r/\c∈cs gQ
 asc:mV t
structure iM(t:Str):Prop where
 len:t.length<=20
 ne:cs t≠[]
 sm:∀ c∈cs t,c∈cs kM
theorem zcs:∀ c∈cs kM,c < 128:=by decide +kernel
theorem JS:∀ c∈cs gQ,c < 128:=by decide +kernel
theorem zct:∀ c∈cs oQ,c < 128:=by decide +kernel
theorem iM.asc{t:Str}(h:iM t):mV t:=fun c hc=>zcs c (h.sm c hc)
theorem iM.nm{t:Str}(h:iM t):iX t=false:=XQ h.ne h.sm
structure mW(hs ws:List Str)(r:aG):Prop where
 name:r.name∈hs
 parts:∀ t∈r.parts,t∈ws\/t∈hs
 few:r.parts.length<=4
 lo:0<=r.cost
 hi:r.cost < 10 ^ 60
structure tZ(rs:List aG):Prop where
 ne:rs≠[]
 few:rs.length<=60
 ex:∃ hs ws:List Str,hs.length<=12/\(∀ t∈hs,lZ t)/\(∀ t∈ws,iM t)/\(∀ r∈rs,mW hs ws r)/\∀ t∈hs,∃ r∈rs,r.name=t
theorem JT(c:Array Nat):∀ (k:Nat) (acc:Array Nat) (d:Nat),d∈((Br k c).foldl (· ++ ·) acc).toList->d∈acc.toList\/d∈c.toList
 | 0,acc,d,h=>.inl h
 | k + 1,acc,d,h=>by
  rw[Dx,Dj] at h
  rcases JT c k _ d h with q | q
  ·rw[Mh] at q
   exact Bh.mp q
  ·exact .inr q
theorem JU{x:Str}{n:Int}{d:Nat}(h:d∈cs (Hd x n)):d∈cs x:=by
 unfold Hd at h
 split at h
 ·exact absurd h (by rw[show cs Str.empty=[] from rfl];simp)
 ·split at h
  ·exact h
  ·rcases JT x.cps _ #[] d h with q | q
   ·simp at q
   ·exact q
theorem JV{x:Str}{n:Int}(a:x.length=1)(b:0<=n):((Hd x n).length:Int)=n:=by
 rw[len_mul,a]
 have:¬ n < 0:=by lia
 simp[this]
def eC(acc:List Str)(t:Str):List Str:=if t∈acc then acc else acc ++ [t]
def mX(acc:List Str)(rs:List aG):List Str:=(rs.map aG.name).foldl eC acc
def namesOf(rs:List aG):List Str:=mX [] rs
theorem qX{acc:List Str}{t u:Str}:u∈eC acc t↔u∈acc\/u=t:=by
 unfold eC
 split
 ·rename_i h
  constructor
  ·exact .inl
  ·rintro(q | q)
   ·exact q
   ·rw[q];exact h
 ·rw[Bh,Ax]
theorem zcu{acc:List Str}{t:Str}:(eC acc t).length<=acc.length + 1:=by
 unfold eC
 split
 ·lia
 ·rw[Am];exact Aj _
theorem yN:∀ {ts acc:List Str} {u:Str},u∈ts.foldl eC acc↔u∈acc\/u∈ts
 | [],acc,u=>by simp
 | t :: r,acc,u=>by
  rw[Dj,yN,qX,Be]
  constructor
  ·rintro((h | h) | h)
   ·exact .inl h
   ·exact .inr (.inl h)
   ·exact .inr (.inr h)
  ·rintro(h | h | h)
   ·exact .inl (.inl h)
   ·exact .inl (.inr h)
   ·exact .inr h
theorem l3{rs:List aG}{u:Str}:u∈namesOf rs↔∃ r∈rs,r.name=u:=by
 unfold namesOf mX
 rw[yN]
 simp
theorem yO{t:Str}(h:mV t):PyData.strOk t=true:=by
 unfold PyData.strOk
 rw[Array.all_eq_true']
 intro c hc
 have:=h c (by unfold cs;exact Array.mem_toList_iff.mpr hc)
 exact decide_eq_true (by lia)
theorem tZ.asc{rs:List aG}(g:tZ rs){r:aG}(hr:r∈rs):mV r.name/\∀ t∈r.parts,mV t:=by
 obtain⟨b,ws,_,hh,hw,a,_⟩:=g.ex
 refine⟨(hh _ (a r hr).name).asc,fun t ht=>?_⟩
 rcases(a r hr).parts t ht with q | q
 ·exact(hw t q).asc
 ·exact(hh t q).asc
def qY(g:Bool)(t:Str):Prop:=if g then lZ t else iM t
def j7:Bool->Str
 | true=>Txt.upper kM
 | false=>kM
theorem yP(g:Bool):(cs (j7 g)).length=26:=by cases g <;> decide +kernel
theorem JW{g:Str}(f:(cs g).length=26)(n:Int):∃ c,bI g.cps.toList (n % 26)=some c/\c∈cs g:=by
 have d:0<=n % 26:=Fb _ (by decide)
 have e:n % 26 < 26:=Ee _ (by decide)
 obtain⟨j,b⟩:=Li d
 have a:j < (cs g).length:=by lia
 refine⟨(cs g)[j],?_,List.getElem_mem a⟩
 rw[b]
 exact iW (Bp a)
theorem yQ(c:Nat):cs (⟨#[c]⟩:Str)=[c]:=rfl
theorem zcv{g:Bool}{t:Str}(hl:t.length<=8)(a:cs t≠[])(h:∀ c∈cs t,c∈cs (j7 g)):qY g t:=by
 cases g with
 | false=>exact⟨by lia,a,h⟩
 | true=>
  have b:j7 true=gQ:=by show Txt.upper kM=gQ;decide +kernel
  rw[b] at h
  refine⟨by lia,XN a h,?_,fun c hc=>JS c (h c hc)⟩
  cases e:cs t with
  | nil=>exact absurd e a
  | cons c r=>exact⟨c,r,rfl,h c (by rw[e];simp)⟩
theorem zcw{t:Str}(n:Int)(g:0<=n)(k:n < 10000)(hl:t.length<=8)(a:cs t≠[])(h:∀ c∈cs t,c∈cs (j7 true)):qY true (t ++ "_" ++ Bw (toString n)):=by
 have i:j7 true=gQ:=by show Txt.upper kM=gQ;decide +kernel
 rw[i] at h
 have j:(Bw (toString n)).length<=10:=PySem.W.KT.len_num g (by lia)
 have b:("_" : Str).length=1:=by decide +kernel
 obtain⟨m,rfl⟩:=Li g
 have f:=xD (m:=m)
 have d:cs (t ++ "_" ++ Bw (toString ((m:Nat):Int)))=cs t ++ 95 :: cs (Bw (toString ((m:Nat):Int))):=by rw[oR,oR,G6];simp
 refine⟨by rw[Lq,Lq,b];lia,XO d a h f.2 f.1,?_,fun c hc=>?_⟩
 ·cases e:cs t with
  | nil=>exact absurd e a
  | cons c r=>exact⟨c,_,by rw[d,e];rfl,h c (by rw[e];simp)⟩
 ·rw[d] at hc
  rcases Bh.mp hc with q | q
  ·exact JS c (h c q)
  ·rcases Be.mp q with q | q
   ·lia
   ·exact zct c (f.1 c q)
theorem zcx{n:Int}(c:0<=n)(b:n < 10000):n.natAbs.log2 < 1920:=by
 rcases Nat.eq_zero_or_pos n.natAbs with h | a
 ·rw[h];decide
 ·have:n.natAbs < 2 ^ 14:=by
   have:(2:Nat) ^ 14=16384:=by decide
   lia
  have:=(Nat.log2_lt (Gq a)).mpr this
  lia
theorem zcy{e a b:List Int}(h:Drawn e (a ++ b)):∃ d c,e=d ++ c/\Drawn d a/\Drawn c b:=by
 induction a generalizing e with
 | nil=>exact⟨[],e,rfl,.nil,h⟩
 | cons x r g=>
  cases h with
  | cons i j=>
   obtain⟨d,c,rfl,f,k⟩:=g j
   exact⟨_ :: d,c,rfl,.cons i f,k⟩
theorem zcz{e:List Int}{a b c d:Int}(h:Drawn e [a,b,c,d]):∃ x1 x2 x3 x4,e=[x1,x2,x3,x4]/\Below x1 a/\Below x2 b/\Below x3 c/\Below x4 d:=by
 cases h with | cons f h=>cases h with | cons g h=>cases h with | cons j h=>cases h with | cons i h=>cases h;exact⟨_,_,_,_,rfl,f,g,j,i⟩
theorem zcA{b a:List Int}{s:Int}(h:Drawn b a)(c:∀ z∈a,z=s):∀ d∈b,Below d s:=by
 induction h with
 | nil=>intro d hd;cases hd
 | cons r t f=>
  intro d hd
  rcases Be.mp hd with e | hd
  ·subst e
   have:=c _ Ba
   rw[<-this];exact r
  ·exact f (fun z hz=>c z (An _ hz)) d hd
theorem JX{c:List Int}{a b:Int}(h:Drawn c [a,b]):∃ x1 x2,c=[x1,x2]/\Below x1 a/\Below x2 b:=by
 cases h with | cons d h=>cases h with | cons e h=>cases h;exact⟨_,_,rfl,d,e⟩
theorem t5:∀ (ts acc:List Str),(ts.foldl eC acc).length<=acc.length + ts.length
 | [],acc=>by simp
 | t :: r,acc=>by
  rw[Dj,Bk]
  have:=t5 r (eC acc t)
  have:=zcu (acc:=acc) (t:=t)
  lia
def aX(r:aG):W:=.tup [.str r.name,.tup (r.parts.map W.str),.int r.cost]
def cE(rs:List aG):W:=.rl (rs.map aX)
end Rg
namespace L3
open PySem PySem.Spec PyProof.Rows L2
section
variable {X:Cx}
def pG:R3:=fun x y M R=>∃ i j,x=.str i/\y=.str j/\i.length + j.length<=Ai/\R (.str (i ++ j)) M
def t6:R3:=fun x y M R=>∃ z n,x=.str z/\y=.int n/\z.length<=16/\-(2 ^ 63)<=n/\n<=1048576/\R (.str (Hd z n)) M
theorem t7:a8 X (Dl .Add) (cB X.K pG):=by
 rintro a s c H x y v u Q I l g ⟨m,n,M,R,h,b,d,⟨i,j,rfl,rfl,e,f⟩,k⟩
 exact TZ a s c H _ _ v u Q I l g ⟨i,j,b.inv,d.inv,e,k.at h (.str _) f⟩
theorem JY:a8 X (Dl .Mult) (cB X.K t6):=by
 rintro a s c H x y v u Q I l h ⟨m,o,M,R,j,b,d,⟨z,n,rfl,rfl,e,f,i,g⟩,k⟩
 exact XF a s c H _ _ v u Q I l h ⟨z,n,b.inv,d.inv,e,f,i,k.at j (.str _) g⟩
theorem JZ{i j:Str}{M:Mm}{R:K3}:pG (.str i) (.str j) M R=(i.length + j.length<=Ai/\R (.str (i ++ j)) M):=propext ⟨fun⟨_,_,a,b,h⟩=>by cases a;cases b;exact h,fun h=>⟨_,_,rfl,rfl,h⟩⟩
theorem zcB{z:Str}{n:Int}{M:Mm}{R:K3}:t6 (.str z) (.int n) M R=(z.length<=16/\-(2 ^ 63)<=n/\n<=1048576/\R (.str (Hd z n)) M):=propext ⟨fun⟨_,_,a,b,h⟩=>by cases a;cases b;exact h,fun h=>⟨_,_,rfl,rfl,h⟩⟩
end
end L3
namespace Rg
open PySem PySem.Spec PyProof.Rows L2 L3
def t8:bL:=fun ws M R=>∃ z g:Str,ws=[.str z,.str g]/\z.length<=1000/\R (.bl (lI z g)) M
def yR:bL:=fun ws M R=>∃ z:Str,ws=[.str z]/\z.length<=1000/\R (.bl (iX z)) M
def nW:bL:=fun ws M R=>∃ rs:List aG,ws=[.rl (rs.map aX)]/\rs.length<=400/\aV ((namesOf rs).map W.str) M R
def qZ:bL:=fun ws M R=>∃ (r:aG) (rs:List aG),ws=[.rl ((r :: rs).map aX)]/\R (.str r.name) M
def yS:bL:=fun ws M R=>∃ (r:aG) (ns:List Str),ws=[aX r,.rl (ns.map W.str)]/\0<=r.cost/\(∀ t∈r.parts,t.length<=1000/\(iX t=true->t∈ns))/\R .non M
def rA:bL:=fun ws M R=>∃ (a:List W) (k:Int),(ws=[.sc a,.int k]\/ws=[.rl a,.int k])/\nV a/\0<=k/\∀ i,R (.int i) M
def yT:bL:=fun ws M R=>∃ c k:Int,ws=[.int c,.int k]/\0<=k/\k<=1000/\∀ z:Int,0<=z->z < 10 ^ 61->R (.int z) M
def pH:bL:=fun ws M R=>∃ (c:Int) (a:List Int),ws=[.int c,.rl (a.map W.int)]/\a.length<=100/\(∀ s∈a,0 < s/\s<=10 ^ 59)/\∀ b,Drawn b a->aV (b.map W.int) M R
def t9:bL:=fun ws M R=>∃ (n m:Int) (g:Bool),ws=[.int n,.int m,.bl g]/\0<=m/\m<=12/\∀ ts:List Str,ts.length=m.toNat->(∀ t∈ts,qY g t)->aV (ts.map W.str) M R
def yU:bL:=fun ws M R=>∃ (c:Int) (b wds:List Str) (a:Int),ws=[.int c,.rl (b.map W.str),.rl (wds.map W.str),.int a]/\0 < b.length/\b.length<=12/\wds.length=3/\0<=a/\a<=4/\∀ r:aG,mW b wds r->(r.parts.length:Int)<=a->R (aX r) M
def yV:bL:=fun ws M R=>∃ (d:List W) (a b:Int),ws=[.rl d,.int a,.int b]/\nV d/\d.length<=40/\1<=a/\a<=12/\1<=b/\b<=4/\∀ rs:List aG,tZ rs->(∀ r∈rs,(r.parts.length:Int)<=b)->(∃ c wds:List Str,(c.length:Int)<=a/\wds.length=3/\(∀ t∈c,lZ t)/\(∀ t∈wds,iM t)/\(∀ r∈rs,mW c wds r)/\∀ t∈c,∃ r∈rs,r.name=t)->aV (rs.map aX) M R
abbrev zcC:List Str:=["text","signs"]
def zcD:aH:=
   (bR (nN (aE (rEq true) (aA 0) (vC (.str ""))) (bN xV (aB (cF (eL (cC cJ (aA 0)) (bC 0) gJ (aE (rIn false) (aA 0) (aA 1)) [none,some 1])) aF))))
abbrev zcE:List Str:=["part","pieces","right_end"]
def zcF:aH:=
   (a9 1 (dR "str" tU (aA 0) (aB (vC (.str "_")) aF)))
def zcG:aH:=
   (a9 2 (tE (aE (rEq false) (aE aO (aA 1) (vC (.int 1))) (vC (.str ""))) (bJ t8 (aB (aE aO (aA 1) (vC (.int 2))) (aB (vC (.str "0123456789")) aF)))))
def J0:aH:=
   (bR (nN (aA 2) (bJ t8 (aB (aE aO (aA 1) (vC (.int 0))) (aB (vC (.str "ABCDEFGHIJKLMNOPQRSTUVWXYZ")) aF)))))
def zcH:aH:=(aN zcF (aN zcG J0))
abbrev zcI:List Str:=["grammar","found","rule"]
def zcJ:aH:=
   (a9 1 tO)
def zcK:aH:=
   (hW (vC (.bl true)) (j6 (aA 1) (aE aO (aA 2) (vC (.int 0)))))
def zcL:aH:=
   (d4 (cC cJ (aA 0)) (bC 2) zcK)
def zcM:aH:=
   (bR (bN lV (aB (aA 1) aF)))
def zcN:aH:=(aN zcJ (aN zcL zcM))
abbrev zcO:List Str:=["grammar"]
def zcP:aH:=
   (bR (aE aO (aE aO (aA 0) (vC (.int 0))) (vC (.int 0))))
abbrev zcQ:List Str:=["rule","known","part"]
def zcR:aH:=
   (aN (cG (bM (aE oY (aE aO (aA 0) (vC (.int 2))) (vC (.int 0))))
    qU
    c7)
   (d4 (cC cJ (aE aO (aA 0) (vC (.int 1)))) (bC 2)
    (cG (iH (eV (bJ yR (aB (aA 2) aF))) (bM (aE (rIn true) (aA 2) (aA 1))))
    qU
    c7)))
abbrev zcS:List Str:=["script","k"]
def rB:aH:=
   (aN (cG (bM (aE oY (aA 1) (bN cV (aB (aA 0) aF))))
    (bR (aE aO (aA 0) (aA 1)))
    c7)
   (bR (vC (.int 0))))
abbrev zcT:List Str:=["cell","k","number"]
def J1:aH:=
   (a9 2 (aE dS (aE dS (aE jP (aE iK (aA 0) (aE kR (vC (.int 10)) (vC (.int 40)))) (vC (.int 48271))) (aE jP (aE jP (aE kR (vC (.int 3)) (vC (.int 60))) (aE dS (aA 1) (vC (.int 1)))) (aE dS (aA 1) (vC (.int 1))))) (aA 1)))
def J2:aH:=
   (a9 2 (aE dS (aE jP (aA 2) (aA 2)) (aE jP (vC (.int 69621)) (aA 2))))
def J3:aH:=
   (bR (aE kQ (aE iK (aE jP (aA 2) (aA 2)) (aE dS (aE kR (vC (.int 10)) (vC (.int 61))) (vC (.int 7)))) (vC (.int 8))))
def yW:aH:=(aN J1 (aN J2 J3))
abbrev zcU:List Str:=["cell","sizes","found","rest","k"]
def J4:aH:=
   (a9 2 (iZ aF))
def J5:aH:=
   (a9 3 (aE mQ (aA 0) (aE kR (vC (.int 10)) (vC (.int 18)))))
def J6:aH:=
   (cG (bM (aE IC (aA 0) (aE kR (vC (.int 10)) (vC (.int 18)))))
    (aN (cX (dR "list" fE (aA 2) (aB (aE iK (aA 3) (aE aO (aA 1) (aA 4))) aF)))
   (a9 3 (aE kQ (aA 3) (aE aO (aA 1) (aA 4)))))
    (cX (dR "list" fE (aA 2) (aB (aE iK (bJ yT (aB (aA 0) (aB (aA 4) aF))) (aE aO (aA 1) (aA 4))) aF))))
def J7:aH:=
   (d4 (qR (aB (bN cV (aB (aA 1) aF)) aF)) (bC 4) J6)
def J8:aH:=
   (bR (aA 2))
def yX:aH:=(aN J4 (aN J5 (aN J7 J8)))
abbrev zcV:List Str:=["number","many","great","letters","pad","size","at","first","found","k","sign"]
def J9:aH:=
   (a9 3 (vC (.str "abcdefghijklmnopqrstuvwxyz")))
def KA:aH:=
   (cG (eV (aA 2))
    (a9 3 (nO "str" yD (aA 3)))
    c7)
def yY:aH:=
   (a9 4 (aE aO (aA 3) (aE iK (aA 0) (vC (.int 26)))))
def yZ:aH:=
   (a9 5 (aE dS (vC (.int 1)) (aE iK (aE kQ (aA 0) (vC (.int 26))) (vC (.int 8)))))
def y0:aH:=
   (a9 6 (aE iK (aE kQ (aA 0) (vC (.int 208))) (aA 5)))
def y6:aH:=
   (a9 7 (aE iK (aE kQ (aA 0) (vC (.int 1664))) (vC (.int 26))))
def y7:aH:=
   (a9 8 (iZ aF))
def KC:aH:=
   (aN (a9 10 (aE aO (aA 3) (aE iK (aE dS (aA 7) (aE jP (vC (.int 3)) (aA 9))) (vC (.int 26)))))
   (aN (cX (dR "list" fE (aA 8) (aB (aE pG (aE pG (aE t6 (aA 4) (aA 6)) (aA 10)) (aE t6 (aA 4) (aE mQ (aE mQ (aA 5) (aA 6)) (vC (.int 1))))) aF)))
   (cG (iH (eV (aA 2)) (iH (bM (aE (rEq false) (aE iK (aE kQ (aA 0) (vC (.int 43264))) (vC (.int 3))) (vC (.int 1)))) (bM (aE (rEq false) (aE HZ (aE HY (aE kQ (aA 0) (vC (.int 129792))) (aA 9)) (vC (.int 1))) (vC (.int 1))))))
    (hW (aE pG (aE pG (aE aO (aA 8) (aA 9)) (vC (.str "_"))) (bN xU (aB (aE iK (aE kQ (aA 0) (vC (.int 129792))) (vC (.int 10000))) aF))) (j6 (aA 8) (aA 9)))
    c7)))
def y8:aH:=
   (d4 (qR (aB (aA 1) aF)) (bC 9) KC)
def y9:aH:=
   (bR (aA 8))
def zA:aH:=(aN J9 (aN KA (aN yY (aN yZ (aN y0 (aN y6 (aN y7 (aN y8 y9))))))))
abbrev zcW:List Str:=["cell","heads","words","most","drawn","parts","place"]
def KD:aH:=
   (a9 4 (cF (bJ pH (aB (aA 0) (aB (aE dS (gA (aB (bN cV (aB (aA 1) aF)) (aB (aE dS (aA 3) (vC (.int 1))) (aB (vC (.int 3)) (aB (aE kR (vC (.int 10)) (vC (.int 59))) aF))))) (aE jP (gA (aB (vC (.int 6)) aF)) (aA 3))) aF)))))
def KG:aH:=
   (a9 5 (iZ aF))
def KH:aH:=
   (cG (bM (aE oY (aA 6) (vC (.int 3))))
    (cX (dR "list" fE (aA 5) (aB (aE aO (aA 2) (aA 6)) aF)))
    (cX (dR "list" fE (aA 5) (aB (aE aO (aA 1) (aE iK (aE dS (aE mQ (aA 6) (vC (.int 3))) (aE aO (aA 4) (vC (.int 0)))) (bN cV (aB (aA 1) aF)))) aF))))
def KI:aH:=
   (d4 (cC cJ (qV (aA 4) (nT (vC (.int 4))) (nT (aE dS (vC (.int 4)) (aE aO (aA 4) (vC (.int 1))))))) (bC 6) KH)
def KJ:aH:=
   (bR (bO (aB (aE aO (aA 1) (aE aO (aA 4) (vC (.int 0)))) (aB (bN pA (aB (aA 5) aF)) (aB (aE iK (aE aO (aA 4) (vC (.int 3))) (aE aO (gA (aB (vC (.int 1)) (aB (vC (.int 10)) (aB (aE kR (vC (.int 10)) (vC (.int 59))) aF)))) (aE aO (aA 4) (vC (.int 2))))) aF)))))
def zB:aH:=(aN KD (aN KG (aN KI KJ)))
abbrev zcX:List Str:=["cells","many","most","one","other","heads","words","rules","name"]
def KL:aH:=
   (hW (cF (bJ pH (aB (bJ rA (aB (aA 0) (aB (vC (.int 0)) aF))) (aB (gA (aB (aE kR (vC (.int 10)) (vC (.int 9))) (aB (aE kR (vC (.int 10)) (vC (.int 9))) aF))) aF)))) (i6 2 (dX (bC 3) (dX (bC 4) i5))))
def KN:aH:=
   (a9 5 (cF (bJ t9 (aB (aA 3) (aB (aA 1) (aB (vC (.bl true)) aF))))))
def KO:aH:=
   (a9 6 (cF (bJ t9 (aB (aA 4) (aB (vC (.int 3)) (aB (vC (.bl false)) aF))))))
def KP:aH:=
   (a9 7 (eL (cC cJ (qV (aA 0) (nT (vC (.int 1))) xQ)) (bC 0) gJ (bJ yU (aB (aA 0) (aB (aA 1) (aB (aA 2) (aB (aA 3) aF))))) [none,some 5,some 6,some 2]))
def KQ:aH:=
   (cG (bM (aE (rIn true) (aA 8) (cF (eL (cC cJ (aA 7)) (bC 0) gJ (aE aO (aA 0) (vC (.int 0))) [none]))))
    (cX (dR "list" fE (aA 7) (aB (bO (aB (aA 8) (aB (bO (aB (aE aO (aA 6) (vC (.int 0))) aF)) (aB (vC (.int 0)) aF)))) aF)))
    c7)
def KR:aH:=
   (d4 (cC cJ (aA 5)) (bC 8) KQ)
def KS:aH:=
   (bR (aA 7))
def zC:aH:=(aN KL (aN KN (aN KO (aN KP (aN KR KS)))))
end Rg
set_option hygiene false in
local macro_rules | `(tactic| simp? only [$xs,*] $[$l:location]?) => `(tactic| simp only [L3.hW, L3.j6, L3.i6, L3.dX, L3.i5, L3.tO, L3.nU, L3.qU, L3.aN, L3.a9, L3.aA, L3.vC, L3.aE, L3.bM, L3.j0, L3.bN, L3.bJ, L3.aF, L3.aB, L3.bO, L3.iZ, L3.gA, L3.xK, L3.cG, L3.iH, L3.hJ, L3.iI, L3.nN, L3.tE, L3.YN, L3.eV, L3.za1, L3.za2, L3.za3, L3.za4, L3.za5, L3.za6, L3.za7, L3.za8, L3.za9, L3.bR, L3.cX, L3.c7, L3.dR, L3.nO, L3.ZF, L3.qV, L3.xQ, L3.nT, L3.d4, L3.cC, L3.qR, L3.Z1, L3.bC, L3.eL, L3.cF, L3.gJ, L3.zba, L3.zbb, L3.zbc, L3.zbd, L3.zbe, L3.zbf, L3.zbg, L3.zbh, L3.zbi, L3.zbj, L3.zbk, L3.zbl, L3.zbm, L3.zbn, L3.zbo, L3.zbp, L3.zbq, L3.zbr, L3.zbs, L3.zbt, L3.zbu, L3.zbv, L3.zbw, L3.zaU, L3.zaV, L3.zaW, zap, zaq, zar, zas, zat, zau, zav, zaw, zax, zay, zaz, zaA, zaB, zaC, zaD, zaE, zaF, zaG, zaH, zaI, zaJ, zaK, zaL, zaM, zaN, zaO, zaP, zaQ, zaR, zaS, zaT, L3.zbx, L3.zby, L3.zbz, L3.zbA, L3.zbB, L3.zbC, L3.zbD, L3.zbE, L3.zbF, L3.zbG, L3.zbH, L3.zbI, L3.zbJ, L3.zbK, L3.zbL, L3.zbM, L3.zbN, L3.zbO, L3.zbP, L3.zbQ, L3.zbR, L3.zbS, L3.zbT, L3.zbU, L3.zbV, L3.zbW, L3.zbX, L3.zbY, L3.zbZ, L3.zb0, L3.zb1, L3.zb2, L3.zb3, L3.zb4, L3.zb5, L3.zb6, L3.zb7, L3.zb8, L3.zb9, L3.zca, L3.zcb, L3.zcc, L3.zcd, L3.zce, L3.zcf, L3.zcg, L3.zch, L3.zci, L3.zcj, L3.zck, L3.zcl, L3.zcm, L3.zcn, L3.bB, L3.tS, mU, zal, zam, List.map_cons, List.map_nil, Option.bind_some, Option.bind_none, Option.join_some, List.getElem?_cons_zero, List.getElem?_cons_succ, List.set_cons_zero, List.set_cons_succ, Option.some.injEq, exists_eq_left', exists_eq_left, W.bl.injEq, W.int.injEq, W.str.injEq, Bool.false_eq_true, if_true, if_false, ↓reduceIte, true_and, and_true, sizeLine, a5, f9, MO.lst.injEq, MO.dK.injEq, MO.dT.injEq, exists_eq', exists_eq, true_or, or_true, false_and, and_false, or_false, false_or, reduceCtorEq, String.reduceEq, exists_false, zao, decide_eq_true_eq, Bool.not_eq_true', Bool.not_true, Bool.not_false, Classical.not_not, decide_eq_false_iff_not, Int.reduceLT, Int.reduceLE, Nat.reduceLT, Nat.reduceLeDiff, Nat.reducePow, List.length_cons, List.length_nil, Nat.reduceAdd, Nat.zero_add, Nat.zero_le, $xs,*] $[$l:location]?)
namespace Rg
open PySem PySem.Spec PyProof.Rows L2 L3
theorem zcY:∀ ws M R,t8 ws M R->ws.length=2:=by rintro ws M R ⟨_,_,rfl,_⟩;rfl
theorem zcZ:∀ ws M R,yR ws M R->ws.length=1:=by rintro ws M R ⟨_,rfl,_⟩;rfl
theorem zc0:∀ ws M R,nW ws M R->ws.length=1:=by rintro ws M R ⟨_,rfl,_⟩;rfl
theorem zc1:∀ ws M R,qZ ws M R->ws.length=1:=by rintro ws M R ⟨_,_,rfl,_⟩;rfl
theorem zc2:∀ ws M R,yS ws M R->ws.length=2:=by rintro ws M R ⟨_,_,rfl,_⟩;rfl
theorem zc3:∀ ws M R,rA ws M R->ws.length=2:=by rintro ws M R ⟨_,_,rfl | rfl,_⟩ <;> rfl
theorem zc4:∀ ws M R,yT ws M R->ws.length=2:=by rintro ws M R ⟨_,_,rfl,_⟩;rfl
theorem zc5:∀ ws M R,pH ws M R->ws.length=2:=by rintro ws M R ⟨_,_,rfl,_⟩;rfl
theorem zc6:∀ ws M R,t9 ws M R->ws.length=3:=by rintro ws M R ⟨_,_,_,rfl,_⟩;rfl
theorem zc7:∀ ws M R,yU ws M R->ws.length=4:=by rintro ws M R ⟨_,_,_,_,rfl,_⟩;rfl
theorem zc8:∀ ws M R,yV ws M R->ws.length=3:=by rintro ws M R ⟨_,_,_,rfl,_⟩;rfl
theorem zD(c:Nat)(g:Str):occ ⟨#[c]⟩ g=decide (c∈cs g):=StrLaws.found_one g c
theorem pI{b:Bool}{P Q:Prop}(a:b=true->P)(c:b=false->Q):if b=true then P else Q:=by cases b;exact c rfl;exact a rfl
theorem zc9{P Q:Prop}(h:P):if true=true then P else Q:=h
theorem zda{ws:List W}{M:Mm}{R:K3}(h:t8 ws M R):zcD (bB R) (bS zcC ws) M:=by
 obtain⟨z,g,rfl,hz,r⟩:=h
 have b:lI z g=(!decide (z = "") && (cs z).all fun c=>decide (c∈cs g)):=by rw[<-tJ];rfl
 refine⟨_,rfl,_,rfl,pI (fun a=>⟨_,rfl,kX (rest:=[some (.str g)]) (fun w=>match w with | .str x=>.bl (occ x g) | _=>.non) (small (by rw[Ab];exact Bs (Fj (nG z)) (Bs hz (by decide)))) (fun _ _=>trivial) (fun w hw e C sb d=>?_) (aV.frz ⟨(cs z).map fun c=>decide (c∈cs g),?_,_,Sub.refl _,?_⟩)⟩) fun a=>⟨_,Sub.refl _,?_⟩⟩
 ·obtain⟨c,_,rfl⟩:=Ao.mp hw
  exact⟨_,rfl,_,rfl,d⟩
 ·rw[b,show(!decide (z = ""))=false from a,Md] at r
  exact r
 ·unfold bools
  rw[Bx,Bx]
  exact Jv fun c _=>congrArg W.bl (zD c g)
 ·rw[b,show(!decide (z = ""))=true from a,Bool.true_and] at r
  rw[Lo];exact r
theorem zdb(z:Str):(Cg z "_").1.length<=z.length/\(Cg z "_").2.2.length<=z.length:=by
 have:=fact_partition z "_"
 exact⟨this.1,this.2.2⟩
theorem zdc(z:Str):iX z=((decide ((Cg z "_").2.1 = "") || lI (Cg z "_").2.2 oQ) && lI (Cg z "_").1 gQ):=by
 unfold iX;rw[tJ]
theorem zdd{ws:List W}{M:Mm}{R:K3}(h:yR ws M R):zcH (bB R) (bS zcE ws) M:=by
 obtain⟨z,rfl,hz,r⟩:=h
 obtain⟨c,d⟩:=zdb z
 rw[zdc z] at r
 have go:∀ {b:Bool} {M:Mm},R (.bl (b && lI (Cg z "_").1 gQ)) M->J0 (bB R) [some (.str z),some (.tup [.str (Cg z "_").1,.str (Cg z "_").2.1,.str (Cg z "_").2.2]),some (.bl b)] M:=fun {b M} r=>⟨_,rfl,_,rfl,pI (fun a=>⟨_,rfl,_,rfl,_,_,rfl,Bs c hz,_,Sub.refl _,by rw[a] at r;exact r⟩) fun a=>⟨_,Sub.refl _,by rw[a] at r;exact r⟩⟩
 exact⟨_,rfl,rfl,by decide +kernel,Bs hz (by decide),_,rfl,_,rfl,_,rfl,pI (fun a=>go (by rw[show decide ((Cg z "_").2.1 = "")=true from a] at r;exact r)) fun a=>⟨_,rfl,_,rfl,_,_,rfl,Bs d hz,go (by rw[show decide ((Cg z "_").2.1 = "")=false from a] at r;exact r)⟩⟩
def eD(t:Str):aD×W:=(Sum.inr t,.bl true)
theorem zE(acc:List Str)(t:Str):b9 (acc.map eD) (Sum.inr t:aD) (.bl true)=(eC acc t).map eD:=by
 unfold b9 eC
 have e:((acc.map eD).any fun kv=>decide (kv.1=Sum.inr t))=decide (t∈acc):=by
  rw[List.any_map,Ef]
  simp[eD,Jh]
 rw[e]
 by_cases h:t∈acc
 ·rw[if_pos (decide_eq_true h),if_pos h,Bx]
  refine Jv fun u hu=>?_
  simp[eD,Jh]
 ·rw[if_neg (by simpa using h),if_neg h,Bi];rfl
theorem pJ{ws:List W}{M:Mm}{R:List W->(Mm->Prop)->Mm->Prop}(h:R ws (fun _=>True) M):cJ (.rl ws) M R:=h
theorem zde{ws:List W}{M:Mm}{R:K3}(h:nW ws M R):zcN (bB R) (bS zcI ws) M:=by
 obtain⟨rs,rfl,hl,r⟩:=h
 refine fun p g=>⟨_,rfl,pJ (d5 (fun i d b=>∃ o,d=[some (.rl (rs.map aX)),some (.ref p),o]/\b=put M p (.dK ((namesOf (rs.take i)).map eD))) ⟨_,rfl,rfl⟩ (fun _ _ _ _ _=>trivial) ?_ ?_)⟩
 ·rintro i w d b hw ⟨o,rfl,rfl⟩
  rw[Aw] at hw
  obtain⟨q,a,rfl⟩:=Bb.mp hw
  have hi:i < rs.length:=(Ak.mp a).1
  have e:namesOf (rs.take (i + 1))=eC (namesOf (rs.take i)) q.name:=by
   rw[Dy,a]
   unfold namesOf mX
   simp
  have f:(namesOf (rs.take i)).length<=i:=by
   have:=t5 ((rs.take i).map aG.name) []
   unfold namesOf mX
   simp at this
   simp;lia
  refine⟨_,rfl,_,rfl,_,rfl,yK a5 (by rw[Ab];exact gK (by lia)) ⟨_,Sub.refl _,_,rfl,?_⟩⟩
  rw[f9,zE,e]
 ·rintro d b ⟨o,rfl,rfl⟩
  rw[Ab,Cq]
  refine⟨_,rfl,.inr ⟨_,a5,fun q a=>?_⟩⟩
  have c:q≠p:=fun e=>by subst e;rw[a5] at a;cases a
  rw[aQ c] at a
  refine⟨_,?_,r q a⟩
  rw[Bx]
  exact Sub.put (Sub.new g)
theorem zdf{ws:List W}{M:Mm}{R:K3}(h:qZ ws M R):zcP (bB R) (bS zcO ws) M:=by
 obtain⟨q,rs,rfl,r⟩:=h
 exact⟨_,rfl,_,iW (j:=0) rfl,_,rfl,_,Sub.refl _,r⟩
theorem pK{t:Str}{ts:List Str}:inW (.str t) (ts.map W.str)=decide (t∈ts):=by
 unfold inW
 rw[List.any_map,Ef,List.any_eq_true,decide_eq_true_eq]
 exact⟨fun⟨x,h,e⟩=>eq_of_beq (show(x == t)=true from e) ▸ h,fun h=>⟨t,h,beq_self_eq_true t⟩⟩
theorem rC(ts:List Str):(ts.map W.str).all eF=true:=by
 rw[Lo,Er];intro t _;rfl
theorem zdg{ws:List W}{M:Mm}{R:K3}(h:yS ws M R):zcR (bB R) (bS zcQ ws) M:=by
 obtain⟨q,ns,rfl,hc,g,r⟩:=h
 refine⟨_,rfl,_,rfl,_,rfl,pI (fun b=>absurd (of_decide_eq_true b) (Int.not_lt.mpr hc)) fun _=>⟨_,rfl,_,rfl,?_⟩⟩
 refine d5 (ws:=q.parts.map W.str) (fun i d c=>∃ o,d=[some (aX q),some (.rl (ns.map W.str)),o]/\c=M) ⟨_,rfl,rfl⟩ (fun _ _ _ _ _=>trivial) ?_ ?_
 ·rintro i w d c hw ⟨o,rfl,rfl⟩
  obtain⟨t,ht,rfl⟩:=Ao.mp (Av hw)
  obtain⟨e,f⟩:=g t ht
  refine⟨_,rfl,t,rfl,e,pI (fun b=>⟨_,rfl,_,rfl,rfl,rC ns,_,rfl,pI (fun a=>?_) fun _=>⟨_,Sub.refl _,_,rfl,rfl⟩⟩) fun _=>⟨_,Sub.refl _,_,rfl,rfl⟩⟩
  rw[show(!inW (.str t) (ns.map W.str))=false by rw[pK,decide_eq_true (f b)];rfl] at a
  cases a
 ·rintro d c ⟨o,rfl,rfl⟩
  exact⟨_,Sub.refl _,r⟩
theorem zdh{ws:List W}{M:Mm}{R:K3}(h:rA ws M R):rB (bB R) (bS zcS ws) M:=by
 obtain⟨a,k,e,hi,hk,r⟩:=h
 rcases e with rfl | rfl
 ·show rB (bB R) [some (.sc a),some (.int k)] M
  simp? only[rB]
  by_cases hd:k < a.length
  ·obtain⟨x,e,_,m⟩:=tX hk hd
   obtain⟨i,rfl⟩:=hi x m
   rw[if_pos hd]
   exact⟨_,e,_,Sub.refl _,r i⟩
  ·rw[if_neg hd]
   exact⟨_,Sub.refl _,r 0⟩
 ·show rB (bB R) [some (.rl a),some (.int k)] M
  simp? only[rB]
  by_cases hd:k < a.length
  ·obtain⟨x,e,_,m⟩:=tX hk hd
   obtain⟨i,rfl⟩:=hi x m
   rw[if_pos hd]
   exact⟨_,e,_,Sub.refl _,r i⟩
  ·rw[if_neg hd]
   exact⟨_,Sub.refl _,r 0⟩
abbrev gL(c k:Int):Int:=c % 10 ^ 40 * 48271 + 3 ^ 60 * (k + 1) * (k + 1) + k
theorem zdi{ws:List W}{M:Mm}{R:K3}(h:yT ws M R):yW (bB R) (bS zcT ws) M:=by
 obtain⟨c,k,rfl,q,n,r⟩:=h
 show yW (bB R) [some (.int c),some (.int k),none] M
 simp? only[yW,J1,J2,J3]
 have f:(gL c k).natAbs < 2 ^ 200:=XR (a:=c % 10 ^ 40) (k:=k) (Fb _ (by decide)) (Ee _ (by decide)) q n
 have j:(gL c k * gL c k).natAbs < 2 ^ 400:=HA f f
 have l:(69621 * gL c k:Int).natAbs < 2 ^ 400:=xE (HA (m:=17) (i:=69621) (by decide) f) (by decide)
 have o:(gL c k * gL c k + 69621 * gL c k).natAbs < 2 ^ 401:=XS j l
 have d:(gL c k).natAbs < 2 ^ 4096:=xE f (by decide)
 have e:(gL c k * gL c k + 69621 * gL c k).natAbs < 2 ^ 4096:=xE o (by decide)
 have b:(0:Int) < 10 ^ (61:Int).toNat + 7:=by decide
 refine⟨⟨by decide,by decide,by decide⟩,by decide,.inl (.inr ⟨by decide,by decide⟩),⟨by decide,by decide,by decide⟩,.inl (.inr ⟨by lia,by lia⟩),.inl (.inr ⟨by lia,by lia⟩),.inr ⟨d,d⟩,.inl (.inl ⟨by decide,by decide⟩),.inr ⟨e,e⟩,⟨by decide,by decide,by decide⟩,b,_,Sub.refl _,r _ ?_ ?_⟩
 ·exact Int.ediv_nonneg (Fb _ (Int.ne_of_gt b)) (by decide)
 ·have g:=Ee ((gL c k * gL c k + 69621 * gL c k) * (gL c k * gL c k + 69621 * gL c k)) b
  have p:(10:Int) ^ (61:Int).toNat + 7=10 ^ 61 + 7:=rfl
  rw[p] at g
  refine Int.ediv_lt_of_lt_mul (by decide) ?_
  refine Int.lt_trans g (by decide)
theorem KU{b a:List Int}{i:Nat}{s d:Int}(h:Drawn b (a.take i))(c:a[i]? = some s)(hd:Below d s):Drawn (b ++ [d]) (a.take (i + 1)):=by
 rw[Dy,c]
 exact Paired.snoc h hd
theorem zdj{f:Int->W}{a:List Int}{i:Nat}{s:Int}(h:a[i]? = some s):bI (a.map f) (i:Int)=some (f s):=iW (by rw[Aw,h];rfl)
theorem rangeW_get{lo:Int}{n i:Nat}{w:W}(h:(iL lo n)[i]? = some w):i < n/\w=.int (lo + i):=by
 unfold iL at h
 rw[Aw] at h
 obtain⟨j,c,rfl⟩:=Bb.mp h
 obtain⟨a,b⟩:=Ak.mp c
 simp at a b
 subst b
 exact⟨a,rfl⟩
theorem rangeW_len{lo:Int}{n:Nat}:(iL lo n).length=n:=by unfold iL;simp
theorem uA{ts:List Str}{k:Int}(c:0<=k)(b:k < ts.length):∃ t,bI (ts.map W.str) k=some (.str t)/\t∈ts:=by
 obtain⟨x,e,a,_⟩:=tX (xs:=ts.map W.str) c (by rw[Ab];exact b)
 rw[Aw] at a
 obtain⟨t,ht,rfl⟩:=Bb.mp a
 exact⟨t,e,Av ht⟩
theorem zdk{ws:List W}{M:Mm}{R:K3}(h:pH ws M R):yX (bB R) (bS zcU ws) M:=by
 obtain⟨c,d,rfl,hl,n,r⟩:=h
 show yX (bB R) [some (.int c),some (.rl (d.map W.int)),none,none,none] M
 simp? only[yX,J4,J5,J7]
 intro p m
 refine⟨⟨by decide,by decide,by decide⟩,_,rfl,by rw[Ab];lia,by rw[Ab];lia,?_⟩
 rw[Ab,Du]
 refine d5 (fun i k f=>∃ b rest o,k=[some (.int c),some (.rl (d.map W.int)),some (.ref p),some (.int rest),o]/\f=put M p (.lst (b.map W.int))/\Drawn b (d.take i)) ⟨[],_,_,rfl,rfl,by simp;exact .nil⟩ (fun _ _ _ _ _=>trivial) ?_ ?_
 ·rintro i w k f hw ⟨b,rest,o,rfl,rfl,hd⟩
  obtain⟨hi,rfl⟩:=rangeW_get hw
  rw[Int.zero_add]
  obtain⟨s,a⟩:∃ s,d[i]? = some s:=⟨_,Bp hi⟩
  obtain⟨e,q⟩:=n s (Av a)
  have l:bI (d.map W.int) (i:Int)=some (.int s):=zdj a
  have j:=Cu hd
  rw[Cw] at j
  have g:qE rest s:=⟨e,Int.lt_of_le_of_lt q (by decide)⟩
  simp? only[J6,l]
  refine⟨⟨by decide,by decide,by decide⟩,?_⟩
  split
  ·refine⟨e,by rw[Ab];lia,g,_,Sub.refl _,b ++ [rest % s],_,_,rfl,by rw[Bi];rfl,KU hd a ⟨Fb _ (by lia),Ee _ e⟩⟩
  ·refine⟨c,_,rfl,by lia,by lia,fun z u t=>?_⟩
   simp? only[l]
   refine⟨e,by rw[Ab];lia,_,Sub.refl _,b ++ [z % s],_,_,rfl,by rw[Bi];rfl,KU hd a ⟨Fb _ (by lia),Ee _ e⟩⟩
 ·rintro k f ⟨b,rest,o,rfl,rfl,hd⟩
  rw[rangeW_len,Cq] at hd
  simp? only[J8]
  exact⟨_,Sub.refl _,r b hd p m⟩
theorem zdl{ws:List W}{M:Mm}{R:K3}(h:t9 ws M R):zA (bB R) (bS zcV ws) M:=by
 obtain⟨n,m,g,rfl,h0,h1,r⟩:=h
 show zA (bB R) [some (.int n),some (.int m),some (.bl g),none,none,none,none,none,none,none,none] M
 have key:∀ L,L=j7 g->(aN yY (aN yZ (aN y0 (aN y6 (aN y7 (aN y8 y9)))))) (bB R) [some (.int n),some (.int m),some (.bl g),some (.str L),none,none,none,none,none,none,none] M:=by
  rintro L rfl
  obtain⟨c,J,v⟩:=JW (yP g) n
  have O:(j7 g).length<=16777216:=by rw[<-nG,yP];decide
  simp? only[yY,yZ,y0,y6,y7,y8]
  have P:0<=n / 26 % 8:=Fb _ (by decide)
  have Q:n / 26 % 8 < 8:=Ee _ (by decide)
  have E:0<=n / 208 % (1 + n / 26 % 8):=Fb _ (by lia)
  have S:n / 208 % (1 + n / 26 % 8) < 1 + n / 26 % 8:=Ee _ (by lia)
  refine⟨O,c,J,by lia,fun p hp=>⟨m,rfl,by lia,by lia,?_⟩⟩
  have f:(⟨#[c]⟩:Str).length=1:=rfl
  generalize V:n / 1664 % 26=fi
  generalize X:n / 26 % 8=sv at *
  generalize T:n / 208 % (1 + sv)=av at *
  refine d5 (fun i N I=>∃ (ts:List Str) (B e:Option W),N=[some (.int n),some (.int m),some (.bl g),some (.str (j7 g)),some (.str ⟨#[c]⟩),some (.int (1 + sv)),some (.int av),some (.int fi),some (.ref p),B,e]/\
   I=put M p (.lst (ts.map W.str))/\ts.length=i/\∀ t∈ts,qY g t) ⟨[],none,none,rfl,rfl,rfl,fun t ht=>nomatch ht⟩ (fun _ _ _ _ _=>trivial) ?_ ?_
  ·rintro i w N I hw ⟨ts,B,e,rfl,rfl,a,ht⟩
   obtain⟨hi,rfl⟩:=rangeW_get hw
   rw[Int.zero_add]
   obtain⟨d,hd,F⟩:=JW (yP g) (fi + 3 * (i:Int))
   have hm1:((Hd (⟨#[c]⟩:Str) av).length:Int)=av:=JV f E
   have Z:((Hd (⟨#[c]⟩:Str) (1 + sv - av - 1)).length:Int)=1 + sv - av - 1:=JV f (by lia)
   have K:(⟨#[d]⟩:Str).length=1:=rfl
   have G:(Hd (⟨#[c]⟩:Str) av ++ (⟨#[d]⟩:Str)).length=(Hd (⟨#[c]⟩:Str) av).length + 1:=by rw[Lq,K]
   have s:(Hd (⟨#[c]⟩:Str) av ++ (⟨#[d]⟩:Str) ++ Hd (⟨#[c]⟩:Str) (1 + sv - av - 1)).length=(Hd (⟨#[c]⟩:Str) av).length + 1 + (Hd (⟨#[c]⟩:Str) (1 + sv - av - 1)).length:=by rw[Lq,G]
   simp? only[KC,JZ,zcB]
   refine⟨.inl (.inl ⟨by decide,by decide⟩),O,d,hd,by rw[f];decide,by lia,by lia,by lia,by rw[f];decide,by lia,by lia,by lia,by rw[Ab];lia,?_⟩
   generalize hx:Hd (⟨#[c]⟩:Str) av ++ (⟨#[d]⟩:Str) ++ Hd (⟨#[c]⟩:Str) (1 + sv - av - 1)=x at s ⊢
   have C:x.length<=8:=by lia
   have y:∀ z∈cs x,z∈cs (j7 g):=fun z hz=>by
    rw[<-hx,oR,oR] at hz
    rcases Bh.mp hz with q | q
    ·rcases Bh.mp q with q | q
     ·have:=JU q
      rw[yQ,Ax] at this
      rw[this];exact v
     ·rw[yQ,Ax] at q
      rw[q];exact F
    ·have:=JU q
     rw[yQ,Ax] at this
     rw[this];exact v
   have A:cs x≠[]:=fun z=>by
    have:x.length=0:=by rw[<-nG,z];rfl
    lia
   have e1:ts.map W.str ++ [W.str x]=(ts ++ [x]).map W.str:=by rw[Bi];rfl
   rw[e1]
   have b:∀ o j,∃ D,L3.Sub D (put M p (.lst ((ts ++ [x]).map W.str)))/\∃ (k:List Str) (B e:Option W),[some (.int n),some (.int m),some (.bl g),some (.str (j7 g)),some (.str ⟨#[c]⟩),some (.int (1 + sv)),some (.int av),some (.int fi),some (.ref p),o,j]=[some (.int n),some (.int m),some (.bl g),some (.str (j7 g)),some (.str ⟨#[c]⟩),some (.int (1 + sv)),some (.int av),some (.int fi),some (.ref p),B,e]/\
     D=put M p (.lst (k.map W.str))/\k.length=i + 1/\∀ t∈k,qY g t:=fun o j=>by
    refine⟨_,Sub.refl _,ts ++ [x],_,_,rfl,rfl,by rw[Am,a];rfl,fun t h=>?_⟩
    rcases Bh.mp h with q | q
    ·exact ht t q
    ·rw[Ax.mp q];exact zcv C A y
   split
   ·rename_i U
    split
    ·refine⟨by lia,?_⟩
     split
     ·have hk:bI ((ts ++ [x]).map W.str) (i:Int)=some (.str x):=by
       refine iW ?_
       rw[Aw,Kf (by lia),a]
       simp
      have H:("_" : Str).length=1:=by decide +kernel
      have l:0<=n / 129792 % 10000:=Fb _ (by decide)
      have u:n / 129792 % 10000 < 10000:=Ee _ (by decide)
      have Y:(Bw (toString (n / 129792 % 10000))).length<=10:=PySem.W.KT.len_num l (by lia)
      have hxu:(x ++ ("_" : Str)).length=x.length + 1:=by rw[Lq,H]
      subst U
      refine .inl ⟨_,_,rfl,hk,?_⟩
      simp? only[JZ]
      refine⟨by lia,zcx l u,by lia,zaX a5 (by lia) (by simp;lia) ⟨_,Sub.refl _,ts ++ [x ++ ("_" : Str) ++ Bw (toString (n / 129792 % 10000))],_,_,rfl,?_,by rw[Am,a];rfl,fun t h=>?_⟩⟩
      ·rw[f9,Bi,Bi]
       congr 2
       rw[List.set_append_right _ _ (by rw[Ab,a];lia),Ab,a,Du,Nat.sub_self]
       rfl
      ·rcases Bh.mp h with q | q
       ·exact ht t q
       ·rw[Ax.mp q];exact zcw _ l u C A y
     ·exact b _ _
    ·exact b _ _
   ·exact b _ _
  ·rintro N I ⟨ts,B,e,rfl,rfl,a,ht⟩
   rw[rangeW_len] at a
   simp? only[y9]
   exact⟨_,Sub.refl _,r ts a ht p hp⟩
 simp? only[zA,J9,KA,L3.yD]
 cases g with
 | true=>exact⟨by decide +kernel,key _ rfl⟩
 | false=>exact key _ rfl
theorem zdm(m:Nat):(Br m [W.int 6]).flatten=(Br m (6:Int)).map W.int:=by
 induction m with
 | zero=>rfl
 | succ m a=>rw[Dx,Gi,a,Dx];rfl
theorem zdn{x1 x2 x3 x4:Int}{a:List Int}{hi:Option Int}{w:W}(h:w∈dW (([x1,x2,x3,x4] ++ a).map W.int) (some 4) hi):∃ d∈a,w=.int d:=by
 unfold dW at h
 have e:HT.sIx (([x1,x2,x3,x4] ++ a).map W.int).length 0 (some 4)=4:=by
  have:=HT.sIx_nat (([x1,x2,x3,x4] ++ a).map W.int).length 0 4
  simp at this ⊢
  lia
 rw[e] at h
 have h:=Jp h
 obtain⟨d,hd,rfl⟩:=Ao.mp (show w∈a.map W.int from h)
 exact⟨d,hd,rfl⟩
theorem zdo{ws:List W}{M:Mm}{R:K3}(h:yU ws M R):zB (bB R) (bS zcW ws) M:=by
 obtain⟨c,b,wds,a,rfl,hh0,hh1,hw,X,hm1,r⟩:=h
 show zB (bB R) [some (.int c),some (.rl (b.map W.str)),some (.rl (wds.map W.str)),some (.int a),none,none,none] M
 simp? only[zB,KD]
 refine⟨⟨by decide,by decide,by decide⟩,by lia,by lia,by lia,?_⟩
 rw[zdm]
 refine⟨by simp;lia,c,[(b.length:Int),a + 1,3,10 ^ 59] ++ Br a.toNat 6,by simp,by simp;lia,fun s H=>?_,fun ds hd=>aV.frz ?_⟩
 ·rcases Bh.mp H with q | q
  ·simp at q
   rcases q with rfl | rfl | rfl | rfl
   ·exact⟨by lia,Int.le_trans (show(b.length:Int)<=12 by lia) (by decide)⟩
   ·exact⟨by lia,Int.le_trans (show a + 1<=5 by lia) (by decide)⟩
   ·exact⟨by decide,by decide⟩
   ·exact⟨by decide,by decide⟩
  ·rw[(List.mem_replicate.mp q).2];exact⟨by decide,by decide⟩
 ·obtain⟨d1,f,rfl,e1,Y⟩:=zcy hd
  obtain⟨x1,x2,x3,x4,rfl,b1,T,b3,b4⟩:=zcz e1
  have b6:=zcA Y (s:=6) fun z hz=>(List.mem_replicate.mp hz).2
  have B:bI (([x1,x2,x3,x4] ++ f).map W.int) 0=some (.int x1):=mU _ _
  have Q:bI (([x1,x2,x3,x4] ++ f).map W.int) 1=some (.int x2):=iW (j:=1) rfl
  have U:bI (([x1,x2,x3,x4] ++ f).map W.int) 2=some (.int x3):=iW (j:=2) rfl
  have P:bI (([x1,x2,x3,x4] ++ f).map W.int) 3=some (.int x4):=iW (j:=3) rfl
  simp? only[KG,KI,B,Q,U,P]
  intro p hp
  have Z:=JL (S:=([x1,x2,x3,x4] ++ f).map W.int) (i:=4) (j:=4 + x2) (by decide) (by have:=T.1;lia)
  have I:∀ w∈dW (([x1,x2,x3,x4] ++ f).map W.int) (some 4) (some (4 + x2)),∃ d,Below d 6/\w=.int d:=fun w g=>by
   obtain⟨d,hd,e⟩:=zdn g
   exact⟨d,b6 d hd,e⟩
  generalize dW (([x1,x2,x3,x4] ++ f).map W.int) (some 4) (some (4 + x2))=cw at *
  obtain⟨A,y⟩:=b1
  obtain⟨b20,b21⟩:=T
  obtain⟨D,b31⟩:=b3
  obtain⟨b40,b41⟩:=b4
  refine d5 (fun i G E=>∃ (ts:List Str) (o:Option W),G=[some (.int c),some (.rl (b.map W.str)),some (.rl (wds.map W.str)),some (.int a),some (.rl (([x1,x2,x3,x4] ++ f).map W.int)),some (.ref p),o]/\
   E=put M p (.lst (ts.map W.str))/\ts.length=i/\∀ t∈ts,t∈wds\/t∈b) ⟨[],none,rfl,rfl,rfl,fun t ht=>nomatch ht⟩ (fun _ _ _ _ _=>trivial) ?_ ?_
  ·rintro i w G E g ⟨ts,o,rfl,rfl,x,ht⟩
   have hi:=(Ak.mp g).1
   obtain⟨d,⟨L,hd1⟩,rfl⟩:=I w (Av g)
   have fin:∀ t,(t∈wds\/t∈b)->∃ (n:List Str) (o:Option W),[some (.int c),some (.rl (b.map W.str)),some (.rl (wds.map W.str)),some (.int a),some (.rl (([x1,x2,x3,x4] ++ f).map W.int)),some (.ref p),some (.int d)]=[some (.int c),some (.rl (b.map W.str)),some (.rl (wds.map W.str)),some (.int a),some (.rl (([x1,x2,x3,x4] ++ f).map W.int)),some (.ref p),o]/\
     put M p (.lst (ts.map W.str ++ [.str t]))=put M p (.lst (n.map W.str))/\n.length=i + 1/\∀ t∈n,t∈wds\/t∈b:=fun t C=>
    ⟨ts ++ [t],_,rfl,by rw[Bi];rfl,by rw[Am,x];rfl,fun u V=>(Bh.mp V).elim (ht u) fun q=>by rw[Ax.mp q];exact C⟩
   simp? only[KH,B]
   split
   ·obtain⟨t,e,m⟩:=uA (ts:=wds) (k:=d) L (by lia)
    exact⟨_,e,by rw[Ab];lia,_,Sub.refl _,fin t (.inl m)⟩
   ·have l:(0:Int) < ((b.map W.str).length:Int):=by rw[Ab];lia
    obtain⟨t,e,m⟩:=uA (ts:=b) (k:=(d - 3 + x1) % ((b.map W.str).length:Int)) (Fb _ (by lia)) (by have:=Ee (d - 3 + x1) l;rw[Ab] at this ⊢;exact this)
    exact⟨l,_,e,by rw[Ab];lia,_,Sub.refl _,fin t (.inr m)⟩
  ·rintro G E ⟨ts,o,rfl,rfl,x,ht⟩
   obtain⟨nm,en,mn⟩:=uA (ts:=b) (k:=x1) A y
   simp? only[KJ,B,Q,U,P,en]
   refine⟨⟨by decide,by decide,by decide⟩,?_⟩
   obtain⟨O,J,_,v⟩:=tX (xs:=[W.int 1,W.int 10,W.int (10 ^ (59:Int).toNat)]) (i:=x3) D (by simp;lia)
   refine⟨O,J,?_⟩
   have K:∃ q:Int,O=.int q/\0 < q/\q<=10 ^ 59:=by
    simp at v
    rcases v with rfl | rfl | rfl
    ·exact⟨_,rfl,by decide,by decide⟩
    ·exact⟨_,rfl,by decide,by decide⟩
    ·exact⟨_,rfl,by decide,by decide⟩
   obtain⟨q,rfl,N,q1⟩:=K
   simp? only[]
   have F:=Ee x4 N
   refine⟨N,_,Sub.new hp,r ⟨nm,ts,x4 % q⟩ ⟨mn,ht,by show ts.length<=4;lia,Fb _ (by lia),Int.lt_of_lt_of_le F (Int.le_trans q1 (by decide))⟩ (by show(ts.length:Int)<=a;lia)⟩
theorem Paired.rules{hs wds:List Str}{most:Int}{xs ys:List W}(h:Fm (fun _ y=>∃ r,y=aX r/\mW hs wds r/\(r.parts.length:Int)<=most) xs ys):∃ rs:List aG,ys=rs.map aX/\rs.length=xs.length/\∀ r∈rs,mW hs wds r/\(r.parts.length:Int)<=most:=by
 induction h with
 | nil=>exact⟨[],rfl,rfl,fun r hr=>nomatch hr⟩
 | cons a b ih=>
  obtain⟨r,rfl,h1⟩:=a
  obtain⟨rs,rfl,hl,h2⟩:=ih
  refine⟨r :: rs,rfl,by simp[hl],fun q hq=>?_⟩
  rcases Be.mp hq with rfl | hq
  ·exact h1
  ·exact h2 q hq
theorem zdp{ws:List W}{M:Mm}{R:K3}(h:yV ws M R):zC (bB R) (bS zcX ws) M:=by
 obtain⟨zs,many,most,rfl,hi,hl,hm0,hm1,ho0,ho1,r⟩:=h
 show zC (bB R) [some (.rl zs),some (.int many),some (.int most),none,none,none,none,none,none] M
 simp? only[zC,KL]
 refine⟨zs,0,.inr rfl,hi,by decide,fun c=>⟨⟨by decide,by decide,by decide⟩,⟨by decide,by decide,by decide⟩,c,[10 ^ 9,10 ^ 9],rfl,by decide,fun s hs=>?_,fun ds hd=>aV.frz ?_⟩⟩
 ·simp at hs;subst hs;exact⟨by decide,by decide⟩
 obtain⟨x1,x2,rfl,b1,b2⟩:=JX hd
 simp? only[KN,KO]
 refine⟨x1,many,true,rfl,by omega,by omega,fun hs hsl hhs=>aV.frz ⟨x2,3,false,rfl,by decide,by decide,fun wds hwl hws=>aV.frz ?_⟩⟩
 simp? only[KP]
 have hwl:wds.length=3:=hwl
 refine JH (rest:=[some (.rl (hs.map W.str)),some (.rl (wds.map W.str)),some (.int most)]) (fun _ y=>∃ r,y=aX r/\mW hs wds r/\(r.parts.length:Int)<=most) (small (by have:=JK (ws:=zs) (lo:=some 1) (hi:=none);omega)) (fun _ _=>trivial) (fun w hw M' C sb h1=>?_) fun ys hys p hp=>?_
 ·obtain⟨i,rfl⟩:=hi w (JJ hw)
  simp? only[]
  exact⟨i,hs,wds,most,rfl,by omega,by omega,hwl,by omega,by omega,fun r h2 h3=>h1 _ ⟨r,rfl,h2,h3⟩⟩
 obtain⟨rs,rfl,hrl,hrs⟩:=Paired.rules hys
 have hcl:=JK (ws:=zs) (lo:=some 1) (hi:=none)
 obtain⟨w0,ew,mw⟩:=uA (ts:=wds) (k:=0) (by decide) (by omega)
 simp? only[KR]
 refine d5 (fun i τ M'=>∃ (qs:List aG) (o8:Option W),τ=[some (.rl zs),some (.int many),some (.int most),some (.int x1),some (.int x2),some (.rl (hs.map W.str)),some (.rl (wds.map W.str)),some (.ref p),o8]/\
   M'=put M p (.lst (qs.map aX))/\qs.length<=rs.length + i/\(∀ r∈qs,mW hs wds r/\(r.parts.length:Int)<=most)/\(∀ t∈hs.take i,∃ r∈qs,r.name=t)) ⟨rs,_,rfl,rfl,by omega,hrs,by simp⟩ (fun _ _ _ _ _=>trivial) ?_ ?_
 ·rintro i w τ M' hw ⟨qs,o8,rfl,rfl,hql,hq,hcov⟩
  rw[Aw] at hw
  obtain⟨t,ht,rfl⟩:=Bb.mp hw
  have hilt:=(Ak.mp ht).1
  have htm:t∈hs:=Av ht
  simp? only[KQ]
  refine kX (rest:=[]) (fun w=>match w with | .tup (n :: _)=>n | _=>.non) (small (by rw[Ab];omega)) (fun M' sb=>sb _ _ a5) (fun w hw M' C sb h1=>?_) (aV.frz ?_)
  ·obtain⟨q,_,rfl⟩:=Ao.mp hw
   simp? only[aX]
   exact h1
  have em:(qs.map aX).map (fun w=>match w with | .tup (n :: _)=>n | _=>W.non)=(qs.map aG.name).map W.str:=by
   rw[Bx,Bx];rfl
  rw[em]
  simp? only[L3.rIn,pK,rC,eF]
  have cov:∀ qs':List aG,(∀ r∈qs,r∈qs')->(∃ r∈qs',r.name=t)->∀ u∈hs.take (i + 1),∃ r∈qs',r.name=u:=fun qs' hsub hex u hu=>by
   rw[Dy,ht] at hu
   rcases Bh.mp hu with q | q
   ·obtain⟨r,hr,e⟩:=hcov u q;exact⟨r,hsub r hr,e⟩
   ·simp at q;subst q;exact hex
  split
  ·simp? only[ew]
   refine⟨by rw[Ab];omega,_,Sub.refl _,qs ++ [⟨t,[w0],0⟩],_,rfl,by rw[Bi];rfl,by simp;omega,fun r hr=>?_,cov _ (fun r hr=>Co _ hr) ⟨⟨t,[w0],0⟩,by simp,rfl⟩⟩
   rcases Bh.mp hr with hr | hr
   ·exact hq r hr
   ·rw[Ax.mp hr]
    exact⟨⟨htm,fun u hu=>.inl (by rw[Ax.mp hu];exact mw),by show 1<=4;decide,by show(0:Int)<=0;decide,by show(0:Int) < 10 ^ 60;decide⟩,by show(1:Int)<=most;omega⟩
  ·rename_i hin
   have hin':t∈qs.map aG.name:=Classical.not_not.mp hin
   obtain⟨r0,hr0,e0⟩:=Ao.mp hin'
   exact⟨_,Sub.refl _,qs,_,rfl,rfl,by omega,hq,cov _ (fun r hr=>hr) ⟨r0,hr0,e0⟩⟩
 ·rintro τ M' ⟨qs,o8,rfl,rfl,hql,hq,hcov⟩
  rw[Ab] at hql
  rw[Ab,Cq] at hcov
  simp? only[KS]
  have hsn:hs.length=many.toNat:=hsl
  refine⟨_,Sub.refl _,r qs ⟨fun e=>?_,by omega,hs,wds,by omega,fun t ht=>hhs t ht,fun t ht=>hws t ht,fun r hr=>(hq r hr).1,hcov⟩ (fun r hr=>(hq r hr).2) ⟨hs,wds,by omega,hwl,fun t ht=>hhs t ht,fun t ht=>hws t ht,fun r hr=>(hq r hr).1,hcov⟩ p hp⟩
  subst e
  cases hs with
  | nil=>simp at hsn;omega
  | cons a b=>obtain⟨r,hr,_⟩:=hcov a Ba;cases hr
end Rg
namespace PySem
namespace Dp
open PyProof.Rows L2 PySem.Spec
section
variable {prog:Ay}{w:Bq}{A:Cr}{E:Ae->Ah->Prop}{s:Ah}
theorem zdq:typeLookup (.type "list") "keys" = pure none:=by rw[Kh,Hn];kernel_rfl
theorem keys_miss{a:Addr}{xs:Array Ae}{k:Nat}{Q:Option Ae->Ah->Prop}(hx:s.heap.get? a=some {cls:=.type "list",data:=.seq xs k})(hA:A.handled=none)
  (h:∀ h' tk,(∀ b o,s.heap.get? b=some o->h'.get? b=some o)->Q none {s with heap:=h',toks:=tk}):Bf (Bu prog w) A (getAttr? (.ref a) (Bw "keys")) Q E s:=by
 obtain⟨hp,g,d,tk,os⟩:=s
 have hT:∀ tk',(⟨hp,g,d,tk',os⟩:Ah).TypeIs (.ref a) "list":=fun _=>⟨_,hx,rfl⟩
 have f1:=sub_AttributeError
 have f3:=Lj.lookup
 have f4:=Lj.bind (.ref a)
 have f5:=am_list_getattr_none
 unfold getAttr? getAttrBy? getAttrBy
 repeat (any_goals (first | assumption | exact hT _ | ((with_reducible show Bf _ _ (call (Value.builtin "list.__getattribute__") _ _) _ _ _);refine Jf Lj (hT _) am_entry_list_getattribute (F.args_list_getattribute_2 _ _) (meets_getattribute_miss_list a xs k #[] (Bw "keys") _ zdq (by decide +kernel) (by decide +kernel)) ⟨hx,hA,fun h' tk' e hx'=>?_⟩) | wp_step))
 obtain⟨t',u',he⟩:=hx'.there
 have hx2:=hx'.of.keeps
 show Bf _ _ (getattributeRaised _ _ _ _ _ _ _) _ _ _
 unfold getattributeRaised
 repeat (any_goals (first | assumption | wp_step))
 exact h _ _ hx2
theorem entry_loop:entryFor table "dict.update.loop" = some Ih.«dict.update.loop»:=entryFor_of_tree (by kernel_rfl)
theorem plain_loop:plainId "dict.update.loop" = true:=by decide +kernel
variable {K:Type}[DecidableEq K]{knd:KeyKind prog w K}
theorem zdr(kvs:List (K×Ae))(k:K)(v:Ae):(stored kvs k v).length<=kvs.length + 1:=by
 unfold stored
 split
 ·rw[Ab];lia
 ·rw[Am,Bn];exact Aj _
def all(kvs:List (K×Ae))(ps:List (K×Ae)):List (K×Ae):=ps.foldl (fun kvs p=>stored kvs p.1 p.2) kvs
theorem loop{d I l:Addr}{items:Array Ae}{ps:List (K×Ae)}{R:Result->Ah->Prop}(hh:A.handled=none)(hdI:d≠I)(hdl:d≠l)(hlI:l≠I)(hn:ps.length=items.size)(hz:items.size<=Ai) :
  ∀ (k i:Nat) (s:Ah) (kvs:List (K×Ae)),items.size - i=k->i<=items.size->kvs.length<=i->s.heap.IsListIter I l i->s.heap.IsList l items->s.heap.DictOf knd d kvs->
  (∀ (j:Nat) (p:K×Ae),ps[j]? = some p->∃ (a:Addr) (key:Ae),items[j]? = some (.ref a)/\a≠d/\a≠I/\s.heap.IsTuple a #[key,p.2]/\knd.is p.1 key=true)->
  (∀ h' tk,(∀ b o,b≠d->b≠I->s.heap.get? b=some o->h'.get? b=some o)->h'.DictOf knd d (all kvs (ps.drop i))->R (.ok (.ret .none)) {s with heap:=h',toks:=tk})->
  Kt (Bu prog w) A (.builtin "dict.update.loop" ⟨[.ref d,.ref I,Ii (i:Int),.none],[]⟩) R s:=by
 intro k
 induction k with
 | zero=>
  intro i s kvs hk hi hl hit hls hd hp hR
  have hin:i=items.size:=by lia
  refine Ja entry_loop ?_
  rw[Fz plain_loop _]
  show Bf _ A.in1 (Gp (.ref I) >>= _) _ _ s
  have W:=Ld (prog:=prog) (w:=w) (A:=A.in1) hh I l hlI items
  refine Aa (W.done s _ _ (by rw[<-hin];exact⟨hit,hls⟩) fun h' tk hm=>?_)
  show Bf _ A.in1 (Builtin.Dict.addKeywords d [] >>= _) _ _ _
  have hd':h'.DictOf knd d kvs:=by
   obtain⟨o,es,ep,ho,rest⟩:=hd
   exact⟨o,es,ep,hm d o (by simp[hdI]) ho,rest⟩
  refine Aa (Af (Af (hR h' tk (fun b o _ hb e=>hm b o (by simp[hb]) e) ?_)))
  rw[List.drop_of_length_le (by lia)]
  exact hd'
 | succ k ih=>
  intro i s kvs hk hi hl hit hls hd hp hR
  have hlt:i < items.size:=by lia
  refine Ja entry_loop ?_
  rw[Fz plain_loop _]
  show Bf _ A.in1 (Gp (.ref I) >>= _) _ _ s
  have W:=Ld (prog:=prog) (w:=w) (A:=A.in1) hh I l hlI items
  refine Aa (W.item i s _ _ hlt ⟨hit,hls⟩ fun v h' tk hv hst hm=>?_)
  obtain⟨p,hpi⟩:∃ p,ps[i]? = some p:=⟨_,Bp (by lia)⟩
  obtain⟨a,key,ha,had,haI,hat,hkey⟩:=hp i p hpi
  rw[ha] at hv
  cases hv
  have hd':h'.DictOf knd d kvs:=by
   obtain⟨o,es,ep,ho,rest⟩:=hd
   exact⟨o,es,ep,hm d o (by simp[hdI]) ho,rest⟩
  have hat':h'.IsTuple a #[key,p.2]:=by
   obtain⟨o,ho,rest⟩:=hat
   exact⟨o,hm a o (by simp[haI]) ho,rest⟩
  show Bf _ A.in1 (Hr [Value.ref a] _ >>= _) _ _ _
  refine Aa (Cy (Aa (wpAny_tryCatch ?_)))
  unfold Builtin.Dict.pairItems
  obtain⟨o,ho,hc,n,hd2⟩:=hat'
  refine Aa (Kr (T:="tuple") ⟨o,ho,hc⟩ ?_)
  rw[if_pos (by decide)]
  refine Aa (Mv ho hd2 (Af ?_))
  show Bf _ _ (Hr [key,p.2] (dictSet d key p.2)) _ _ _
  refine Cy (wpAny_dictSet_pairs hkey hd' (hsz:=by lia) fun h2 hd3 hs2=>?_)
  have e1:ps.drop i=p :: ps.drop (i + 1):=by rw[Kq (by lia)];congr 1;exact(Ak.mp hpi).2
  refine Af ⟨Lr plain_loop _,?_⟩
  refine ih (i + 1) _ (stored kvs p.1 p.2) (by lia) hlt (by have:=zdr kvs p.1 p.2;lia) (hst.1.at fun o e=>(hs2.2 I (Ca hdI)).trans e) (hst.2.at fun o e=>(hs2.2 l (Ca hdl)).trans e) hd3 (fun j q hq=>?_) fun h3 tk3 hk3 hd4=>?_
  ·obtain⟨a,key,g1,g2,g3,⟨o,g4,g5⟩,g6⟩:=hp j q hq
   exact⟨a,key,g1,g2,g3,⟨o,(hs2.2 a g2).trans (hm a o (by simp[g3]) g4),g5⟩,g6⟩
  ·refine hR h3 tk3 (fun b o h1 h2 e=>hk3 b o h1 h2 ((hs2.2 b h1).trans (hm b o (by simp[h2]) e))) ?_
   rw[e1];exact hd4
theorem call_pairs{l:Addr}{items:Array Ae}{c:Nat}{ps:List (K×Ae)}{Q:Ae->Ah->Prop}(hh:A.handled=none)(hx:s.heap.get? l=some {cls:=.type "list",data:=.seq items c})(hn:ps.length=items.size)(hz:items.size<=Ai)
  (hp:∀ (j:Nat) (p:K×Ae),ps[j]? = some p->∃ (a:Addr) (key:Ae),items[j]? = some (.ref a)/\s.heap.IsTuple a #[key,p.2]/\knd.is p.1 key=true)
  (h:∀ h' tk,(∀ b o,s.heap.get? b=some o->h'.get? b=some o)->h'.DictOf knd s.heap.objs.size (all [] ps)->Q (.ref s.heap.objs.size) {s with heap:=h',toks:=tk}) :
  Bf (Bu prog w) A (call (.type "dict") [.ref l]) Q E s:=by
 refine callType_codes (Q₁:=fun obj s₁=>obj=.ref s.heap.objs.size/\s₁ = {s with heap:=s.heap.push {cls:=.type "dict",data:=.dict #[]}}) F.kt_called_dict (F.kt_typeCall_dict_1 _) F.entry_dict_init (kt_code_dict_new _ ⟨rfl,rfl⟩) ?_
 rintro obj s₁ ⟨rfl,rfl⟩
 have lt:l < s.heap.objs.size:=Bc hx
 have hnew:(s.heap.push {cls:=.type "dict",data:=.dict #[]}).DictOf knd s.heap.objs.size []:=Heap.DictOf.new s.heap
 have hx':(s.heap.push {cls:=.type "dict",data:=.dict #[]}).get? l=some {cls:=.type "list",data:=.seq items c}:=Ag _ hx
 refine⟨hnew.typeIs,F.args_dict_init_2 _ _,?_⟩
 unfold Ih.«dict.__init__»
 refine Aa ?_
 unfold Builtin.Dict.selfAndRest
 refine Aa (Fi hnew.typeIs ?_)
 show Bf _ _ (pure (s.heap.objs.size,[Value.ref l])) _ _ _
 refine Af ?_
 show Bf _ _ (Ho "dict.__init__" s.heap.objs.size (.ref l) [] .none) _ _ _
 unfold Ho
 refine Aa (Kr (T:="list") ⟨_,hx',rfl⟩ ?_)
 rw[if_pos (by decide)]
 refine Aa (keys_miss hx' hh fun h1 tk1 hk1=>?_)
 rw[if_pos (by decide)]
 have hx1:=hk1 _ _ hx'
 have hd1:h1.DictOf knd s.heap.objs.size []:=by
  obtain⟨o,es,ep,ho,rest⟩:=hnew
  exact⟨o,es,ep,hk1 _ o ho,rest⟩
 refine Aa (Gz (Aa (Hq (items:=items) ⟨_,hx1,rfl,c,rfl⟩ ?_)))
 have gI:(h1.push {cls:=.type "list_iterator",data:=.fields #[.ref l,.int 0 0]}).IsListIter h1.objs.size l 0:=⟨_,Ar _ rfl,rfl,rfl⟩
 have up:∀ b o,s.heap.get? b=some o->(h1.push {cls:=.type "list_iterator",data:=.fields #[.ref l,.int 0 0]}).get? b=some o:=fun b o e=>Ag _ (hk1 b o (Ag _ e))
 have l1:s.heap.objs.size < h1.objs.size:=by
  obtain⟨o,es,ep,ho,rest⟩:=hd1
  exact Bc ho
 refine Af ⟨Lr plain_loop _,?_⟩
 refine loop (A:=A.in1) (knd:=knd) (d:=s.heap.objs.size) (I:=h1.objs.size) (l:=l) (items:=items) (ps:=ps) hh (Bj l1) (Gq lt) (Bj (Hu lt l1)) hn hz items.size 0 _ [] rfl (De _) (Aj _) gI ⟨_,Ag _ hx1,rfl,c,rfl⟩ (by
  obtain⟨o,es,ep,ho,rest⟩:=hd1
  exact⟨o,es,ep,Ag _ ho,rest⟩) (fun j p hj=>?_) fun h2 tk2 hk2 hd2=>?_
 ·obtain⟨a,key,g1,⟨o,g2,g3⟩,g4⟩:=hp j p hj
  have la:=Bc g2
  exact⟨a,key,g1,Bj la,Bj (Hu la l1),⟨o,up a o g2,g3⟩,g4⟩
 ·exact⟨rfl,h h2 tk2 (fun b o e=>hk2 b o (Bj (Bc e)) (Bj (Hu (Bc e) l1)) (up b o e)) hd2⟩
end
end Dp
end PySem
namespace L3
open PySem PySem.Spec PyProof.Rows L2
section
variable {X:Cx}
def kY(kvs:List (aD×W))(ps:List (aD×W)):List (aD×W):=ps.foldl (fun kvs p=>b9 kvs p.1 p.2) kvs
def mY(ps:List (aD×W)):List W:=ps.map fun p=>.tup [wK p.1,p.2]
def zF:List W->Mm->K3->Prop
 | [.rl ws],M,R=>∃ ps:List (aD×W),ws=mY ps/\ws.length<=Ai/\nM (kY [] ps) M R
 | _,_,_=>False
theorem zG{pins:List (Addr×Obj)}{σ:L2.St}{H:Hp}{M:Mm}{s:Ah}(I:L2.Inv X pins σ H s):∀ {ps:List (aD×W)} {vs:List V} {its:List Ae},aM X.K H M vs (mY ps)->aZ vs its->
  ∃ (ks:List (aD×V)) (rs:List (aD×Ae)),bK X.K H M aD ks ps/\KV ks rs/\rs.length=its.length/\
   ∀ (j:Nat) (p:aD×Ae),rs[j]? = some p->∃ (a:Addr) (key:Ae),its[j]? = some (.ref a)/\s.heap.IsTuple a #[key,p.2]/\(bH X.prog X.w).is p.1 key=true
 | [],_,_,.nil,.nil=>⟨[],[],.nil,.nil,rfl,fun j p h=>by simp at h⟩
 | (k,w) :: ps,_,_,.cons av avs,.cons rv rvs=>by
  obtain⟨ks,rs,h1,h2,h3,h4⟩:=zG I avs rvs
  obtain⟨a,xs,ev,e,q⟩:=av.inv
  rw[ev] at rv
  obtain⟨u1,u2,ex,a1,a2⟩:=q.two
  obtain⟨its2,r2,pl,_⟩:=I.tuple (bV.of e)
  rw[ex,a1.key] at r2
  obtain⟨y1,y2,ey,x1,x2⟩:=vals2 r2
  rw[ey] at pl
  refine⟨(k,u2) :: ks,(k,y2) :: rs,.cons ⟨rfl,a2⟩ h1,.cons ⟨rfl,x2⟩ h2,congrArg (· + 1) h3,fun j p hj=>?_⟩
  cases j with
  | zero=>rw[<-Cp hj];exact⟨a,y1,congrArg some rv,pl,jY x1⟩
  | succ j=>exact h4 j p hj
theorem zH{H:Hp}{M:Mm}:∀ {ps:List (aD×W)} {ks:List (aD×V)} {rs:List (aD×Ae)} {kvs:List (aD×W)} {ls:List (aD×V)} {us:List (aD×Ae)},bK X.K H M aD ks ps->KV ks rs->bK X.K H M aD ls kvs->KV ls us->
  ∃ ls':List (aD×V),bK X.K H M aD ls' (kY kvs ps)/\KV ls' (Dp.all us rs)/\ls'.length<=ls.length + ps.length
 | [],_,_,_,ls,_,.nil,.nil,h1,h2=>⟨ls,h1,h2,Aj _⟩
 | p :: ps,_,_,_,ls,_,.cons (a:=a) x r,.cons (b:=b) y t,h1,h2=>by
  obtain⟨k,w⟩:=p
  obtain⟨k1,v⟩:=a
  obtain⟨k2,u⟩:=b
  obtain⟨x1,x2⟩:=x
  obtain⟨y1,y2⟩:=y
  cases x1;cases y1
  obtain⟨ls',g1,g2,g3⟩:=zH (kvs:=b9 _ k w) r t (tL h1 k x2) (h2.put k y2)
  have:=oM ls k v
  exact⟨ls',g1,g2,by simp at g3 ⊢;lia⟩
theorem zds(hc:X.calm=true):cN X (.type "dict") (fG X.K zF):=by
 rintro pins s σ H xs us Q I rs ⟨ws,M,R,am,axs,h,k⟩
 match ws,h with
 | [.rl ws],h=>
  obtain⟨v,rfl,av⟩:=axs.one
  obtain⟨ps,rfl,hz,r⟩:=h
  obtain⟨u,rfl,ru⟩:=vals1 rs
  cases av with
  | rl f n q=>
   cases ru
   obtain⟨z,its,c,rv,hl,e⟩:=I.lstM f
   obtain⟨ks,rs',h1,h2,h3,h4⟩:=zG I q rv
   obtain⟨ls,g1,g2,g3⟩:=zH h1 h2 .nil .nil
   refine Dp.call_pairs (knd:=bH X.prog X.w) (items:=its.toArray) (ps:=rs') (I.ok.hd hc) e (by simpa using h3) (by rw[Az];lia) (fun j p hj=>by simpa using h4 j p hj) fun h' tk hk hd=>?_
   have hz2:ps.length<=Ai:=by simpa [mY] using hz
   have hfr:=I.hok.fresh (Aj _)
   refine⟨.ref s.heap.objs.size,aR H s.heap.objs.size (.dK ls),I.laid (o:=.dK ls) (t':=tk) hk (Aj _) ⟨by simp at g3;lia,beq_eq_false_iff_ne.mpr (Ca (Bj I.big)),_,g2,hd⟩,rfl,?_⟩
   obtain⟨am2,k2⟩:=am.laid (o:=.dK (kY [] ps)) (u:=.dK ls) hfr ⟨ls,cM,pkv_new hfr g1⟩
   exact k _ _ _ _ k2 am2 (.ref _) (r _ (am.nonM hfr))
where
 pkv_new:∀ {H:Hp} {M:Mm} {p:Addr} {ks ls:List (aD×V)} {kvs kus:List (aD×W)},H p=none->bK X.K H M aD ks kvs->bK X.K (aR H p (.dK ls)) (put M p (.dK kus)) aD ks kvs:=fun hp h=>nK h.keys (h.vals.newL hp)
def KW:List W->Mm->K3->Prop
 | [.rl ws],M,R=>∃ ps:List (aD×W),ws=mY ps/\ws.length<=Ai/\R (.dk (kY [] ps)) M
 | _,_,_=>False
theorem zdt(hc:X.calm=true):cN X (.type "dict") (fG X.K KW):=by
 rintro pins s σ H xs us Q I rs ⟨ws,M,R,am,axs,h,k⟩
 match ws,h with
 | [.rl ws],h=>
  obtain⟨v,rfl,av⟩:=axs.one
  obtain⟨ps,rfl,hz,r⟩:=h
  obtain⟨u,rfl,ru⟩:=vals1 rs
  cases av with
  | rl f n q=>
   cases ru
   obtain⟨z,its,c,rv,hl,e⟩:=I.lstM f
   obtain⟨ks,rs',h1,h2,h3,h4⟩:=zG I q rv
   obtain⟨ls,g1,g2,g3⟩:=zH h1 h2 .nil .nil
   refine Dp.call_pairs (knd:=bH X.prog X.w) (items:=its.toArray) (ps:=rs') (I.ok.hd hc) e (by simpa using h3) (by rw[Az];lia) (fun j p hj=>by simpa using h4 j p hj) fun h' tk hk hd=>?_
   have hz2:ps.length<=Ai:=by simpa [mY] using hz
   have hfr:=I.hok.fresh (Aj _)
   refine⟨.ref s.heap.objs.size,aR H s.heap.objs.size (.dK ls),I.laid (o:=.dK ls) (t':=tk) hk (Aj _) ⟨by simp at g3;lia,beq_eq_false_iff_ne.mpr (Ca (Bj I.big)),_,g2,hd⟩,rfl,?_⟩
   obtain⟨am2,k2⟩:=am.tup (u:=.dK ls) hfr
   exact k _ _ _ _ k2 am2 (.dk cM (am.nonM hfr) g1.keys (g1.vals.newT hfr)) r
end
end L3
namespace Rg
open PySem PySem.Spec PyProof.Rows L2 L3
def mZ(m:Nat):Str:=Bw (toString ((m:Nat):Int))
theorem zdu(m:Nat):cs (mZ m)=(Jg 10 m).map Char.toNat:=PySem.W.KIN.signs_num m
end Rg
namespace L3
open PySem PySem.Spec PyProof.Rows L2
def bX(f:Str)(w:W):List (Str×W)->List (Str×W)
 | []=>[(f,w)]
 | (k,x) :: r=>if k=f then(k,w) :: r else(k,x) :: bX f w r
section
variable {K:Ac}{H:Hp}{M:Mm}
theorem bK.look{f:Str}{w:W}:∀ {gs:List (Str×V)} {fs:List (Str×W)},bK K H M Str gs fs->fs.lookup f=some w->∃ v,gs.lookup f=some v/\AV K H M v w
 | _,_,.nil,h=>by cases h
 | _,_,.cons (a:=(k,v)) (b:=(k',w')) r t,h=>by
  obtain⟨rfl,av⟩:=r
  by_cases hk:(f == k)=true
  ·simp only[Bz,hk] at h ⊢
   cases h
   exact⟨v,rfl,av⟩
  ·have hk':(f == k)=false:=by simpa using hk
   simp only[Bz,hk'] at h ⊢
   exact bK.look t h
theorem bK.lookN{f:Str}:∀ {gs:List (Str×V)} {fs:List (Str×W)},bK K H M Str gs fs->fs.lookup f=none->gs.lookup f=none
 | _,_,.nil,_=>rfl
 | _,_,.cons (a:=(k,v)) (b:=(k',w')) r t,h=>by
  obtain⟨rfl,av⟩:=r
  by_cases hk:(f == k)=true
  ·simp only[Bz,hk] at h
   cases h
  ·have hk':(f == k)=false:=by simpa using hk
   simp only[Bz,hk'] at h ⊢
   exact bK.lookN t h
theorem bK.putF{f:Str}{v:V}{w:W}(av:AV K H M v w):∀ {gs:List (Str×V)} {fs:List (Str×W)},bK K H M Str gs fs->bK K H M Str (L2.putF f v gs) (bX f w fs)
 | _,_,.nil=>.cons ⟨rfl,av⟩ .nil
 | _,_,.cons (a:=(k,v')) (b:=(k',w')) r t=>by
  obtain⟨rfl,av'⟩:=r
  show bK K H M Str (if k=f then(k,v) :: _ else(k,v') :: L2.putF f v _) (if k=f then(k,w) :: _ else(k,w') :: bX f w _)
  by_cases hk:k=f
  ·rw[if_pos hk,if_pos hk];exact .cons ⟨rfl,av⟩ t
  ·rw[if_neg hk,if_neg hk];exact .cons ⟨rfl,av'⟩ (bK.putF av t)
theorem bK.len{κ:Type}{gs:List (κ×V)}{fs:List (κ×W)}(h:bK K H M κ gs fs):gs.length=fs.length:=by
 have:=congrArg Bg h.keys
 simpa using this
end
section
variable {X:Cx}{C:Addr}{f m:Str}{pos apos cpos:Pos}{ta tv:aW}{o e value:Expr}{es:List Expr}{t:dZ}{sp:bL}
def cI(C:Addr)(ta:aW)(f:Str):aW:=fun τ M R=>ta τ M fun x M1=>∃ a dx fs w,x=.ref a/\M1 a=some (.ins C dx fs)/\fs.lookup f=some w/\R w M1
theorem dC(c:gD X.K C)(n:fP X.K C f)(he:E3 X o ta)(hb:Ez o f X.env (eval o X.env)=eval o X.env:=by rfl):E3 X (.Attribute o f pos) (cI C ta f):=
 (UE he hb).weak fun σ H Q z0=>z0.el fun τ M R as am h k=>⟨τ,M,_,as,am,h,fun x H1 wx M1 k1 am1 ax ⟨a,dx,fs,w,e1,e2,e3,r⟩=>by
  subst e1
  obtain rfl:=ax.inv
  obtain⟨gs,e4,q⟩:=am1 a _ e2
  obtain⟨v,e5,av⟩:=q.look e3
  exact⟨a,C,dx,gs,v,rfl,e4,c,n,e5,k _ _ _ _ k1 am1 av r⟩⟩
def jA(C:Addr)(ta:aW)(f:Str)(tv:aW):aH:=fun D τ M=>tv τ M fun y M1=>ta τ M1 fun x M2=>∃ a dx fs,x=.ref a/\M2 a=some (.ins C dx fs)/\fs.length < 1000/\D.nx τ (put M2 a (.ins C dx (bX f y fs)))
theorem j8(c:gD X.K C)(n:fP X.K C f)(ha:E3 X o ta)(hv:E3 X value tv)(hs:Hg value (some (.Attribute o f apos)) pos.line X.env=pure false:=by rfl):P3 X (.Assign [.Attribute o f apos] value pos) (jA C ta f tv):=
 (UG ha hv hs).weak fun D σ H z0=>z0.el fun τ M D' as am h k=>⟨τ,M,_,as,am,h,fun y H1 wy M1 k1 am1 ay h1=>⟨τ,M1,_,as.kp am k1,am1,h1,fun x H2 wx M2 k2 am2 ax ⟨a,dx,fs,e1,e2,hl,r⟩=>by
  subst e1
  obtain rfl:=ax.inv
  obtain⟨gs,e4,q⟩:=am2 a _ e2
  refine⟨a,C,dx,gs,rfl,e4,c,n,by rw[q.len];exact hl,?_⟩
  obtain⟨am3,k3⟩:=am2.write (o:=.ins C dx (bX f wy fs)) (u:=.ins C dx (L2.putF f y gs)) e2 ⟨_,cM,((q.putF (ay.kp am1 k2))).go (nL am2 e2)⟩
  exact k.nx _ _ _ _ ((k1.trans k2).trans k3) am3 (((as.kp am k1).kp am1 k2).kp am2 k3) r⟩⟩
variable {k:Nat}{g:Addr}{fd:Bo}{ps:List Str}
def fR(C:Addr)(m:Str)(sp:bL)(ta:aW)(t:dZ):aW:=fun τ M R=>ta τ M fun x M1=>∃ a dx fs,x=.ref a/\M1 a=some (.ins C dx fs)/\fs.lookup m=none/\t τ M1 fun ws M2=>sp (.ref a :: ws) M2 R
theorem zdv{σ:SV}{H:Hp}{Q:VK}(h:up X.K (fR C m sp ta t) σ H Q):wM C m (hV X.K sp) [] E0 (up X.K ta) (oT X.K t) σ H Q:=by
 obtain⟨τ,M,R,as,am,h,k⟩:=h
 refine⟨τ,M,_,as,am,h,fun x H1 wx M1 k1 am1 ax ⟨a,dx,fs,e1,e2,e3,h1⟩=>?_⟩
 subst e1
 obtain rfl:=ax.inv
 obtain⟨gs,e4,q⟩:=am1 a _ e2
 refine⟨a,dx,gs,rfl,e4,q.lookN e3,τ,M1,_,as.kp am k1,am1,h1,fun vs H2 ws M2 k2 am2 avs h2=>⟨.ref a :: ws,M2,R,am2,?_,h2,k.kp (k1.trans k2)⟩⟩
 rw[Gf]
 exact .cons (.ref a) avs
theorem kZ{pl:Sem Bool}(c:gD X.K C)(hm:oJ X.K C m g)(F:fB X.prog X.w X.K X.mg X.base gP k g fd ps (hV X.K sp))(hr:cT k X.A)(hb:Binds X.K fd ps [])(he:E3 X o ta)(ha:A3 X (e :: es) t)
  (hst:Bl (e :: es) X.env=(false,eval e X.env) :: Bl es X.env:=by rfl) (hpl:(Fs pos (Bl es X.env)).any (·.1)=false:=by rfl)
  (ht:eval (.Call (.Attribute o m apos) (e :: es) [] pos) X.env=(do
   let ov <-eval o X.env
   My apos.atName
   let (f,first) <-Hr [ov] (Mz ov m pl)
   callWith pos f first (Fs pos (Bl (e :: es) X.env)) (Ly pos (Jj [] X.env))):=by rfl) :
  E3 X (.Call (.Attribute o m apos) (e :: es) [] pos) (fR C m sp ta t):=(UR (pl:=pl) he c hm F hr hb .nil qD ha hst hpl ht).weak fun _ _ _ h=>zdv h
theorem rD{pl:Sem Bool}(c:gD X.K C)(hm:oJ X.K C m g)(F:fB X.prog X.w X.K X.mg X.base gP k g fd ps (hV X.K sp))(hr:cT k X.A)(hb:Binds X.K fd ps [])(he:E3 X o ta)
  (ht:eval (.Call (.Attribute o m apos) [] [] pos) X.env=(do
   let ov <-eval o X.env
   My apos.atName
   let (f,first) <-Hr [ov] (Mz ov m pl)
   callWith pos f first (Fs pos (Bl [] X.env)) (Ly pos (Jj [] X.env))):=by rfl) :
  E3 X (.Call (.Attribute o m apos) [] [] pos) (fR C m sp ta aF):=(US (pl:=pl) he c hm F hr hb .nil qD ht).weak fun σ H Q h=>by
 obtain⟨τ,M,R,as,am,h,k⟩:=h
 refine⟨τ,M,_,as,am,h,fun x H1 wx M1 k1 am1 ax ⟨a,dx,fs,e1,e2,e3,h1⟩=>?_⟩
 subst e1
 obtain rfl:=ax.inv
 obtain⟨gs,e4,q⟩:=am1 a _ e2
 exact⟨a,dx,gs,rfl,e4,q.lookN e3,[.ref a],M1,R,am1,.cons (.ref a) .nil,h1,k.kp k1⟩
def pL(C:Addr)(sp:bL)(t:dZ):aW:=fun τ M R=>t τ M fun ws M1=>∀ a dx,M1 a=none->M1 dx=none->dx≠a->sp (.ref a :: ws) (put M1 a (.ins C dx [])) fun w M2=>w=.non/\R (.ref a) M2
theorem AM.made{K:Ac}{H:Hp}{M:Mm}{x dx:Addr}(am:AM K H M)(hx:H x=none)(hd:H dx=none)(ne:dx≠x):AM K (aR (aR H dx (.own x)) x (.ins C dx [])) (put M x (.ins C dx []))/\Kp H M (aR (aR H dx (.own x)) x (.ins C dx [])) (put M x (.ins C dx [])):=by
 obtain⟨am1,k1⟩:=am.tup (u:=.own x) hd
 have hx1:aR H dx (.own x) x=none:=by rw[bE (Ca ne)];exact hx
 obtain⟨am2,k2⟩:=am1.laid (o:=.ins C dx []) (u:=.ins C dx []) hx1 ⟨[],cM,.nil⟩
 exact⟨am2,k1.trans k2⟩
theorem KY{H:Hp}{M:Mm}{R:K3}{Q:VK}{vs:List V}{ws:List W}(am:AM X.K H M)(avs:aM X.K H M vs ws)(h:∀ a dx,M a=none->M dx=none->dx≠a->sp (.ref a :: ws) (put M a (.ins C dx [])) fun w M2=>w=.non/\R (.ref a) M2)(k:Up X.K H M R Q) :
  ∀ x dx,H x=none->H dx=none->dx≠x->hV X.K sp (.ref x :: (vs ++ [])) (aR (aR H dx (.own x)) x (.ins C dx [])) (fun v H2=>v=.non/\Q (.ref x) H2) E0:=by
 intro x dx hx hd ne
 obtain⟨am1,k1⟩:=am.made (C:=C) hx hd ne
 refine⟨.ref x :: ws,_,_,am1,?_,h x dx (am.nonM hx) (am.nonM hd) ne,fun v H2 w M2 k2 am2 av r=>?_⟩
 ·rw[Gf];exact .cons (.ref x) (avs.kp am k1)
 ·obtain⟨rfl,r⟩:=r
  obtain rfl:=av.inv
  exact⟨rfl,k _ _ _ _ (k1.trans k2) am2 (.ref x) r⟩
theorem zdw{x:Str}{p:Pos}(M:Mk X.K C g)(F:fB X.prog X.w X.K X.mg X.base gP k g fd ps (hV X.K sp))(hr:cT (k + 1) X.A)(hg:Gl X x)(hm:X.mg x=some (.ref C))(hb:Binds X.K fd ps [])(ha:A3 X (e :: es) t)
  (hdb:(x == ("__debug__" : Str))=false:=by decide) (he:Bl (e :: es) X.env=(false,eval e X.env) :: Bl es X.env:=by rfl) (hpl:(Fs pos (Bl es X.env)).any (·.1)=false:=by rfl) :
  E3 X (.Call (.Name x p) (e :: es) [] pos) (pL C sp t):=(UT M F hr hg hm hb .nil qD ha hdb he hpl).weak fun σ H Q z0=>z0.el fun τ M R as am h k=>⟨τ,M,_,as,am,h,fun vs H1 ws M1 k1 am1 avs h1=>KY am1 avs h1 (k.kp k1)⟩
theorem zI{x:Str}{p:Pos}(M:Mk X.K C g)(F:fB X.prog X.w X.K X.mg X.base gP k g fd ps (hV X.K sp))(hr:cT (k + 1) X.A)(hg:Gl X x)(hm:X.mg x=some (.ref C))(hb:Binds X.K fd ps [])
  (hdb:(x == ("__debug__" : Str))=false:=by decide):E3 X (.Call (.Name x p) [] [] pos) (pL C sp aF):=(UU M F hr hg hm hb .nil qD hdb).weak fun σ H Q z0=>z0.el fun τ M R as am h k=>KY am .nil h k
end
end L3
namespace L2
open PySem PySem.Spec PyProof.Rows
section
variable {prog:Ay}{w:Bq}{K:Type}[DecidableEq K]{knd:HeapKind prog w K}{A:Cr}{E:Ae->Ah->Prop}{s:Ah}{d a:Addr}{k:K}{xs:List (K×Addr×Ae)}
theorem KZ{y:Ae}{Q:Ae->Ah->Prop}(hu:knd.room A)(hkey:knd.is s.heap k a)(hm:s.heap.DictOfH knd d xs)(hsz:xs.length<=Ai)
  (h1:∀ p,Jr xs k=some p->Q p.2 {s with toks:=s.toks + knd.draws k})
  (h2:Jr xs k=none->∀ h',h'.DictOfH knd d (Ll xs k a y)->Eo d s.heap h'->Q y {s with heap:=h',toks:=s.toks + knd.draws k}) :
  Bf (Bu prog w) A (dictSetDefault d (.ref a) y) Q E s:=by
 obtain⟨o,es,ep,ho,hc,hd,he,his,hn⟩:=hm
 unfold dictSetDefault
 refine Cy (Aa (knd.pyHash hu hkey (Aa (wpAny_dictFind_heap (s:={s with toks:=s.toks + knd.draws k}) hu hkey ho hd he his hn (fun hno=>?_) fun j p hj=>?_))))
 ·have hk:=atKey_none_of_get hno
  have hnot:k∉xs.map (·.1):=not_mem_keys_of_get hno
  refine Aa (Gz (Aa (wpAny_updateDictKeys (hz:=by have e:=Ki he;lia) (s:={s with toks:=s.toks + knd.draws k}) ho hd (Af (h2 hk _ ⟨_,_,ep + 1,Gy _ ho (Obj.isFreed_of_dict (Jq hd _)),
   hc.mapDictKeys _,Jq hd _,?_,fun x hx=>?_,?_⟩ (Ed ..))))))
  ·rw[storedH_new hk]
   simp[he,entryOfKey]
  ·rw[storedH_new hk] at hx
   rcases Bh.mp hx with q | q
   ·exact knd.keeps (his x q) ho hd (Ed ..)
   ·obtain rfl:=Ax.mp q
    exact knd.keeps hkey ho hd (Ed ..)
  ·rw[storedH_new hk,Bi,Dz]
   refine⟨hn,by simp,fun x hx y hy=>?_⟩
   simp only[Au,Jd,Ax] at hy
   subst hy
   exact fun e=>hnot (e ▸ hx)
 ·refine Aa (Fc (s:={s with toks:=s.toks + knd.draws k}) ho hd ?_)
  rw[entry_at he j,hj]
  exact Aa (Gz (Af (h1 p (atKey_of_get hn hj))))
theorem K0:∀ {xs:List (K×Addr×Ae)} {j:Nat} {p:Addr×Ae},(xs.map (·.1)).Nodup->xs[j]? = some (k,p)->xs.eraseIdx j=xs.filter fun x=>decide (x.1≠k)
 | [],j,p,_,h=>by simp at h
 | x :: r,0,p,hn,h=>by
  have e:x=(k,p):=by simpa using h
  subst e
  rw[Au,Dh] at hn
  rw[List.eraseIdx_zero,List.tail_cons,List.filter_cons_of_neg (by simp)]
  refine(List.filter_eq_self.mpr fun y hy=>?_).symm
  rw[decide_eq_true_eq]
  exact fun e=>hn.1 (Ao.mpr ⟨y,hy,e⟩)
 | x :: r,j + 1,p,hn,h=>by
  rw[Au,Dh] at hn
  have hj:r[j]? = some (k,p):=by simpa using h
  have hx:x.1≠k:=fun e=>hn.1 (Ao.mpr ⟨(k,p),Av hj,e.symm⟩)
  rw[List.eraseIdx_cons_succ,K0 hn.2 hj,List.filter_cons_of_pos (by simpa using hx)]
theorem zdx{v:Ae}{b:Addr}{Q:Option Dw->Ah->Prop}(hu:knd.room A)(hkey:knd.is s.heap k a)(hm:s.heap.DictOfH knd d xs)(hsz:xs.length<=Ai)(hv:Jr xs k=some (b,v))
  (h:∀ h',h'.DictOfH knd d (xs.filter fun x=>decide (x.1≠k))->Eo d s.heap h'->Q (some ⟨knd.hash k,.ref b,v⟩) {s with heap:=h',toks:=s.toks + knd.draws k}) :
  Bf (Bu prog w) A (Builtin.Dict.takeOut d (.ref a)) Q E s:=by
 obtain⟨o,es,ep,ho,hc,hd,he,his,hn⟩:=hm
 unfold Builtin.Dict.takeOut
 refine Cy (Aa (knd.pyHash hu hkey (Aa (wpAny_dictFind_heap (s:={s with toks:=s.toks + knd.draws k}) hu hkey ho hd he his hn (fun hno=>?_) fun j p hj=>?_))))
 ·rw[atKey_none_of_get hno] at hv;cases hv
 ·rw[atKey_of_get hn hj] at hv
  cases hv
  have hej:=K0 hn hj
  refine Aa (Fc (s:={s with toks:=s.toks + knd.draws k}) ho hd ?_)
  rw[entry_at he j,hj]
  refine Aa (wpAny_updateDictKeys (hz:=by have e:=Ki he;lia) (s:={s with toks:=s.toks + knd.draws k}) ho hd (Af (h _ ⟨_,_,ep + 1,Gy _ ho (Obj.isFreed_of_dict (Jq hd _)),
   hc.mapDictKeys _,Jq hd _,?_,fun x hx=>knd.keeps (his x (Ge.mp hx).1) ho hd (Ed ..),?_⟩ (Ed ..))))
  ·rw[<-hej]
   have e2:(xs.eraseIdx j).map (entryOfKey knd)=(xs.map (entryOfKey knd)).eraseIdx j:=by simp[List.eraseIdx_eq_take_drop_succ,List.map_take,List.map_drop]
   rw[e2,<-he]
   obtain⟨l⟩:=es
   simp
  ·exact hn.sublist (List.filter_sublist.map _)
end
section
variable {X:Cx}{pins:List (Addr×Obj)}{σ:St}{H:Hp}{s:Ah}{a b:Addr}{v:V}{r:Ae}{A:Cr}{E:Ae->Ah->Prop}{kvs:List (List aD×V)}{k:List aD}
theorem KT.drop{xs:List (List aD×Addr×Ae)}(rel:KT H kvs xs)(k:List aD):KT H (nD kvs k) (xs.filter fun x=>decide (x.1≠k)):=by
 induction rel with
 | nil=>exact .nil
 | @cons p q ps qs h t ih=>
  unfold nD at ih ⊢
  rw[Fg,Fg,<-h.1]
  split
  ·exact .cons h ih
  ·exact ih
theorem zdy{Q:Ae->Ah->Prop}(hu:A.units + 1 < Es)(I:Inv X pins σ H s)(e:H a=some (.dT kvs))(eb:H b=some (.tup (k.map kV)))(rv:RelV v r)(hl:kvs.length < Ai)
  (h1:∀ v0 w' s',fZ kvs k=some v0->Inv X pins σ H s'->RelV v0 w'->Q w' s') (h2:fZ kvs k=none->∀ s',Inv X pins σ (aR H a (.dT (dY kvs k v))) s'->Q r s') :
  Bf (Bu X.prog X.w) A (call (.builtin "dict.setdefault") [.ref a,.ref b,r]) Q E s:=by
 obtain⟨z,hd,xs,rel,dd⟩:=wV I.hok e
 have hz:xs.length<=Ai:=by rw[<-Cu rel];exact z
 have hv:=rel.val k
 refine Hb Jm dd.typeIs PySem.F.entry_dict_setdefault (PySem.F.args_dict_setdefault_3 _ _ _)
  (S:=fun A R s1=>(Fq (bH X.prog X.w)).room A.in1/\(Fq (bH X.prog X.w)).is s1.heap k b/\s1.heap.DictOfH (Fq (bH X.prog X.w)) a xs/\
   (∀ p,Jr xs k=some p->R (.ok (.ret p.2)) {s1 with toks:=s1.toks + (k.length + 1)})/\
   (Jr xs k=none->∀ h',h'.DictOfH (Fq (bH X.prog X.w)) a (Ll xs k b r)->Eo a s1.heap h'->R (.ok (.ret r)) {s1 with heap:=h',toks:=s1.toks + (k.length + 1)}))
  (.of_wp fun A R s1 ⟨q0,q1,q2,q3,q4⟩=>?_) ⟨Et hu,jZ I.hok eb,dd,fun p hp=>?_,fun hn h' dd' hs=>?_⟩
 ·unfold Ih.«dict.setdefault»
  refine Aa ?_
  unfold Jk
  refine Aa (Fi q2.typeIs ?_)
  refine Af ?_
  dsimp only
  rw[if_neg (by rw[hd];exact Ap)]
  exact Aa (KZ q0 q1 q2 hz (fun p hp=>Af ⟨_,rfl,q3 p hp⟩) fun hn h' hm' hs'=>Af ⟨_,rfl,q4 hn h' hm' hs'⟩)
 ·rw[hp] at hv
  cases q:fZ kvs k with
  | none=>rw[q] at hv;exact(show False from hv).elim
  | some v0=>rw[q] at hv;exact h1 v0 _ _ q (I.tok _) hv
 ·rw[hn] at hv
  have q:fZ kvs k=none:=by
   cases q:fZ kvs k with
   | none=>rfl
   | some v0=>rw[q] at hv;exact(show False from hv).elim
  have hl':(dY kvs k v).length<=Ai:=by have:=oM kvs k v;lia
  obtain⟨q1,es,ep,hq,g2,g3,g4,_,g5⟩:=dd'
  refine h2 q _ (oN (t':=s.toks + (k.length + 1)) I (by rw[e];exact True.intro) hs ⟨q1,hq⟩ ⟨hl',hd,_,(rel.put k eb rv).keeps fun c ys ec=>?_,q1,es,ep,hq,g2,g3,g4,g5⟩)
  rw[bE (wA ec e (fun z=>nomatch z))]
  exact ec
theorem zdz{Q:Ae->Ah->Prop}(hu:A.units + 1 < Es)(I:Inv X pins σ H s)(e:H a=some (.dT kvs))(eb:H b=some (.tup (k.map kV)))(l:fZ kvs k=some v)
  (h:∀ w' s',Inv X pins σ (aR H a (.dT (nD kvs k))) s'->RelV v w'->Q w' s'):Bf (Bu X.prog X.w) A (call (.builtin "dict.pop") [.ref a,.ref b]) Q E s:=by
 obtain⟨z,hd,xs,rel,dd⟩:=wV I.hok e
 have hz:xs.length<=Ai:=by rw[<-Cu rel];exact z
 obtain⟨w',hw,rw'⟩:=fN.some_of (v:=v) (o:=(Jr xs k).map (·.2)) (by rw[<-l];exact rel.val k)
 obtain⟨⟨c,w2⟩,hc,rfl⟩:=Bb.mp hw
 refine Hb PySem.F.slot_dict_pop dd.typeIs PySem.F.entry_dict_pop (PySem.F.args_dict_pop_2 _ _)
  (S:=fun A R s1=>(Fq (bH X.prog X.w)).room A.in1/\(Fq (bH X.prog X.w)).is s1.heap k b/\s1.heap.DictOfH (Fq (bH X.prog X.w)) a xs/\
   ∀ h',h'.DictOfH (Fq (bH X.prog X.w)) a (xs.filter fun x=>decide (x.1≠k))->Eo a s1.heap h'->R (.ok (.ret w2)) {s1 with heap:=h',toks:=s1.toks + (k.length + 1)})
  (.of_wp fun A R s1 ⟨q0,q1,q2,q3⟩=>?_) ⟨Et hu,jZ I.hok eb,dd,fun h' dd' hs=>?_⟩
 ·unfold Ih.«dict.pop»
  refine Aa ?_
  unfold Jk
  refine Aa (Fi q2.typeIs ?_)
  refine Af ?_
  dsimp only
  rw[if_neg (show ¬ ((keyPart (Value.ref b)).isSome=true) from Ap)]
  obtain⟨o,es,ep,ho,hc',hd',he,his,hn⟩:=id q2
  have hne:es.isEmpty=false:=by
   have h1:=Ki he
   cases xs with
   | nil=>cases hc
   | cons x r=>rw[Array.isEmpty_eq_false_iff];intro z;rw[z] at h1;simp at h1
  refine Aa (Fc ho hd' ?_)
  refine Aa (Af ?_)
  rw[hne,if_neg Ap]
  refine Aa (zdx q0 q1 q2 hz hc fun h' hm' hs'=>?_)
  rw[if_neg (by simp)]
  exact Aa (wpAny_letGo (Af ⟨_,rfl,q3 h' hm' hs'⟩))
 ·obtain⟨q1,es,ep,hq,g2,g3,g4,_,g5⟩:=dd'
  refine h w2 _ (oN (t':=s.toks + (k.length + 1)) I (by rw[e];exact True.intro) hs ⟨q1,hq⟩ ⟨Bs (WD kvs k) z,hd,_,(rel.drop k).keeps fun c ys ec=>?_,q1,es,ep,hq,g2,g3,g4,g5⟩) rw'
  rw[bE (wA ec e (fun z=>nomatch z))]
  exact ec
end
end L2
namespace L3
open PySem PySem.Spec PyProof.Rows L2
section
variable {X:Cx}
def uB:W->List W->Mm->K3->Prop
 | d,[y],M,R=>∃ o,eA M d y o/\R (o.getD .non) M
 | d,[y,v],M,R=>∃ o,eA M d y o/\R (o.getD v) M
 | _,_,_,_=>False
theorem zJ(hu:X.A.units + 1 < Es):fD X "dict.get" (jI X.K uB):=by
 rintro pins s σ H x xs v us Q I rx rs ⟨wx,ws,M,R,am,ax,axs,h,k⟩
 match ws,h with
 | [y],h=>
  obtain⟨z,rfl,az⟩:=axs.one
  obtain⟨o,g,r⟩:=h
  obtain⟨a,rfl,g2⟩:=tM am ax az g
  cases rx
  obtain⟨u,rfl,ru⟩:=rs.one
  rcases g2 with⟨rfl,g3⟩ | ⟨v0,w0,rfl,g3,av⟩
  ·exact GR hu I g3 ru fun w' s' I' rw'=>⟨_,H,I',rw',k.at am .non r⟩
  ·exact GR hu I g3 ru fun w' s' I' rw'=>⟨_,H,I',rw',k.at am av r⟩
 | [y,v1],h=>
  obtain⟨z,z1,rfl,az,az1⟩:=axs.two
  obtain⟨o,g,r⟩:=h
  obtain⟨a,rfl,g2⟩:=tM am ax az g
  cases rx
  obtain⟨u,u1,rfl,ru,ru1⟩:=vals2 rs
  rcases g2 with⟨rfl,g3⟩ | ⟨v0,w0,rfl,g3,av⟩
  ·exact GS hu I g3 ru ru1 fun w' s' I' rw'=>⟨_,H,I',rw',k.at am az1 r⟩
  ·exact GS hu I g3 ru ru1 fun w' s' I' rw'=>⟨_,H,I',rw',k.at am av r⟩
def rE:W->List W->Mm->K3->Prop
 | .ref a,[.tup ks,v],M,R=>∃ kvs k,M a=some (.dT kvs)/\ks=k.map wK/\kvs.length < Ai/\(∀ w,aY kvs k=some w->R w M)/\(aY kvs k=none->R v (put M a (.dT (b9 kvs k v))))
 | _,_,_,_=>False
theorem K1(hu:X.A.units + 1 < Es):fD X "dict.setdefault" (jI X.K rE):=by
 rintro pins s σ H x xs v us Q I rx rs ⟨wx,ws,M,R,am,ax,axs,h,k⟩
 match wx,ws,h with
 | .ref a,[.tup ks,v1],h=>
  obtain⟨z,z1,rfl,az,az1⟩:=axs.two
  obtain⟨kvs,kk,e,rfl,hl,h1,h2⟩:=h
  obtain rfl:=ax.inv
  cases rx
  obtain⟨u,u1,rfl,ru,ru1⟩:=vals2 rs
  obtain⟨gs,e1,q⟩:=am _ _ e
  cases az with
  | @tup b vs _ eb qb=>
   cases (show u=Value.ref b from ru)
   rw[qb.keys] at eb
   have lk:=tK q kk
   refine zdy hu I e1 eb ru1 (by rw[q.len];exact hl) (fun v0 w' s' e2 I' rw'=>?_) fun e2 s' I'=>?_
   ·rcases lk with⟨_,l2⟩ | ⟨v2,w2,l1,l2,av⟩
    ·rw[l2] at e2;cases e2
    ·rw[l2] at e2;cases e2
     exact⟨_,H,I',rw',k.at am av (h1 w2 l1)⟩
   ·rcases lk with⟨l1,l2⟩ | ⟨v2,w2,l1,l2,av⟩
    ·obtain⟨am3,k3⟩:=am.write (o:=.dT (b9 kvs kk v1)) (u:=.dT (dY gs kk z1)) e ⟨_,cM,(tL q kk az1).go (nL am e)⟩
     exact⟨_,_,I',ru1,k _ _ _ _ k3 am3 (az1.wr am e) (h2 l1)⟩
    ·rw[l2] at e2;cases e2
def jR{κ:Type}[DecidableEq κ](kvs:List (κ×W))(k:κ):List (κ×W):=kvs.filter fun kv=>decide (kv.1≠k)
theorem zdA{κ:Type}[DecidableEq κ]{K:Ac}{H:Hp}{M:Mm}{gs:List (κ×V)}{kvs:List (κ×W)}(h:bK K H M κ gs kvs)(k:κ):bK K H M κ (nD gs k) (jR kvs k):=by
 induction h with
 | nil=>exact .nil
 | @cons p q ps qs r t ih=>
  unfold nD jR at ih ⊢
  rw[Fg,Fg,<-r.1]
  split
  ·exact .cons r ih
  ·exact ih
def K2:W->List W->Mm->K3->Prop
 | .ref a,[.tup ks],M,R=>∃ kvs k w,M a=some (.dT kvs)/\ks=k.map wK/\aY kvs k=some w/\R w (put M a (.dT (jR kvs k)))
 | _,_,_,_=>False
theorem zdB(hu:X.A.units + 1 < Es):fD X "dict.pop" (jI X.K K2):=by
 rintro pins s σ H x xs v us Q I rx rs ⟨wx,ws,M,R,am,ax,axs,h,k⟩
 match wx,ws,h with
 | .ref a,[.tup ks],h=>
  obtain⟨z,rfl,az⟩:=axs.one
  obtain⟨kvs,kk,w,e,rfl,l,r⟩:=h
  obtain rfl:=ax.inv
  cases rx
  obtain⟨u,rfl,ru⟩:=rs.one
  obtain⟨gs,e1,q⟩:=am _ _ e
  cases az with
  | @tup b vs _ eb qb=>
   cases (show u=Value.ref b from ru)
   rw[qb.keys] at eb
   rcases tK q kk with⟨l1,l2⟩ | ⟨v2,w2,l1,l2,av⟩
   ·rw[l1] at l;cases l
   ·rw[l1] at l;cases l
    obtain⟨am3,k3⟩:=am.write (o:=.dT (jR kvs kk)) (u:=.dT (nD gs kk)) e ⟨_,cM,(zdA q kk).go (nL am e)⟩
    exact zdz hu I e1 eb l2 fun w' s' I' rw'=>⟨_,_,I',rw',k _ _ _ _ k3 am3 (av.wr am e) r⟩
end
end L3
namespace L2
open PySem PySem.Spec PyProof.Rows
section
variable {X:Cx}{pins:List (Addr×Obj)}{σ:St}{H:Hp}{s:Ah}{a b:Addr}{v:V}{r:Ae}{A:Cr}{E:Ae->Ah->Prop}{es:List (bT×Addr×V)}{tl:List Int}{x:bT}
theorem zdC{o e:Expr}{args:List Expr}{q:TE}{t:TA}{name:Str}{d b:Pos}{T id:String}{m:V->List V->Hp->VK->Prop}{tq:V->Hp->Prop}(F:Mg T)(slot:Slot T name id)(k:typeOf (.builtin id)=pure (.type "method_descriptor"))(B:fD X id m)(y:PE X o q)(K:PA X (e :: args) t)
  (D:∀ pins σ H s x v,Inv X pins σ H s->RelV x v->tq x H->s.TypeIs v T/\∀ a,v=.ref a->∃ ob,s.heap.get? a=some ob/\ob.dict=none) (g:Ez o name X.env (eval o X.env)=eval o X.env)
  (i:((Fs b (Bl (e :: args) X.env)).all (fun x=>!x.1) && (Ly b (Jj [] X.env)).all (fun x=>x.1.isSome) && decide ((e :: args).length + ([]:List Na).length + (if ([]:List Na).isEmpty then 0 else 1) < 30))=true)
  (f:(d.endLine == b.line)=true) (J:Bl (e :: args) X.env=(false,eval e X.env) :: Bl args X.env) (c:(Fs b (Bl args X.env)).any (·.1)=false) :
  PE X (.Call (.Attribute o name d) (e :: args) [] b) (fun σ H Q=>q σ H fun x j=>tq x j/\t σ j fun xs l=>m x xs l Q):=by
 intro pins s σ H Q I h
 refine wpAny_Call_method_late g i f rfl (a6 (y pins s σ H _ I h) fun v A ⟨x,j,n,p,ty,L⟩=>?_)
 obtain⟨G,z⟩:=D _ _ _ _ _ _ n p ty
 refine⟨T,id,F,slot,k,G,z,?_⟩
 have r:=K b pins A σ j _ n L
 rw[J] at r ⊢
 refine Iy (by show(false || (Fs b (Bl args X.env)).any (·.1))=false;rw[c] <;> rfl) (Calls.evalArgs_plain ?_)
 exact a6 r fun us u ⟨vs,l,C,w,E⟩=>B pins u σ l x vs v us Q C p w E
theorem zdD{o:Expr}{l:TE}{name:Str}{c b:Pos}{T id:String}{i:V->List V->Hp->VK->Prop}{tq:V->Hp->Prop}(t:Mg T)(slot:Slot T name id)(g:typeOf (.builtin id)=pure (.type "method_descriptor"))(q:fD X id i)(m:PE X o l)
  (r:∀ pins σ H s x v,Inv X pins σ H s->RelV x v->tq x H->s.TypeIs v T/\∀ a,v=.ref a->∃ ob,s.heap.get? a=some ob/\ob.dict=none) (e:Ez o name X.env (eval o X.env)=eval o X.env)
  (d:(c.endLine == b.line)=true):PE X (.Call (.Attribute o name c) [] [] b) (fun σ H Q=>l σ H fun x f=>tq x f/\i x [] f Q):=by
 intro pins s σ H Q I h
 refine wpAny_Call_method0_late e d (a6 (m pins s σ H _ I h) fun v p ⟨x,f,j,k,ty,w⟩=>?_)
 obtain⟨u,n⟩:=r _ _ _ _ _ _ j k ty
 exact⟨T,id,t,slot,g,u,n,Iy rfl (PySem.evalArgs_none (q pins p σ f x [] v [] Q j k .nil w))⟩
theorem zK{e f:Type}{F:e->f->Prop}:∀ {a c:List e} {b d:List f},Fm F a b->Fm F c d->Fm F (a ++ c) (b ++ d)
 | _,_,_,_,.nil,h=>h
 | _,_,_,_,.cons r t,h=>.cons r (zK t h)
theorem rF(I:Inv X pins σ H s)(e:H a=some (.ext (d9 X.prog X.w tl a es))):d9 X.prog X.w tl a es s.heap:=(show cA X.prog X.w H s.heap a (.ext (d9 X.prog X.w tl a es)) from I.hok a _ e).1
theorem NX.val{xs:List (bT×Addr×Ae)}(q:NX es xs)(x:bT):(Jr xs x=none/\∀ e∈es,e.1≠x)\/∃ b v u,Jr xs x=some (b,u)/\(x,b,v)∈es/\RelV v u:=by
 induction q with
 | nil=>exact .inl ⟨rfl,fun e a=>nomatch a⟩
 | @cons p z ps k h t d=>
  obtain⟨f,p2,i⟩:=p
  obtain⟨z1,z2,z3⟩:=z
  obtain⟨rfl,rfl,g⟩:=h
  unfold Jr at d ⊢
  rw[Cs]
  by_cases c:f=x
  ·subst c
   rw[decide_eq_true rfl]
   exact .inr ⟨p2,i,z3,rfl,Ba,g⟩
  ·rw[decide_eq_false c]
   rcases d with⟨i1,i2⟩ | ⟨b,v,u,i1,i2,j⟩
   ·refine .inl ⟨i1,fun e a=>?_⟩
    rcases Be.mp a with rfl | a
    ·exact c
    ·exact i2 e a
   ·exact .inr ⟨b,v,u,i1,An _ i2,j⟩
theorem zdE{Q:Ae->Ah->Prop}(B:A.units + 2 < Es)(I:Inv X pins σ H s)(e:H a=some (.ext (d9 X.prog X.w tl a es)))(ks:∀ z∈es,jG H tl z.1 z.2.1)(eb:jG H tl x b)(rv:RelV v r)(hl:es.length < Ai)
  (h1:∀ c n T l,(x,c,n)∈es->Inv X pins σ H l->RelV n T->Q T l) (Y:(∀ z∈es,z.1≠x)->∀ l,Inv X pins σ (aR H a (.ext (d9 X.prog X.w tl a (es ++ [(x,b,v)])))) l->Q r l) :
  Bf (Bu X.prog X.w) A (call (.builtin "dict.setdefault") [.ref a,.ref b,r]) Q E s:=by
 obtain⟨o,C,ep,xs,Z,hc,hd,he,nx,G,hz,f⟩:=rF I e
 have i:∀ z∈xs,(jF X.prog X.w tl).is s.heap z.1 z.2.1:=by
  have:∀ {es:List (bT×Addr×V)} {xs:List (bT×Addr×Ae)},NX es xs->(∀ z∈es,jG H tl z.1 z.2.1)->∀ z∈xs,(jF X.prog X.w tl).is s.heap z.1 z.2.1:=by
   intro es xs q
   induction q with
   | nil=>intro _ z hz;cases hz
   | @cons p z ps zs h t W=>
    intro hk u B
    rcases Be.mp B with rfl | B
    ·have:=(hk p Ba).is I.hok
     rw[h.1,h.2.1] at this
     exact this
    ·exact W (fun y hy=>hk y (An _ hy)) u B
  exact this nx ks
 have O:s.heap.DictOfH (jF X.prog X.w tl) a xs:=⟨o,C,ep,Z,hc,hd,he,i,G⟩
 have k:xs.length=es.length:=(Cu nx).symm
 refine Hb Jm O.typeIs PySem.F.entry_dict_setdefault (PySem.F.args_dict_setdefault_3 _ _ _)
  (S:=fun A R d=>(jF X.prog X.w tl).room A.in1/\(jF X.prog X.w tl).is d.heap x b/\d.heap.DictOfH (jF X.prog X.w tl) a xs/\
   (∀ p,Jr xs x=some p->R (.ok (.ret p.2)) {d with toks:=d.toks + (jF X.prog X.w tl).draws x})/\
   (Jr xs x=none->∀ h',h'.DictOfH (jF X.prog X.w tl) a (Ll xs x b r)->Eo a d.heap h'->R (.ok (.ret r)) {d with heap:=h',toks:=d.toks + (jF X.prog X.w tl).draws x}))
  (.of_wp fun A R d ⟨q0,D,N,q3,q4⟩=>?_) ⟨B,eb.is I.hok,O,fun p j=>?_,fun g h' m hs=>?_⟩
 ·unfold Ih.«dict.setdefault»
  refine Aa ?_
  unfold Jk
  refine Aa (Fi N.typeIs (Af ?_))
  dsimp only
  rw[if_neg (by rw[f];exact Ap)]
  exact Aa (KZ q0 D N hz (fun p j=>Af ⟨_,rfl,q3 p j⟩) fun G h' K L=>Af ⟨_,rfl,q4 G h' K L⟩)
 ·rcases nx.val x with⟨i1,_⟩ | ⟨c,n,u,i1,i2,i3⟩
  ·rw[i1] at j;cases j
  ·rw[i1] at j;cases j
   exact h1 c n u _ i2 (I.tok _) i3
 ·rcases nx.val x with⟨_,i2⟩ | ⟨c,n,u,i1,_,_⟩
  ·rw[storedH_new g] at m
   obtain⟨D,M,J,P,g2,g3,g4,_,U⟩:=m
   refine Y i2 _ (oN (t':=s.toks + (jF X.prog X.w tl).draws x) I (by rw[e];exact True.intro) hs ⟨D,P⟩ (d9.ok ⟨D,M,J,_,P,g2,g3,g4,zK nx (.cons ⟨rfl,rfl,rv⟩ .nil),U,?_,f⟩))
   rw[Am,k]
   simp;omega
  ·rw[i1] at g;cases g
end
end L2
namespace L3
open PySem PySem.Spec PyProof.Rows L2
def h9(tl:List Int)(x:bT):W:=.tup (wK x.1 :: .tup (x.2.map wK) :: tl.map W.int)
section
variable {K:Ac}{H:Hp}{M:Mm}
theorem K5(k:aD):AV K H M (kV k) (wK k):=by cases k <;> first | exact .int _ | exact .str _
theorem zL:∀ ks:List aD,aM K H M (ks.map kV) (ks.map wK)
 | []=>.nil
 | k :: r=>.cons (K5 k) (zL r)
theorem K6:∀ tl:List Int,aM K H M (tl.map V.int) (tl.map W.int)
 | []=>.nil
 | i :: r=>.cons (.int i) (K6 r)
theorem aM.intsN:∀ {tl:List Int} {vs:List V},aM K H M vs (tl.map W.int)->vs=tl.map V.int
 | [],_,h=>by cases h;rfl
 | i :: r,_,h=>by
  cases h with
  | cons a b=>cases a;rw[aM.intsN b];rfl
theorem jG.av{tl:List Int}{x:bT}{b:Addr}(n:jG H tl x b):AV K H M (.ref b) (h9 tl x):=by
 obtain⟨d,c,a⟩:=n
 exact .tup c (.cons (K5 x.1) (.cons (.tup a (zL x.2)) (K6 tl)))
theorem zdF{tl:List Int}{x:bT}{v:V}(h:AV K H M v (h9 tl x)):∃ b,v=.ref b/\jG H tl x b:=by
 unfold h9 at h
 cases h with
 | @tup b xs _ e q=>
  cases q with
  | @cons p f _ _ m n=>
   cases n with
   | @cons o l _ _ d j=>
    have c:=m.key
    subst c
    have i:=j.intsN
    subst i
    cases d with
    | @tup g ys _ a k=>
     rw[k.keys] at a
     exact⟨b,rfl,g,e,a⟩
end
section
variable {X:Cx}
def zM(P:Ay)(w:Bq)(tl:List Int):aW:=fun a M R=>∀ p,M p=none->R (.ref p) (put M p (.dn P w tl []))
theorem zdG{tl:List Int}{pos:Pos}:E3 X (.Dict [] [] pos) (zM X.prog X.w tl):=by
 rintro pins s σ H Q I ⟨g,M,R,f,c,h,k⟩
 have hf:=I.hok.fresh (Aj s.heap.objs.size)
 have e:=I.big
 obtain⟨b,d⟩:=c.laid (o:=.dn X.prog X.w tl []) (u:=.ext (d9 X.prog X.w tl s.heap.objs.size [])) hf ⟨[],cM,.nil⟩
 refine wpAny_Dict_empty ⟨.ref s.heap.objs.size,_,I.laid (a:=s.heap.objs.size) (o:=.ext (d9 X.prog X.w tl s.heap.objs.size [])) (t':=s.toks) (fun _ _ q=>Ag _ q) (Aj _) (d9.ok ⟨_,#[],0,[],Ar _ rfl,⟨rfl,rfl,rfl⟩,rfl,rfl,.nil,Fw,De _,?_⟩),rfl,k _ _ _ _ d b (.ref _) (h _ (c.nonM hf))⟩
 rw[beq_eq_false_iff_ne]
 exact Gq e
abbrev zdH(P:Ay)(w:Bq)(tl:List Int)(x:W)(M:Mm):Prop:=∃ a kvs,x=.ref a/\M a=some (.dn P w tl kvs)
theorem K7{P:Ay}{w:Bq}{tl:List Int}{pins:List (Addr×Obj)}{σ:SV}{H:Hp}{s:Ah}{v:V}{u:Ae}(I:Inv X pins σ H s)(r:RelV v u)(h:∃ a es,v=.ref a/\H a=some (.ext (d9 P w tl a es))):s.TypeIs u "dict"/\∀ a,u=.ref a->∃ ob,s.heap.get? a=some ob/\ob.dict=none:=by
 obtain⟨a,es,rfl,e⟩:=h
 cases (show u=Value.ref a from r)
 obtain⟨o,c,ep,xs,d,hc,hd,_⟩:=(show cA X.prog X.w H s.heap a (.ext (d9 P w tl a es)) from I.hok a _ e).1
 refine⟨⟨o,d,hc.1⟩,fun b f=>?_⟩
 cases f
 exact⟨o,d,hc.2.1⟩
def zN(P:Ay)(w:Bq)(tl:List Int)(i:aW)(tk j:aW):aW:=fun b M R=>i b M fun d e=>zdH P w tl d e/\tk b e fun g h=>j b h fun v c=>∃ a kvs x,d=.ref a/\c a=some (.dn P w tl kvs)/\g=h9 tl x/\kvs.length < Ai/\
 (∀ f,aY kvs x=some f->R f c)/\(aY kvs x=none->R v (put c a (.dn P w tl (kvs ++ [(x,v)]))))
abbrev PN(K:Ac)(H:Hp)(M:Mm)(tl:List Int)(es:List (bT×Addr×V))(kvs:List (bT×W)):Prop:=Fm (fun(e:bT×Addr×V) (p:bT×W)=>e.1=p.1/\jG H tl e.1 e.2.1/\AV K H M e.2.2 p.2) es kvs
theorem PN.look{K:Ac}{H:Hp}{M:Mm}{tl:List Int}{es:List (bT×Addr×V)}{kvs:List (bT×W)}(q:PN K H M tl es kvs)(f:(es.map (·.1)).Nodup)(x:bT):(aY kvs x=none/\∀ e∈es,e.1≠x)\/∃ w,aY kvs x=some w/\∀ c v,(x,c,v)∈es->AV K H M v w:=by
 induction q with
 | nil=>exact .inl ⟨rfl,fun e b=>nomatch b⟩
 | @cons p z ps l h t g=>
  rw[Au,Dh] at f
  obtain⟨i,p2,k⟩:=p
  obtain⟨z1,z2⟩:=z
  obtain⟨rfl,_,j⟩:=h
  unfold aY at g ⊢
  rw[Cs]
  by_cases d:i=x
  ·subst d
   rw[decide_eq_true rfl]
   refine .inr ⟨z2,rfl,fun c v a=>?_⟩
   rcases Be.mp a with e | a
   ·cases e;exact j
   ·exact absurd (Ao.mpr ⟨_,a,rfl⟩) f.1
  ·rw[decide_eq_false d]
   rcases g f.2 with⟨i1,i2⟩ | ⟨w,i1,i2⟩
   ·refine .inl ⟨i1,fun e b=>?_⟩
    rcases Be.mp b with rfl | b
    ·exact d
    ·exact i2 e b
   ·refine .inr ⟨w,i1,fun c v a=>?_⟩
    rcases Be.mp a with e | a
    ·cases e;exact absurd rfl d
    ·exact i2 c v a
theorem zdI{es:List (bT×Addr×V)}{xs:List (bT×Addr×Ae)}(nx:NX es xs):es.map (·.1)=xs.map (·.1):=by
 induction nx with
 | nil=>rfl
 | cons h _ a=>rw[Au,Au,a,h.1]
theorem d9.nodup{P:Ay}{w:Bq}{tl:List Int}{a:Addr}{es:List (bT×Addr×V)}{h:Heap}(x:d9 P w tl a es h):(es.map (·.1)).Nodup:=by
 obtain⟨o,b,ep,xs,_,_,_,_,nx,c,_⟩:=x
 rw[zdI nx];exact c
theorem PN.keys{K:Ac}{H:Hp}{M:Mm}{tl:List Int}{es:List (bT×Addr×V)}{kvs:List (bT×W)}(q:PN K H M tl es kvs):aM K H M (es.map fun e=>V.ref e.2.1) (kvs.map fun p=>h9 tl p.1):=by
 induction q with
 | nil=>exact .nil
 | @cons p z ps b h _ a=>
  refine .cons ?_ a
  show AV K H M (.ref p.2.1) (h9 tl z.1)
  rw[<-h.1];exact jG.av h.2.1
theorem PN.vals{K:Ac}{H:Hp}{M:Mm}{tl:List Int}{es:List (bT×Addr×V)}{kvs:List (bT×W)}(q:PN K H M tl es kvs):aM K H M (es.map fun e=>e.2.2) (kvs.map fun p=>p.2):=by
 induction q with
 | nil=>exact .nil
 | cons h _ a=>exact .cons h.2.2 a
theorem PN.ats{K:Ac}{H:Hp}{M:Mm}{tl:List Int}{es:List (bT×Addr×V)}{kvs:List (bT×W)}(q:PN K H M tl es kvs):∀ z∈es,jG H tl z.1 z.2.1:=by
 induction q with
 | nil=>intro z hz;cases hz
 | cons h _ a=>
  intro z hz
  rcases Be.mp hz with rfl | hz
  ·exact h.2.1
  ·exact a z hz
theorem zdJ{tl:List Int}{o E i:Expr}{to tk tv:aW}{l f:Pos}(hu:X.A.units + 2 < Es)(ho:E3 X o to)(hk:E3 X E tk)(hv:E3 X i tv)(D:Ez o "setdefault" X.env (eval o X.env)=eval o X.env:=by rfl)
  (J:((Fs f (Bl [E,i] X.env)).all (fun x=>!x.1) && (Ly f (Jj [] X.env)).all (fun x=>x.1.isSome) && decide (([E,i]:List Expr).length + ([]:List Na).length + (if ([]:List Na).isEmpty then 0 else 1) < 30))=true:=by rfl)
  (B:(l.endLine == f.line)=true:=by rfl) (hs:Bl [E,i] X.env=(false,eval E X.env) :: Bl [i] X.env:=by rfl) (U:Bl [i] X.env=(false,eval i X.env) :: Bl [] X.env:=by rfl) (j:(Fs f (Bl [i] X.env)).any (·.1)=false:=by rfl) :
  E3 X (.Call (.Attribute o "setdefault" l) [E,i] [] f) (zN X.prog X.w tl to tk tv):=by
 have P:fD X "dict.setdefault" (fun d vs H Q=>∃ M R w C m a kvs x y z,AM X.K H M/\d=.ref a/\vs=[y,z]/\AV X.K H M y C/\AV X.K H M z m/\M a=some (.dn X.prog X.w tl kvs)/\C=h9 tl x/\kvs.length < Ai/\(∀ L,aY kvs x=some L->R L M)/\(aY kvs x=none->R m (put M a (.dn X.prog X.w tl (kvs ++ [(x,m)]))))/\w=()/\Up X.K H M R Q):=by
  rintro pins s σ H d vs v us Q I rd rs ⟨M,R,_,C,m,a,kvs,x,y,z,n,rfl,rfl,ay,T,e,rfl,hl,h1,h2,_,k⟩
  cases (show v=Value.ref a from rd)
  obtain⟨u,u1,rfl,ru,G⟩:=vals2 rs
  obtain⟨es,S,q⟩:=n _ _ e
  obtain⟨b,rfl,nb⟩:=zdF ay
  cases (show u=Value.ref b from ru)
  have nd:=d9.nodup (rF I S)
  have lk:=PN.look q nd x
  refine zdE hu I S (PN.ats q) nb G (by rw[Cu q];exact hl) (fun c v0 w' s' P Y rw'=>?_) fun Z s' Y=>?_
  ·rcases lk with⟨_,l2⟩ | ⟨w,l1,l2⟩
   ·exact absurd rfl (l2 _ P)
   ·exact⟨_,H,Y,rw',k.at n (l2 c v0 P) (h1 w l1)⟩
  ·rcases lk with⟨l1,_⟩ | ⟨w,l1,l2⟩
   ·have g:=nL (o:=.dn X.prog X.w tl (kvs ++ [(x,m)])) (u:=.ext (d9 X.prog X.w tl a (es ++ [(x,b,z)]))) n e
    obtain⟨am3,k3⟩:=n.write (o:=.dn X.prog X.w tl (kvs ++ [(x,m)])) (u:=.ext (d9 X.prog X.w tl a (es ++ [(x,b,z)]))) e ⟨_,cM,zK (Paired.mapP q fun p r t=>⟨t.1,let ⟨pa,n1,n2⟩:=t.2.1;⟨pa,g.ht _ _ n1,g.ht _ _ n2⟩,t.2.2.go g⟩) (.cons ⟨rfl,let ⟨pa,n1,n2⟩:=nb;⟨pa,g.ht _ _ n1,g.ht _ _ n2⟩,T.go g⟩ .nil)⟩
    exact⟨_,_,Y,G,k _ _ _ _ k3 am3 (T.wr n e) (h2 l1)⟩
   ·exfalso
    have:∀ {es:List (bT×Addr×V)} {kvs:List (bT×W)},PN X.K H M tl es kvs->(∀ z∈es,z.1≠x)->aY kvs x=none:=by
     intro es kvs q
     induction q with
     | nil=>intro _;rfl
     | @cons p r ps rs h t ih=>
      intro hz
      unfold aY at ih ⊢
      rw[Cs,decide_eq_false (by rw[<-h.1];exact hz p Ba)]
      exact ih fun y hy=>hz y (An _ hy)
    rw[this q Z] at l1;cases l1
 refine(zdC (tq:=fun x H=>∃ a es,x=.ref a/\H a=some (.ext (d9 X.prog X.w tl a es))) Hk Jm PySem.F.type_dict_setdefault P ho (aC hk (aC hv aJ U) hs) (fun pins σ H s x v I r h=>K7 I r h) D J B hs j).weak ?_
 rintro σ H Q ⟨τ,M,R,as,n,h,k⟩
 refine⟨τ,M,_,as,n,h,fun d H1 wd M1 k1 N ad ⟨⟨a,kvs,S,e2⟩,h1⟩=>?_⟩
 subst S
 cases ad
 obtain⟨es,e3,q⟩:=N _ _ e2
 refine⟨⟨a,es,rfl,e3⟩,τ,M1,fun ws M3=>match ws with | [C,v]=>∃ O kvs x,W.ref a=.ref O/\M3 O=some (.dn X.prog X.w tl kvs)/\C=h9 tl x/\kvs.length < Ai/\(∀ L,aY kvs x=some L->R L M3)/\(aY kvs x=none->R v (put M3 O (.dn X.prog X.w tl (kvs ++ [(x,v)])))) | _=>False,as.kp n k1,N,?_,fun vs H2 ws M2 k2 am2 avs r=>?_⟩
 ·exact h1
 ·match ws,r with
  | [C,m],⟨O,kvs,x,ea,e4,e5,hl,g1,g2⟩=>
   cases ea
   obtain⟨y,z,rfl,ay,T⟩:=avs.two
   exact⟨M2,R,(),C,m,a,kvs,x,y,z,am2,rfl,rfl,ay,T,e4,e5,hl,g1,g2,rfl,k.kp (k1.trans k2)⟩
end
end L3
namespace L2
open PySem PySem.Spec PyProof.Rows
section
variable {X:Cx}{pins:List (Addr×Obj)}{σ:St}{H:Hp}{s:Ah}{a d:Addr}{es:List (bT×Addr×V)}{tl:List Int}{A:Cr}{E:Ae->Ah->Prop}
theorem zdK{prog:Ay}{w:Bq}{a:Array Dw}{ep:Nat}{Q:Ae->Ah->Prop}(hd:(d == Eg)=false)(c:gR s.heap d a ep)
  (f:Q (.ref s.heap.objs.size) {s with heap:=s.heap.push {cls:=.type "dict_values",data:=.fields #[.ref d]}}):Bf (Bu prog w) A (call (.builtin "dict.values") [.ref d]) Q E s:=
 Hb PySem.F.slot_dict_values c.typeIs PySem.F.entry_dict_values (PySem.F.args_dict_values_1 _) (S:=fun _ R b=>gR b.heap d a ep/\R (.ok (.ret (.ref b.heap.objs.size))) {b with heap:=b.heap.push {cls:=.type "dict_values",data:=.fields #[.ref d]}})
  (.of_wp fun A R b ⟨g,e⟩=>by
   refine Aa ?_
   unfold Builtin.Dict.noArgs
   refine Aa (Fi g.typeIs (Af ?_))
   show Bf _ _ (Ig d >>= _) _ _ _
   unfold Ig
   rw[if_neg (by rw[hd];exact Ap)]
   exact Aa (Af (Aa (Cm (Af ⟨_,rfl,e⟩))))) ⟨c,f⟩
theorem zO{P:Ay}{w:Bq}{h:Heap}(x:d9 P w tl a es h):∃ b ep,gR h a b ep/\b.size=es.length/\b.size<=Ai/\(a == Eg)=false/\
  (∀ (j:Nat) (e:Dw),b[j]? = some e->∃ z:bT×Addr×V,es[j]? = some z/\e.key=.ref z.2.1/\RelV z.2.2 e.val):=by
 obtain⟨o,b,ep,xs,i,r,g,d,nx,_,A,l⟩:=x
 have y:=Ki d
 have B:=Cu nx
 refine⟨b,ep,⟨o,i,r,g⟩,by omega,by omega,l,fun j e f=>?_⟩
 rw[entry_at d j] at f
 obtain⟨q,u,rfl⟩:=Bb.mp f
 have key:∀ {es:List (bT×Addr×V)} {xs:List (bT×Addr×Ae)} {j:Nat} {q:bT×Addr×Ae},NX es xs->xs[j]? = some q->∃ z,es[j]? = some z/\z.2.1=q.2.1/\RelV z.2.2 q.2.2:=by
  intro es xs j q n
  induction n generalizing j with
  | nil=>intro h;simp at h
  | @cons p z ps C h t m=>
   intro c
   cases j with
   | zero=>simp at c;subst c;exact⟨p,rfl,h.2.1,h.2.2⟩
   | succ j=>rw[Eb] at c ⊢;exact m c
 obtain⟨z,v,k,s⟩:=key nx u
 exact⟨z,v,by show Value.ref q.2.1=_;rw[k],s⟩
theorem K8{T:String}{r:Addr}{n:Nat}{P:Nat->Ae->Prop}{e:Heap->Prop}{xs:List V}{Q:VK}(hc:X.calm=true)(I:Inv X pins σ H s)(S:PySem.W.KdlSrc X.prog X.w T r d n P e)(ok:e s.heap)(c:n<=Ai)(i:xs.length=n)(f:∀ j v,P j v->∃ x,xs[j]? = some x/\RelV x v)
  (q:∀ l,H l=none->Q (.ref l) (aR H l (.lst xs))):Bf (Bu X.prog X.w) X.A (call (.type "list") [.ref r]) (EP X pins σ Q) X.xe s:=by
 refine PySem.W.kdl_call S (I.ok.hd hc) ok c fun h' tk a g hk k b=>?_
 refine⟨.ref s.heap.objs.size,_,I.laid (o:=.lst xs) (t':=tk) hk (Aj _) ⟨by rw[i];exact c,a.toList,g,?_,by rw[Hf];exact k⟩,rfl,q _ (I.hok.fresh (Aj _))⟩
 refine sY (by have m:=b.1;have p:a.toList.length=a.size:=Fn;omega) fun j v h=>?_
 exact f j v (b.2 j v (by rw[<-Fx];exact h))
end
end L2
namespace L3
open PySem PySem.Spec PyProof.Rows L2
section
variable {X:Cx}
def zP(P:Ay)(w:Bq)(tl:List Int)(c:aW):aW:=fun e M R=>c e M fun d b=>∃ a kvs,d=.ref a/\b a=some (.dn P w tl kvs)/\∀ p,b p=none->R (.ref p) (put b p (.vw a))
theorem zdL{tl:List Int}{o:Expr}{A:aW}{c b:Pos}(m:E3 X o A)(g:Ez o "values" X.env (eval o X.env)=eval o X.env:=by rfl)(f:(c.endLine == b.line)=true:=by rfl) :
  E3 X (.Call (.Attribute o "values" c) [] [] b) (zP X.prog X.w tl A):=by
 have G:fD X "dict.values" (fun x vs H Q=>∃ M R a kvs,AM X.K H M/\x=.ref a/\vs=[]/\M a=some (.dn X.prog X.w tl kvs)/\(∀ p,M p=none->R (.ref p) (put M p (.vw a)))/\Up X.K H M R Q):=by
  rintro pins s σ H x vs v us Q I P rs ⟨M,R,a,kvs,l,rfl,rfl,e,h,k⟩
  cases (show v=Value.ref a from P)
  cases rs
  obtain⟨es,n,q⟩:=l _ _ e
  obtain⟨y,ep,hr,_,_,j,_⟩:=zO (rF I n)
  have hf:=I.hok.fresh (Aj s.heap.objs.size)
  obtain⟨t,D⟩:=l.laid (o:=.vw a) (u:=.ext fun h=>h.IsValuesView s.heap.objs.size a) hf cM
  refine zdK j hr ⟨.ref s.heap.objs.size,_,I.laid (a:=s.heap.objs.size) (o:=.ext fun h=>h.IsValuesView s.heap.objs.size a) (t':=s.toks) (fun _ _ z=>Ag _ z) (Aj _) ⟨⟨_,Ar _ rfl,rfl,rfl⟩,⟨_,Ar _ rfl⟩,fun B U ⟨o,m,r⟩ L=>⟨o,L o m,r⟩⟩,rfl,k _ _ _ _ D t (.ref _) (h _ (l.nonM hf))⟩
 refine(zdD (tq:=fun x H=>∃ a es,x=.ref a/\H a=some (.ext (d9 X.prog X.w tl a es))) Hk PySem.F.slot_dict_values PySem.F.type_dict_values G m (fun pins σ H s x v I r h=>K7 I r h) g f).weak ?_
 rintro σ H Q ⟨T,M,R,N,l,h,k⟩
 refine⟨T,M,_,N,l,h,fun d W V E S i J ⟨a,kvs,n,C,B⟩=>?_⟩
 subst n
 cases J
 obtain⟨es,O,q⟩:=i _ _ C
 exact⟨⟨a,es,rfl,O⟩,E,R,a,kvs,i,rfl,rfl,C,B,k.kp S⟩
def zQ(P:Ay)(w:Bq)(tl:List Int):List W->Mm->K3->Prop
 | [.ref a],M,R=>(∃ kvs,M a=some (.dn P w tl kvs)/\aV (kvs.map fun p=>h9 tl p.1) M R)\/∃ d kvs,M a=some (.vw d)/\M d=some (.dn P w tl kvs)/\aV (kvs.map fun p=>p.2) M R
 | _,_,_=>False
theorem K9{tl:List Int}(hc:X.calm=true):cN X (.type "list") (fG X.K (zQ X.prog X.w tl)):=by
 rintro pins s σ H xs us Q I rs ⟨ws,M,R,i,t,h,k⟩
 match ws,h with
 | [.ref a],h=>
  obtain⟨v,rfl,av⟩:=t.one
  cases av
  obtain⟨u,rfl,A⟩:=vals1 rs
  cases (show u=Value.ref a from A)
  rcases h with⟨kvs,e,r⟩ | ⟨d,kvs,D,e,r⟩
  ·obtain⟨es,n,q⟩:=i _ _ e
   obtain⟨b,ep,hr,o,p,f,c⟩:=zO (rF I n)
   refine K8 hc I (X9 (es:=b) (ep:=ep) f) hr p (xs:=es.map fun e=>V.ref e.2.1) (by rw[Ab];exact o.symm) (fun j v ⟨en,m,g⟩=>?_) fun l hl=>iJ i k hl (PN.keys q) r
   obtain⟨z,x,y,_⟩:=c j en m
   exact⟨.ref z.2.1,by rw[Aw,x];rfl,by rw[g,y];rfl⟩
  ·obtain⟨es,n,q⟩:=i _ _ e
   have C:H a=some (.ext fun h=>h.IsValuesView a d):=i _ _ D
   have g:s.heap.IsValuesView a d:=(show cA X.prog X.w H s.heap a (.ext fun h=>h.IsValuesView a d) from I.hok a _ C).1
   obtain⟨b,ep,hr,o,p,f,c⟩:=zO (rF I n)
   refine K8 hc I (YA (r:=a) (d:=d) (es:=b) (ep:=ep)) ⟨g,hr⟩ p (xs:=es.map fun e=>e.2.2) (by rw[Ab];exact o.symm) (fun j v ⟨en,m,g⟩=>?_) fun l hl=>iJ i k hl (PN.vals q) r
   obtain⟨z,x,_,B⟩:=c j en m
   exact⟨z.2.2,by rw[Aw,x];rfl,by rw[g];exact B⟩
end
end L3
namespace PySem
namespace Tr
open AutoSeq1 (wpAny_loadPart')
section
variable {prog:Ay}{w:Bq}{A:Cr}{E:Ae->Ah->Prop}{s:Ah}
theorem zdM{Q:List Ae->Ah->Prop}{r:Addr}{n:Nat}{b:Int}{t u v:Tok}(hh:A.handled=none)(hr:IsRange s.heap r 0 b 1 t u v)(hsm:Builtin.Range.small 0 b 1=true)(hn:Hl 0 b 1=n)(hl:n<=2 ^ 24)
  (hQ:∀ h' tk acc',(∀ c o,s.heap.get? c=some o->h'.get? c=some o)->ItemsOf (fun i v=>∃ t,v=.int (0 + i * 1) t) acc' n->Q acc'.toList {s with heap:=h',toks:=tk}) :
  Bf (Bu prog w) A (collect (.ref r)) Q E s:=by
 unfold collect
 refine Aa (wpAny_runValue (Ja F.entry_proto_collect ?_))
 rw[Fz F.plain_proto_collect _]
 show Bf _ A.in1 (newList [] >>= fun l=>again (.builtin "list.__iadd__" ⟨[l,.ref r],[]⟩)) _ _ s
 refine Aa (Cm (Af ⟨Lr F.plain_list_iadd _,Ja F.entry_list_iadd ?_⟩))
 rw[Fz F.plain_list_iadd _]
 show Bf _ A.in1 (Builtin.List.listExtendWith (.ref s.heap.objs.size) (.ref r) (.ref s.heap.objs.size)) _ _ _
 have g0:(s.heap.push {cls:=.type "list",data:=.seq ([]:List Ae).toArray}).get? s.heap.objs.size=some {cls:=.type "list",data:=.seq #[] 0}:=Ar _ rfl
 have last:∀ (h':Heap) (tk:Nat) (acc:Array Ae) (c:Nat),(∀ b o,b≠s.heap.objs.size->(s.heap.push {cls:=.type "list",data:=.seq ([]:List Ae).toArray}).get? b=some o->h'.get? b=some o)->h'.get? s.heap.objs.size=some {cls:=.type "list",dict:=none,data:=.seq acc c,slots:=#[]}->ItemsOf (fun i v=>∃ t,v=.int (0 + i * 1) t) acc n->
   Bf (Bu prog w) A (match Value.ref s.heap.objs.size with
   | Value.ref a=>do
    match (<-load a).data with
     | Data.seq xs _=>pure xs.toList
     | _=>unsupported "internal:collect"
   | _=>unsupported "internal:collect") Q E {s with heap:=h',toks:=tk}:=by
  intro h' tk acc c hk hS hacc
  show Bf _ A (load s.heap.objs.size >>= _) _ _ _
  exact Aa (wpAny_load hS (Af (hQ h' tk acc (fun b o e=>hk b o (Bj (Bc e)) (Ag _ e)) hacc)))
 refine Ha (wpAny_extend_range (A:=A) (R:=fun q s'=>∃ h' tk acc c,q=.ok (.ret (.ref s.heap.objs.size))/\s' = {s with heap:=h',toks:=tk}/\(∀ b o,b≠s.heap.objs.size->(s.heap.push {cls:=.type "list",data:=.seq ([]:List Ae).toArray}).get? b=some o->h'.get? b=some o)/\h'.get? s.heap.objs.size=some {cls:=.type "list",dict:=none,data:=.seq acc c,slots:=#[]}/\ItemsOf (fun i v=>∃ t,v=.int (0 + i * 1) t) acc n)
  (s:={s with heap:=s.heap.push {cls:=.type "list",data:=.seq ([]:List Ae).toArray}}) hh (Ag _ hr) hsm hn hl _ (.ref s.heap.objs.size) 0 g0 fun h' tk acc c hk hS hacc=>⟨h',tk,acc,c,rfl,rfl,hk,hS,hacc⟩) (fun fin s' h=>?_) (fun e s' h=>?_)
 ·cases fin with
  | done f=>
   obtain⟨h',tk,acc,c,e,rfl,q1,q2,q3⟩:=h
   cases e
   exact last h' tk acc c q1 q2 q3
  | again c'=>exact⟨h.1,Me h.2 fun q s'' hr=>by obtain⟨h',tk,acc,c,rfl,rfl,q1,q2,q3⟩:=hr;exact last h' tk acc c q1 q2 q3⟩
 ·obtain⟨h',tk,acc,c,e,_⟩:=h
  cases e
theorem made{r:Addr}{n:Nat}{b:Int}{t u v:Tok}{Q:Ae->Ah->Prop}(hh:A.handled=none)(hr:IsRange s.heap r 0 b 1 t u v)(e:Builtin.Range.small 0 b 1=true)(k:Hl 0 b 1=n)(hl:n<=2 ^ 24)
  (h:∀ (h':Heap) (tk:Nat) (acc:Array Ae),(∀ c o,s.heap.get? c=some o->h'.get? c=some o)->ItemsOf (fun i v=>∃ t,v=.int (0 + i * 1) t) acc n->Q (.ref h'.objs.size) {s with heap:=h'.push {cls:=.type "tuple",data:=.seq acc},toks:=tk}) :
  Bf (Bu prog w) A (call (.type "tuple") [.ref r]) Q E s:=by
 refine callType_newIn F.called_tuple (by decide) (F.typeCall_tuple_1 _) (F.newCall_tuple_1 _) (fun obj=>F.args_object_init_2 obj _) F.entry_tuple_new
  (S:=fun A R s=>A.handled=none/\IsRange s.heap r 0 b 1 t u v/\∀ (h':Heap) (tk:Nat) (acc:Array Ae),(∀ c o,s.heap.get? c=some o->h'.get? c=some o)->ItemsOf (fun i v=>∃ t,v=.int (0 + i * 1) t) acc n->R (.ok (.ret (.ref h'.objs.size))) {s with heap:=h'.push {cls:=.type "tuple",data:=.seq acc},toks:=tk})
  (.of_wp fun A R s h=>?_) ⟨hh,hr,fun h' tk acc hk a=>⟨⟨_,Ar _ rfl,rfl⟩,h h' tk acc hk a⟩⟩
 obtain⟨m,g,d,tk,os⟩:=s;obtain⟨p,ht,h⟩:=h
 have j:=sub_tuple_self
 have f:=init_tuple_lookup
 have l:=madeHere_tuple
 have q:Shared.TypeIs ⟨m,g,d,tk,os⟩ (.ref r) "range":=⟨_,ht,rfl⟩
 wp_walk using wpAny_loadPart' ht,Kr q,zdM (A:=A.in1) p ht e k hl
 intro h' tk acc hk a
 show Bf _ _ (Ex acc.toList.toArray >>= fun v=>ret v) _ _ _
 unfold Ex
 refine Aa (Cm ?_ (by show acc.toList.toArray.size<=Ai;rw[Hf,a.1,Ji];exact hl))
 refine Af ⟨_,rfl,?_⟩
 rw[Hf]
 exact h h' tk acc hk a
end
end Tr
end PySem
namespace L2
open PySem PySem.Spec PyProof.Rows
section
variable {X:Cx}{a:Expr}{ta:TA}{p p2 pos pos2:Pos}
def zdN(ta:TA):TE:=fun σ H Q=>ta σ H fun vs a=>∃ n:Nat,vs=[.int n]/\n<=1000/\∀ q,a q=none->Q (.ref q) (aR a q (.tup ((Cv n).map fun(i:Nat)=>V.int i)))
theorem zdO(hc:X.calm=true)(hg:Gl X "tuple")(hm:X.mg "tuple" = none)(hg2:Gl X "range")(hm2:X.mg "range" = none)(ha:PA X [a] ta)
  (hs1:Bl [.Call (.Name "range" p2) [a] [] pos2] X.env=[(false,eval (.Call (.Name "range" p2) [a] [] pos2) X.env)]:=by rfl) (hs2:Bl [a] X.env=[(false,eval a X.env)]:=by rfl) :
  PE X (.Call (.Name "tuple" p) [.Call (.Name "range" p2) [a] [] pos2] [] pos) (zdN ta):=by
 intro pins s σ H Q I h
 refine Gb (mG I hg hm (by decide +kernel:Ct "tuple" = some (.type "tuple")) (El ?_ hs1 rfl))
 rw[hs1]
 refine Calls.spliced_cons (Gb (mG I hg2 hm2 (by decide +kernel:Ct "range" = some (.type "range")) (El (a6 (ha pos2 pins s σ H _ I h) fun us s1 ⟨vs,H1,I1,r1,q1⟩=>?_) hs2 rfl)))
 obtain⟨n,rfl,hn,q⟩:=q1
 obtain⟨u,rfl,ru⟩:=vals1 r1
 obtain⟨t,rfl⟩:=ru
 refine call_range_1 (Calls.spliced_nil ?_)
 have sz:Hl 0 (n:Int) 1=(n:Nat):=by rw[rangeSize_one];split <;> omega
 refine Tr.made (n:=n) (b:=(n:Int)) (I1.ok.hd hc) (IsRange.new _ _ _ _ _ _ _) (PySem.small_one (by decide) (by decide) (by omega) (by omega)) sz (by omega) fun h' tk acc hk hacc=>?_
 have up:∀ b o,s1.heap.get? b=some o->h'.get? b=some o:=fun b o e=>hk b o (Ag _ e)
 have le:s1.heap.objs.size<=h'.objs.size:=by
  exact Jz (Bc (hk s1.heap.objs.size _ (Ar _ rfl)))
 refine⟨.ref h'.objs.size,_,I1.laid (a:=h'.objs.size) (o:=.tup ((Cv n).map fun(i:Nat)=>V.int i)) (t':=tk) (fun b o e=>Ag _ (up b o e)) le ⟨by simp[Ji];omega,acc.toList,?_,⟨_,Ar _ rfl,rfl,0,by simp⟩⟩,rfl,q _ (I1.hok.fresh le)⟩
 refine sY (by simp[hacc.1]) fun j v hv=>?_
 have hv':acc[j]? = some v:=by simpa using hv
 obtain⟨t',rfl⟩:=hacc.2 j v hv'
 have hj:j < n:=by have:=(Kb.mp hv').1;rw[hacc.1] at this;exact this
 refine⟨.int j,?_,t',by simp⟩
 simp[hj]
end
end L2
namespace L3
open PySem PySem.Spec PyProof.Rows L2
section
variable {X:Cx}{a:Expr}{ta:aW}
def zR(ta:aW):aW:=fun a M R=>ta a M fun w b=>∃ n:Nat,w=.int n/\n<=1000/\R (.tup ((Cv n).map fun(i:Nat)=>W.int i)) b
theorem zdP{p p2 pos pos2:Pos}(A:Gl X "tuple")(y:X.mg "tuple" = none)(m:Gl X "range")(d:X.mg "range" = none)(E:E3 X a ta)(hc:X.calm=true:=by rfl)
  (f:Bl [.Call (.Name "range" p2) [a] [] pos2] X.env=[(false,eval (.Call (.Name "range" p2) [a] [] pos2) X.env)]:=by rfl) (b:Bl [a] X.env=[(false,eval a X.env)]:=by rfl) :
  E3 X (.Call (.Name "tuple" p) [.Call (.Name "range" p2) [a] [] pos2] [] pos) (zR ta):=
 (zdO hc A y m d (aC E aJ (by rw[b];rfl)) f b).weak fun σ H Q z=>z.el fun G M R B I h k=>⟨G,M,fun ws c=>match ws with | [w]=>∃ n:Nat,w=.int n/\n<=1000/\R (.tup ((Cv n).map fun(i:Nat)=>W.int i)) c | _=>False,B,I,h,fun vs C ws c D j x r=>by
  match ws,r with
  | [w],⟨n,e,o,r⟩=>
   subst e
   obtain⟨v,rfl,av⟩:=x.one
   obtain rfl:=av.inv
   refine⟨n,rfl,o,fun q F=>?_⟩
   obtain⟨g,s⟩:=j.tup (u:=.tup ((Cv n).map fun(i:Nat)=>V.int i)) F
   refine k _ _ _ _ (D.trans s) g (.tup cM ?_) r
   have:∀ l:List Nat,aM X.K (aR C q (.tup ((Cv n).map fun(i:Nat)=>V.int i))) c (l.map fun(i:Nat)=>V.int i) (l.map fun(i:Nat)=>W.int i):=by
    intro l
    induction l with
    | nil=>exact .nil
    | cons i r t=>exact .cons (.int _) t
   exact this _⟩
end
end L3
namespace PySem
namespace Zd
open PyProof.Rows L2 PySem.Spec
section
variable {prog:Ay}{w:Bq}{A:Cr}{E:Ae->Ah->Prop}{s:Ah}
variable {z TI TO i1 i2 l1 l2:Addr}{xs ys:Array Ae}{S1 S2:Nat->Heap->Prop}
abbrev TK(prog:Ay)(w:Bq):=Fq (bH prog w)
def allH(es:List (List aD×Addr×Ae))(ps:List (List aD×Addr×Ae)):List (List aD×Addr×Ae):=ps.foldl (fun es p=>Ll es p.1 p.2.1 p.2.2) es
theorem LA(es:List (List aD×Addr×Ae))(k:List aD)(a:Addr)(v:Ae):(Ll es k a v).length<=es.length + 1:=by
 unfold Ll
 split
 ·rw[Ab];omega
 ·rw[Am,Bn];exact Aj _
theorem rG{h h':Heap}{k:List aD}{a:Addr}(x:(TK prog w).is h k a)(e:∀ o,h.get? a=some o->h'.get? a=some o):(TK prog w).is h' k a:=by
 obtain⟨o,items,n,b,r⟩:=x
 exact⟨o,items,n,e o b,r⟩
end
end Zd
end PySem
namespace L2
open PySem PySem.Spec PyProof.Rows
def nX(ks:List (List aD×V))(ps:List (List aD×V)):List (List aD×V):=ps.foldl (fun k p=>dY k p.1 p.2) ks
theorem zdQ{H:Hp}{qs:List (List aD×Addr×V)}{ps:List (List aD×Addr×Ae)}(h:Fm (fun(q:List aD×Addr×V) (p:List aD×Addr×Ae)=>q.1=p.1/\q.2.1=p.2.1/\RelV q.2.2 p.2.2) qs ps) :
  ∀ {kvs:List (List aD×V)} {es:List (List aD×Addr×Ae)},(∀ q∈qs,H q.2.1=some (.tup (q.1.map kV)))->KT H kvs es->KT H (nX kvs (qs.map fun q=>(q.1,q.2.2))) (Zd.allH es ps):=by
 induction h with
 | nil=>intro kvs es _ k;exact k
 | @cons q p qs ps r t b=>
  intro kvs es a k
  obtain⟨d,i,f⟩:=q
  obtain⟨e,p2,g⟩:=p
  obtain⟨rfl,rfl,c⟩:=r
  exact b (fun z hz=>a z (An _ hz)) (k.put d (a _ Ba) c)
theorem LB:∀ (ps:List (List aD×V)) (ks:List (List aD×V)),(nX ks ps).length<=ks.length + ps.length
 | [],ks=>Aj _
 | p :: ps,ks=>by
  have b:=LB ps (dY ks p.1 p.2)
  have a:=oM ks p.1 p.2
  show(nX (dY ks p.1 p.2) ps).length<=ks.length + (ps.length + 1)
  omega
end L2
namespace L3
open PySem PySem.Spec PyProof.Rows L2
def pM(kvs:List (List aD×W))(ps:List (List aD×W)):List (List aD×W):=ps.foldl (fun kvs p=>b9 kvs p.1 p.2) kvs
end L3
namespace Rg
open PySem PySem.Spec PyProof.Rows L2 L3
def pN(i:Nat):Str:="M" ++ "_" ++ mZ i
theorem zdR(i:Nat):cs (pN i)=77 :: 95 :: cs (mZ i):=by
 unfold pN
 rw[oR,oR,G6]
 rfl
theorem LC:∀ {a b:List Str},a.map (Sum.inr:Str->aD)=b.map Sum.inr->a=b
 | [],[],_=>rfl
 | [],_ :: _,h=>by cases h
 | _ :: _,[],h=>by cases h
 | x :: a,y :: b,h=>by
  simp only[Au,Dv,Sum.inr.injEq] at h
  rw[h.1,LC h.2]
theorem LF(rs:List aG):(namesOf rs).length<=rs.length:=by
 have:=t5 (rs.map aG.name) []
 unfold namesOf mX
 simpa using this
abbrev NP:=Str×List Str
def zS(ps:List Str):W:=.tup ((Cv ps.length).map fun(i:Nat)=>W.int i)
def eM(acc:List (NP×W))(a:NP×W):List (NP×W):=if a.1∈acc.map Ci then acc else acc ++ [a]
theorem LG{acc:List (NP×W)}{a:NP×W}{x:NP}:x∈(eM acc a).map Ci↔x∈acc.map Ci\/x=a.1:=by
 unfold eM
 split
 ·rename_i h
  constructor
  ·exact .inl
  ·rintro(q | q)
   ·exact q
   ·rw[q];exact h
 ·rw[Bi,Bh]
  simp
theorem LH:∀ {its acc:List (NP×W)} {x:NP},x∈(its.foldl eM acc).map Ci↔x∈acc.map Ci\/x∈its.map Ci
 | [],acc,x=>by simp
 | a :: r,acc,x=>by
  rw[Dj,LH,LG,Au,Be,or_assoc]
theorem zT:∀ {its acc:List (NP×W)},∃ r,its.foldl eM acc=acc ++ r
 | [],acc=>⟨[],by simp⟩
 | a :: r,acc=>by
  obtain⟨q,b⟩:=zT (its:=r) (acc:=eM acc a)
  rw[Dj,b]
  unfold eM
  split
  ·exact⟨q,rfl⟩
  ·exact⟨a :: q,by simp⟩
def k7(x:NP):bT:=(Sum.inr x.1,x.2.map Sum.inr)
theorem zdS{x y:NP}(h:k7 x=k7 y):x=y:=by
 obtain⟨a,b⟩:=x
 obtain⟨c,d⟩:=y
 unfold k7 at h
 rw[Dk] at h
 have e:=h.1
 injection e with e
 exact Kd e (LC h.2)
def kvsOf(l:List (NP×W)):List (bT×W):=l.map fun p=>(k7 p.1,p.2)
theorem LI(l:List (NP×W))(x:NP):(aY (kvsOf l) (k7 x)=none/\x∉l.map Ci)\/(∃ w,aY (kvsOf l) (k7 x)=some w)/\x∈l.map Ci:=by
 induction l with
 | nil=>exact .inl ⟨rfl,by simp⟩
 | cons p l c=>
  unfold kvsOf aY at c ⊢
  rw[Au,Cs,Au,Be]
  by_cases h:p.1=x
  ·rw[decide_eq_true (by rw[h])]
   exact .inr ⟨⟨_,rfl⟩,.inl h.symm⟩
  ·rw[decide_eq_false (fun e=>h (zdS e))]
   rcases c with⟨b,a⟩ | ⟨b,a⟩
   ·exact .inl ⟨b,fun e=>by rcases e with e | e;exact h e.symm;exact a e⟩
   ·exact .inr ⟨b,.inr a⟩
def iN(x:NP):aG:=⟨x.1,x.2,0⟩
theorem zdT(x:NP):h9 [0] (k7 x)=aX (iN x):=by
 unfold h9 k7 aX iN
 simp[wK,Jh]
end Rg
namespace L3
open PySem PySem.Spec PyProof.Rows L2
structure Dm(K:Ac)(C:Addr)(x qual:Str)(st:Stmt)(ps:List Str)(f:Addr)(fd:Bo):Prop where
 fn:kK K x qual st f fd
 me:oJ K C x f
 bi:Binds K fd ps []
structure Di(K:Ac)(C:Addr)(x qual:Str)(st:Stmt)(ps:List Str)(f:Addr)(fd:Bo):Prop where
 fn:kK K x qual st f fd
 mak:Mk K C f
 bi:Binds K fd ps []
theorem LJ{A:Cr}{k:Nat}(hr:cT k A):A.units + 2 < Es:=by have:=hr.un;omega
end L3
namespace Rg
open PySem PySem.Spec PyProof.Rows L2 L3
def m7(z:Str):Bool:=match cs z with | c :: _=>decide (c∈cs gQ) | []=>false
theorem LK{t:Str}(h:iM t):m7 t=false:=by
 unfold m7
 cases e:cs t with
 | nil=>rfl
 | cons c r=>
  have key:∀ c∈cs kM,c∉cs gQ:=by decide +kernel
  exact decide_eq_false (key c (h.sm c (by rw[e];simp)))
structure Sh(t:Str):Prop where
 len:t.length<=60
 ne:cs t≠[]
 asc:mV t
theorem Sh.cons{t:Str}(h:Sh t):∃ c r,cs t=c :: r:=by
 cases e:cs t with
 | nil=>exact absurd e h.ne
 | cons c r=>exact⟨c,r,rfl⟩
theorem iM.sh{t:Str}(h:iM t):Sh t:=⟨by have:=h.len;omega,h.ne,h.asc⟩
theorem lZ.sh{t:Str}(h:lZ t):Sh t:=⟨by have:=h.len;omega,by obtain⟨c,r,e,_⟩:=h.hd;rw[e];simp,h.asc⟩
theorem zdU{i:Nat}(h:i < 180):(mZ i).length<=3/\1<=(mZ i).length:=by
 constructor
 ·rw[<-nG,zdu,Ab]
  exact(Nat.length_toDigits_le_iff (by decide) (by decide)).mpr (by omega)
 ·have:=(xD (m:=i)).2
  rw[<-nG]
  exact Dg.mpr this
theorem zdV(i:Nat):Cg (pN i) "_" = (("M" : Str),("_" : Str),mZ i):=G9 (by rw[zdR];rfl) (by decide +kernel)
structure zU(rs:List aG):Prop where
 ne:rs≠[]
 few:rs.length<=400
 ok:∀ r∈rs,0<=r.cost/\∀ t∈r.parts,t.length<=1000/\(iX t=true->t∈namesOf rs)
abbrev aL:=Int×Int
def cL(a b:aL):Bool:=decide (a.1 < b.1) || (decide (a.1=b.1) && decide (a.2 < b.2))
theorem pO{a b:aL}:cL a b=true↔a.1 < b.1\/a.1=b.1/\a.2 < b.2:=by simp[cL]
def Le(a b:aL):Prop:=a.1 < b.1\/a.1=b.1/\a.2<=b.2
theorem zV{a b:aL}:Le a b↔¬ cL b a=true:=by
 rw[pO];unfold Le;lia
theorem Le.refl(a:aL):Le a a:=.inr ⟨rfl,Ky _⟩
theorem Le.trans{a b c:aL}(h:Le a b)(h':Le b c):Le a c:=by unfold Le at *;lia
theorem Le.of_lt{a b:aL}(h:cL a b=true):Le a b:=by rw[pO] at h;unfold Le;lia
theorem Le.antisymm{a b:aL}(h:Le a b)(h':Le b a):a=b:=by
 unfold Le at *
 exact Kd (by lia) (by lia)
theorem rH{a:aL}:¬ cL a a=true:=by rw[pO];lia
theorem rJ{a b c:aL}(h:cL a b=true)(h':Le b c):cL a c=true:=by rw[pO] at *;unfold Le at h';lia
def dU(a b:aL):aL:=(a.1 + b.1,a.2 + b.2)
theorem zdW{a b c d:aL}(h:Le a b)(h':Le c d):Le (dU a c) (dU b d):=by unfold Le dU at *;simp only;lia
section
variable {κ β:Type}[DecidableEq κ]
def aI(t:List (κ×β))(k:κ):Option β:=(t.find? fun e=>decide (e.1=k)).map (·.2)
def cY(t:List (κ×β))(k:κ)(v:β):List (κ×β):=if (t.any fun e=>decide (e.1=k))=true then t.map (fun e=>if e.1=k then(e.1,v) else e) else t ++ [(k,v)]
theorem dJ(e:κ×β)(t:List (κ×β))(k:κ):aI (e :: t) k=if e.1=k then some e.2 else aI t k:=by
 unfold aI
 rw[Cs]
 by_cases h:e.1=k
 ·rw[decide_eq_true h,if_pos h];rfl
 ·rw[decide_eq_false h,if_neg h]
theorem m8(t:List (κ×β))(k:κ):(t.any fun e=>decide (e.1=k))=(aI t k).isSome:=by
 induction t with
 | nil=>rfl
 | cons e t a=>
  rw[Em,dJ,a]
  by_cases h:e.1=k
  ·rw[decide_eq_true h,if_pos h];rfl
  ·rw[decide_eq_false h,if_neg h];rfl
theorem zW(t:List (κ×β))(k j:κ)(v:β):aI (t ++ [(k,v)]) j=(aI t j).or (if k=j then some v else none):=by
 induction t with
 | nil=>rw[Ie,dJ];rfl
 | cons e t a=>
  rw[List.cons_append,dJ,dJ,a]
  split <;> rfl
theorem zdX(t:List (κ×β))(k j:κ)(v:β)(h:(aI t k).isSome=true):aI (t.map (fun e=>if e.1=k then(e.1,v) else e)) j=if k=j then some v else aI t j:=by
 induction t with
 | nil=>cases h
 | cons e t c=>
  rw[Au,dJ,dJ]
  rw[dJ] at h
  by_cases hk:e.1=k
  ·rw[if_pos hk]
   by_cases b:k=j
   ·rw[if_pos (by rw[hk,b]:(e.1,v).1=j),if_pos b]
   ·rw[if_neg (by rw[hk];exact b),if_neg b,if_neg (by rw[hk];exact b)]
    by_cases ht:(aI t k).isSome=true
    ·rw[c ht,if_neg b]
    ·have:∀ {t:List (κ×β)},¬ (aI t k).isSome=true->t.map (fun e=>if e.1=k then(e.1,v) else e)=t:=by
      intro t
      induction t with
      | nil=>intro _;rfl
      | cons a t c=>
       intro h
       rw[dJ] at h
       by_cases d:a.1=k
       ·rw[if_pos d] at h;exact absurd rfl h
       ·rw[if_neg d] at h
        rw[Au,if_neg d,c h]
     rw[this ht]
  ·rw[if_neg hk] at h ⊢
   by_cases b:e.1=j
   ·rw[if_pos b,if_pos b,if_neg (fun z=>hk (by rw[b,z]))]
   ·rw[if_neg b,if_neg b]
    exact c h
theorem jB(t:List (κ×β))(k j:κ)(v:β):aI (cY t k v) j=if k=j then some v else aI t j:=by
 unfold cY
 rw[m8]
 split
 ·rename_i h
  exact zdX t k j v h
 ·rename_i h
  rw[zW]
  by_cases a:k=j
  ·subst a
   rw[if_pos rfl,if_pos rfl]
   cases e:aI t k with
   | none=>rfl
   | some z=>rw[e] at h;exact absurd rfl h
  ·rw[if_neg a,if_neg a,Option.or_none]
theorem uC(t:List (κ×β))(k:κ)(v:β):(cY t k v).length<=t.length + 1:=by
 unfold cY
 split
 ·rw[Ab];lia
 ·simp
def eR{a:Type}(t:List (κ×List a))(k:κ)(v:a):List (κ×List a):=cY t k ((aI t k).getD [] ++ [v])
theorem rK{a:Type}(t:List (κ×List a))(k j:κ)(v:a):(aI (eR t k v) j).getD []=if k=j then(aI t j).getD [] ++ [v] else(aI t j).getD []:=by
 unfold eR
 rw[jB]
 by_cases h:k=j
 ·subst h;rw[if_pos rfl,if_pos rfl];rfl
 ·rw[if_neg h,if_neg h]
end
section
variable {α:Type}
def dP(c:aL)(x:α):List (aL×List α)->List (aL×List α)
 | []=>[(c,[x])]
 | (d,xs) :: r=>if cL c d=true then(d,xs) :: dP c x r else if d=c then(d,xs ++ [x]) :: r else(c,[x]) :: (d,xs) :: r
def a7:List (aL×List α)->List (aL×α)
 | []=>[]
 | (d,xs) :: r=>xs.map (fun x=>(d,x)) ++ a7 r
theorem uD(c:aL)(x:α):∀ q:List (aL×List α),(a7 (dP c x q)).length=(a7 q).length + 1
 | []=>rfl
 | (d,xs) :: r=>by
  rw[dP]
  split
  ·rw[a7,a7,Am,Am,uD c x r];lia
  ·split
   ·rw[a7,a7,Am,Am,Bi,Am];simp;lia
   ·simp[a7]
def gV:List (aL×List α)->Prop
 | []=>True
 | (d,xs) :: r=>xs≠[]/\(∀ e∈r,cL e.1 d=true)/\gV r
theorem LL(c:aL)(x:α):∀ q:List (aL×List α),∀ e∈dP c x q,e.1=c\/∃ a∈q,a.1=e.1
 | [],e,h=>by simp[dP] at h;exact .inl (by rw[h])
 | (d,xs) :: r,e,h=>by
  rw[dP] at h
  split at h
  ·rcases Be.mp h with z | z
   ·exact .inr ⟨(d,xs),by simp,by rw[z]⟩
   ·rcases LL c x r e z with q | ⟨a,f,b⟩
    ·exact .inl q
    ·exact .inr ⟨a,An _ f,b⟩
  ·split at h
   ·rcases Be.mp h with z | z
    ·exact .inr ⟨(d,xs),by simp,by rw[z]⟩
    ·exact .inr ⟨e,An _ z,rfl⟩
   ·rcases Be.mp h with z | z
    ·exact .inl (by rw[z])
    ·exact .inr ⟨e,z,rfl⟩
theorem zX(c:aL)(x:α):∀ {q:List (aL×List α)},gV q->gV (dP c x q)
 | [],_=>⟨by simp,by simp,trivial⟩
 | (d,xs) :: r,h=>by
  obtain⟨f,b,i⟩:=h
  rw[dP]
  split
  ·rename_i a
   refine⟨f,fun e j=>?_,zX c x i⟩
   rcases LL c x r e j with z | ⟨l,z1,z2⟩
   ·rw[z];exact a
   ·rw[<-z2];exact b l z1
  ·rename_i a
   split
   ·rename_i hd
    subst hd
    exact⟨by simp,b,i⟩
   ·rename_i hd
    have g:cL d c=true:=by
     have k:¬ (c.1 < d.1\/c.1=d.1/\c.2 < d.2):=by rw[<-pO];exact a
     rw[pO]
     by_cases f:d.1=c.1
     ·refine .inr ⟨f,?_⟩
      have:d.2≠c.2:=fun b=>hd (Kd f b)
      lia
     ·left;lia
    refine⟨by simp,fun e j=>?_,f,b,i⟩
    rcases Be.mp j with z | z
    ·rw[z];exact g
    ·exact rJ (b e z) (Le.of_lt g)
def iA:List (aL×List α)->Option (aL×α×List (aL×List α))
 | []=>none
 | [(d,xs)]=>match xs.getLast? with
  | none=>none
  | some x=>some (d,x,if xs.dropLast.isEmpty then [] else [(d,xs.dropLast)])
 | e :: a :: r=>match iA (a :: r) with
  | none=>none
  | some (d,x,q)=>some (d,x,e :: q)
theorem nY:∀ {q:List (aL×List α)},gV q->q≠[]->∃ d x f,iA q=some (d,x,f)/\gV f/\(∀ e,e∈a7 q↔e=(d,x)\/e∈a7 f)/\(a7 q).length=(a7 f).length + 1/\(∀ e∈q,Le d e.1)/\∀ e∈f,∃ v∈q,v.1=e.1
 | [],_,h=>absurd rfl h
 | [(d,xs)],h,_=>by
  obtain⟨k,_,_⟩:=h
  rcases Fe xs with z | ⟨ys,y,z⟩
  ·exact absurd z k
  ·rw[Ff] at z
   subst z
   refine⟨d,y,if ys.isEmpty then [] else [(d,ys)],by simp[iA],?_,fun e=>?_,?_,fun e g=>?_,fun e g=>?_⟩
   ·cases ys with
    | nil=>trivial
    | cons a b=>exact⟨by simp,by simp,trivial⟩
   ·cases ys with
    | nil=>simp[a7]
    | cons a b=>simp[a7];constructor <;> (intro h;rcases h with h | h | h <;> simp[h])
   ·cases ys with
    | nil=>simp[a7]
    | cons a b=>simp[a7]
   ·rw[Ax.mp g];exact Le.refl _
   ·cases ys with
    | nil=>cases g
    | cons a b=>simp at g;exact⟨(d,a :: b ++ [y]),by simp,by rw[g]⟩
 | e :: o :: r,h,_=>by
  obtain⟨k,m,s⟩:=h
  obtain⟨d,x,f,w,t,u,p,n,l⟩:=nY s (by simp)
  refine⟨d,x,e :: f,by rw[iA,w],⟨k,fun z hz=>?_,t⟩,fun z=>?_,?_,fun z hz=>?_,fun z hz=>?_⟩
  ·obtain⟨j,c,i⟩:=l z hz
   rw[<-i];exact m j c
  ·rw[a7,Bh,u,a7,Bh]
   constructor
   ·rintro(h | h | h)
    ·exact .inr (.inl h)
    ·exact .inl h
    ·exact .inr (.inr h)
   ·rintro(h | h | h)
    ·exact .inr (.inl h)
    ·exact .inl h
    ·exact .inr (.inr h)
  ·rw[a7,Am,p,a7,Am];lia
  ·rcases Be.mp hz with q | q
   ·rw[q]
    have:=n o Ba
    exact this.trans (Le.of_lt (m o Ba))
   ·exact n z q
  ·rcases Be.mp hz with q | q
   ·exact⟨e,Ba,by rw[q]⟩
   ·obtain⟨j,c,i⟩:=l z q
    exact⟨j,An _ c,i⟩
theorem LM{q:List (aL×List α)}{e:aL×α}(h:e∈a7 q):∃ b∈q,b.1=e.1:=by
 induction q with
 | nil=>cases h
 | cons b r c=>
  obtain⟨d,xs⟩:=b
  rw[a7] at h
  rcases Bh.mp h with z | z
  ·obtain⟨x,_,rfl⟩:=Ao.mp z
   exact⟨(d,xs),Ba,rfl⟩
  ·obtain⟨b,f,a⟩:=c z
   exact⟨b,An _ f,a⟩
end
section
variable {α:Type}
theorem LN(c:aL)(x:α):∀ q:List (aL×List α),(a7 (dP c x q)).Perm ((c,x) :: a7 q)
 | []=>.refl _
 | (d,xs) :: r=>by
  rw[dP]
  split
  ·rw[a7,a7]
   exact(List.Perm.append_left _ (LN c x r)).trans List.perm_middle
  ·split
   ·rename_i hd
    subst hd
    rw[a7,a7,Bi,Hc]
    exact List.perm_middle
   ·exact .refl _
theorem zY:∀ {q c:List (aL×List α)} {d:aL} {x:α},gV q->iA q=some (d,x,c)->(a7 q).Perm ((d,x) :: a7 c)
 | [],c,d,x,_,h=>by cases h
 | [(f,xs)],c,d,x,hf,h=>by
  obtain⟨g,_,_⟩:=hf
  rcases Fe xs with z | ⟨ys,y,z⟩
  ·exact absurd z g
  ·rw[Ff] at z
   subst z
   simp[iA] at h
   obtain⟨rfl,rfl,rfl⟩:=h
   cases ys with
   | nil=>exact .refl _
   | cons a b=>
    rw[if_neg (by simp)]
    simp only[a7,Gf,Bi,Au,Jd]
    exact List.perm_append_singleton _ _
 | e :: n :: r,c,d,x,hf,h=>by
  obtain⟨_,_,i⟩:=hf
  rw[iA] at h
  split at h
  ·cases h
  ·rename_i m x1 l k
   simp only[Fu,Dk] at h
   obtain⟨rfl,rfl,rfl⟩:=h
   have j:=zY i k
   obtain⟨f,xs⟩:=e
   rw[a7,a7]
   exact(List.Perm.append_left _ j).trans List.perm_middle
end
structure Sr where
 rs:List aG
 own:Str->Bool
 places:List Int
 steps:Str->Int->List (Int×Int)
 wt:Nat->Int
structure nZ(G:Sr):Prop where
 wt:∀ n,0<=G.wt n
 pr:∀ t p e c,(e,c)∈G.steps t p->0<=c
abbrev K4:=Nat×Nat×Int×Int
abbrev iO:=Str×Int×Int
abbrev bQ:=Nat×List Int×aL
def bG(n:Nat)(cut:List Int):K4:=(n,cut.length,cut.headD 0,cut.getLastD 0)
def l8(y:bQ):K4:=bG y.1 y.2.1
abbrev d7:=List (iO×aL×Nat×List Int)
structure SS where
 q:List (aL×List (Nat×List Int))
 reached:List (K4×aL)
 best:d7
 ends:List ((Str×Int)×List (Int×aL))
 begun:List ((Str×Int)×List bQ)
def reach(st:SS)(n:Nat)(cut:List Int)(c:aL):SS:=match aI st.reached (bG n cut) with
 | some d=>if cL c d=true then {st with reached:=cY st.reached (bG n cut) c,q:=dP c (n,cut) st.q} else st
 | none=>{st with reached:=cY st.reached (bG n cut) c,q:=dP c (n,cut) st.q}
inductive GI(G:Sr)(B:d7):Nat->List Int->aL->Prop
 | start {n:Nat} {r:aG} {p:Int}:G.rs[n]? = some r->p∈G.places->GI G B n [p] (G.wt n,1)
 | word {n:Nat} {r:aG} {cut:List Int} {c:aL} {part:Str} {e pr:Int}:GI G B n cut c->G.rs[n]? = some r->r.parts[cut.length - 1]? = some part->G.own part=false->(e,pr)∈G.steps part (cut.getLastD 0)->GI G B n (cut ++ [e]) (c.1 + pr,c.2)
 | name {n:Nat} {r:aG} {cut:List Int} {c m:aL} {part:Str} {e:Int} {k:Nat×List Int}:GI G B n cut c->G.rs[n]? = some r->r.parts[cut.length - 1]? = some part->G.own part=true->aI B (part,cut.getLastD 0,e)=some (m,k)->GI G B n (cut ++ [e]) (dU c m)
theorem GI.mono{G:Sr}{B i:d7}(h:∀ f v,aI B f=some v->aI i f=some v){n:Nat}{cut:List Int}{c:aL}(g:GI G B n cut c):GI G i n cut c:=by
 induction g with
 | start a b=>exact .start a b
 | word _ a b c d e=>exact .word e a b c d
 | name _ a b c d e=>exact .name e a b c (h _ _ d)
theorem GI.ne{G:Sr}{B:d7}{n:Nat}{cut:List Int}{c:aL}(g:GI G B n cut c):cut≠[]:=by cases g <;> simp
def qk(e:aL×(Nat×List Int)):aL×K4:=(e.1,bG e.2.1 e.2.2)
def eY(st:SS)(k:K4)(c:aL):Prop:=∃ d,aI st.reached k=some d/\Le d c
structure eZ(G:Sr)(st:SS)(P:List bQ)(cur:aL):Prop where
 fall:gV st.q
 item:∀ e∈a7 st.q,GI G st.best e.2.1 e.2.2 e.1
 ge:∀ e∈a7 st.q,∃ d,aI st.reached (bG e.2.1 e.2.2)=some d/\Le d e.1
 nd:((a7 st.q).map qk).Nodup
 once:(P.map l8).Nodup
 pr:∀ y∈P,aI st.reached (l8 y)=some y.2.2/\Le y.2.2 cur/\GI G st.best y.1 y.2.1 y.2.2
 fresh:∀ e∈a7 st.q,∀ y∈P,l8 y=bG e.2.1 e.2.2->cL y.2.2 e.1=true
 curq:∀ e∈a7 st.q,Le cur e.1
 hit:∀ k d,aI st.reached k=some d->(∃ e∈a7 st.q,e.1=d/\bG e.2.1 e.2.2=k)\/∃ y∈P,l8 y=k/\y.2.2=d
structure j9(st st':SS):Prop where
 best:st'.best=st.best
 ends:st'.ends=st.ends
 begun:st'.begun=st.begun
 le:∀ k c,eY st k c->eY st' k c
theorem j9.refl(st:SS):j9 st st:=⟨rfl,rfl,rfl,fun _ _ h=>h⟩
theorem j9.trans{a b c:SS}(x:j9 a b)(y:j9 b c):j9 a c:=⟨y.best.trans x.best,y.ends.trans x.ends,y.begun.trans x.begun,fun k c h=>y.le k c (x.le k c h)⟩
theorem zdY{G:Sr}{st:SS}{P:List bQ}{cur:aL}{n:Nat}{cut:List Int}{c:aL}(I:eZ G st P cur)(g:GI G st.best n cut c)(hc:Le cur c) :
  eZ G (reach st n cut c) P cur/\j9 st (reach st n cut c)/\eY (reach st n cut c) (bG n cut) c:=by
 have j:(∀ d,aI st.reached (bG n cut)=some d->cL c d=true)->eZ G {st with reached:=cY st.reached (bG n cut) c,q:=dP c (n,cut) st.q} P cur/\j9 st {st with reached:=cY st.reached (bG n cut) c,q:=dP c (n,cut) st.q}/\eY {st with reached:=cY st.reached (bG n cut) c,q:=dP c (n,cut) st.q} (bG n cut) c:=by
  intro f
  have s:=LN c (n,cut) st.q
  have o:∀ e,e∈a7 (dP c (n,cut) st.q)↔e=(c,(n,cut))\/e∈a7 st.q:=fun e=>by rw[s.mem_iff,Be]
  have p:∀ y∈P,l8 y≠bG n cut:=fun y m e=>by
   obtain⟨a,b,_⟩:=I.pr y m
   rw[e] at a
   have:=rJ (f _ a) (b.trans hc)
   exact rH this
  have le:∀ k d,eY st k d->eY {st with reached:=cY st.reached (bG n cut) c,q:=dP c (n,cut) st.q} k d:=fun k d h=>by
   obtain⟨z,a,b⟩:=h
   by_cases e:bG n cut=k
   ·subst e
    exact⟨c,by show aI (cY _ _ _) _=_;rw[jB,if_pos rfl],(Le.of_lt (f z a)).trans b⟩
   ·exact⟨z,by show aI (cY _ _ _) _=_;rw[jB,if_neg e];exact a,b⟩
  refine⟨⟨zX _ _ I.fall,fun e i=>?_,fun e i=>?_,?_,I.once,fun y m=>?_,fun e i y m l=>?_,fun e i=>?_,fun k d hd=>?_⟩,⟨rfl,rfl,rfl,le⟩,c,by show aI (cY _ _ _) _=_;rw[jB,if_pos rfl],Le.refl c⟩
  ·rcases(o e).mp i with z | z
   ·rw[z];exact g
   ·exact I.item e z
  ·show ∃ d,aI (cY _ _ _) _=_/\_
   rw[jB]
   rcases(o e).mp i with z | z
   ·rw[z,if_pos rfl];exact⟨c,rfl,Le.refl _⟩
   ·obtain⟨d,a,b⟩:=I.ge e z
    by_cases l:bG n cut=bG e.2.1 e.2.2
    ·rw[if_pos l]
     rw[<-l] at a
     exact⟨c,rfl,(Le.of_lt (f d a)).trans b⟩
    ·rw[if_neg l];exact⟨d,a,b⟩
  ·rw[(s.map qk).nodup_iff,Au,Dh]
   refine⟨fun z=>?_,I.nd⟩
   obtain⟨e,i,eq⟩:=Ao.mp z
   obtain⟨d,a,b⟩:=I.ge e i
   unfold qk at eq
   rw[Dk] at eq
   rw[eq.2] at a
   rw[eq.1] at b
   exact rH (rJ (f d a) b)
  ·obtain⟨a,b,r⟩:=I.pr y m
   refine⟨?_,b,r⟩
   show aI (cY _ _ _) _=_
   rw[jB,if_neg (Ca (p y m))];exact a
  ·rcases(o e).mp i with z | z
   ·rw[z] at l;exact absurd l (p y m)
   ·exact I.fresh e z y m l
  ·rcases(o e).mp i with z | z
   ·rw[z];exact hc
   ·exact I.curq e z
  ·have hd:aI (cY st.reached (bG n cut) c) k=some d:=hd
   rw[jB] at hd
   by_cases e:bG n cut=k
   ·rw[if_pos e] at hd
    cases hd
    exact .inl ⟨(c,(n,cut)),(o _).mpr (.inl rfl),rfl,e⟩
   ·rw[if_neg e] at hd
    rcases I.hit k d hd with⟨x,a,b,r⟩ | h
    ·exact .inl ⟨x,(o _).mpr (.inr a),b,r⟩
    ·exact .inr h
 unfold reach
 cases h:aI st.reached (bG n cut) with
 | none=>exact j fun d e=>by rw[h] at e;cases e
 | some d=>
  simp only
  split
  ·rename_i hl
   exact j fun d' e=>by rw[h] at e;cases e;exact hl
  ·rename_i hl
   exact⟨I,j9.refl st,d,h,zV.mpr hl⟩
theorem rL{G:Sr}{P:List bQ}{cur:aL}{α:Type}(f:α->Nat×List Int×aL):∀ (xs:List α) {st:SS},eZ G st P cur->(∀ x∈xs,GI G st.best (f x).1 (f x).2.1 (f x).2.2/\Le cur (f x).2.2)->
  eZ G (xs.foldl (fun st x=>reach st (f x).1 (f x).2.1 (f x).2.2) st) P cur/\j9 st (xs.foldl (fun st x=>reach st (f x).1 (f x).2.1 (f x).2.2) st)/\∀ x∈xs,eY (xs.foldl (fun st x=>reach st (f x).1 (f x).2.1 (f x).2.2) st) (bG (f x).1 (f x).2.1) (f x).2.2
 | [],st,I,_=>⟨I,j9.refl st,fun x g=>nomatch g⟩
 | x :: xs,st,I,h=>by
  obtain⟨l,i⟩:=h x Ba
  obtain⟨k,b,d⟩:=zdY I l i
  obtain⟨j,c,e⟩:=rL f xs k fun y a=>by
   have:=h y (An _ a)
   rw[b.best];exact this
  refine⟨j,b.trans c,fun y a=>?_⟩
  rcases Be.mp a with z | z
  ·rw[z];exact c.le _ _ d
  ·exact e y z
def c8(G:Sr)(n:Nat):Str:=match G.rs[n]? with
 | some r=>r.name
 | none=>""
def dD(G:Sr)(n:Nat)(cut:List Int):Option Str:=match G.rs[n]? with
 | some r=>r.parts[cut.length - 1]?
 | none=>none
def cZ(G:Sr)(n:Nat)(cut:List Int):iO:=(c8 G n,cut.headD 0,cut.getLastD 0)
def settle(G:Sr)(st:SS)(n:Nat)(cut:List Int)(c:aL):SS:=match aI st.best (cZ G n cut) with
 | some _=>st
 | none=>((aI st.begun (c8 G n,cut.headD 0)).getD []).foldl (fun st y=>reach st y.1 (y.2.1 ++ [cut.getLastD 0]) (dU y.2.2 c)) {st with best:=st.best ++ [(cZ G n cut,c,n,cut)],ends:=eR st.ends (c8 G n,cut.headD 0) (cut.getLastD 0,c)}
def fJ(st:SS)(n:Nat)(cut:List Int)(c:aL)(part:Str):SS:=((aI st.ends (part,cut.getLastD 0)).getD []).foldl (fun st z=>reach st n (cut ++ [z.1]) (dU c z.2)) {st with begun:=eR st.begun (part,cut.getLastD 0) (n,cut,c)}
def fS(G:Sr)(st:SS)(n:Nat)(cut:List Int)(c:aL)(part:Str):SS:=(G.steps part (cut.getLastD 0)).foldl (fun st z=>reach st n (cut ++ [z.1]) (c.1 + z.2,c.2)) st
def process(G:Sr)(st:SS)(n:Nat)(cut:List Int)(c:aL):SS:=match dD G n cut with
 | none=>settle G st n cut c
 | some part=>if G.own part=true then fJ st n cut c part else fS G st n cut c part
structure Ob(G:Sr)(st:SS)(P:List bQ)(cur:aL):Prop where
 zero:Le (0,0) cur
 fin:∀ y∈P,dD G y.1 y.2.1=none->∃ m k,aI st.best (cZ G y.1 y.2.1)=some (m,k)/\Le m y.2.2
 wrd:∀ y∈P,∀ part,dD G y.1 y.2.1=some part->G.own part=false->∀ z∈G.steps part (y.2.1.getLastD 0),eY st (bG y.1 (y.2.1 ++ [z.1])) (y.2.2.1 + z.2,y.2.2.2)
 nam:∀ y∈P,∀ part,dD G y.1 y.2.1=some part->G.own part=true->y∈(aI st.begun (part,y.2.1.getLastD 0)).getD []
 pair:∀ key,∀ y∈(aI st.begun key).getD [],∀ z∈(aI st.ends key).getD [],eY st (bG y.1 (y.2.1 ++ [z.1])) (dU y.2.2 z.2)
 bgn:∀ key,∀ y∈(aI st.begun key).getD [],y∈P/\dD G y.1 y.2.1=some key.1/\G.own key.1=true/\y.2.1.getLastD 0=key.2/\Le (0,0) y.2.2
 ends:∀ nm b e m,(e,m)∈(aI st.ends (nm,b)).getD []↔∃ k,aI st.best (nm,b,e)=some (m,k)
 bst:∀ f m n cut,aI st.best f=some (m,n,cut)->dD G n cut=none/\f=cZ G n cut/\Le (0,0) m/\Le m cur
 ord:∀ pre e post,st.best=pre ++ e :: post->GI G pre e.2.2.1 e.2.2.2 e.2.1/\aI pre e.1=none
theorem zdZ{a b:aL}(h:Le (0,0) b):Le a (dU a b):=by unfold Le dU at *;simp only at *;lia
theorem zd0{a b:aL}(h:Le (0,0) b):Le a (dU b a):=by unfold Le dU at *;simp only at *;lia
theorem zd1{G:Sr}{st:SS}{P:List bQ}{cur c:aL}{n:Nat}{cut:List Int}{t:List (aL×List (Nat×List Int))}(I:eZ G st P cur)(ht:iA st.q=some (c,(n,cut),t))(hr:aI st.reached (bG n cut)=some c):eZ G {st with q:=t} (P ++ [(n,cut,c)]) c/\Le cur c/\GI G st.best n cut c:=by
 have o:st.q≠[]:=fun e=>by rw[e] at ht;cases ht
 obtain⟨d,x,L,r,D,B,K,E,_⟩:=nY I.fall o
 rw[ht] at r
 simp only[Fu,Dk] at r
 obtain⟨rfl,rfl,rfl⟩:=r
 have H:=zY I.fall ht
 have g:(c,(n,cut))∈a7 st.q:=(B _).mpr (.inl rfl)
 have sub:∀ e∈a7 t,e∈a7 st.q:=fun e f=>(B e).mpr (.inr f)
 have j:=I.curq _ g
 have p:=I.nd
 rw[(H.map qk).nodup_iff,Au,Dh] at p
 have m:∀ e∈a7 t,Le c e.1:=fun e f=>by
  obtain⟨b,s,F⟩:=LM (sub e f)
  rw[<-F];exact E b s
 have A:∀ y∈P,l8 y≠bG n cut:=fun y l e=>by
  have i:=I.fresh _ g y l e
  obtain⟨h,_,_⟩:=I.pr y l
  rw[e,hr] at h
  cases h
  exact rH i
 refine⟨⟨D,fun e f=>I.item e (sub e f),fun e f=>I.ge e (sub e f),p.2,?_,fun y l=>?_,fun e f y l C=>?_,m,fun k d hd=>?_⟩,j,I.item _ g⟩
 ·rw[Bi,Dz]
  refine⟨I.once,by simp,fun a J b s e=>?_⟩
  obtain⟨y,l,rfl⟩:=Ao.mp J
  rw[List.map_singleton,Ax] at s
  exact A y l (by rw[e,s];rfl)
 ·rcases Bh.mp l with z | z
  ·obtain⟨i,h,u⟩:=I.pr y z
   exact⟨i,h.trans j,u⟩
  ·rw[Ax.mp z]
   exact⟨hr,Le.refl _,I.item _ g⟩
 ·rcases Bh.mp l with z | z
  ·exact I.fresh e (sub e f) y z C
  ·have w:=Ax.mp z
   subst w
   have i:=m e f
   have o:e.1≠c:=fun r=>p.1 (Ao.mpr ⟨e,f,by
    have v:bG n cut=bG e.2.1 e.2.2:=C
    show(e.1,bG e.2.1 e.2.2)=(c,bG n cut)
    rw[r,v]⟩)
   show cL c e.1=true
   cases hh:cL c e.1 with
   | true=>rfl
   | false=>exact absurd (Le.antisymm (zV.mpr (by rw[hh];decide)) i) o
 ·rcases I.hit k d hd with⟨e,i,h,u⟩ | ⟨y,i,h⟩
  ·rcases(B e).mp i with z | z
   ·subst z
    exact .inr ⟨(n,cut,c),Ck _ (Ax.mpr rfl),u,h⟩
   ·exact .inl ⟨e,z,h,u⟩
  ·exact .inr ⟨y,Co _ i,h⟩
theorem zd2{G:Sr}{st:SS}{P:List bQ}{cur c d:aL}{n:Nat}{cut:List Int}{u:List (aL×List (Nat×List Int))}(I:eZ G st P cur)(ht:iA st.q=some (c,(n,cut),u))(hr:aI st.reached (bG n cut)=some d)(hd:cL d c=true):eZ G {st with q:=u} P c/\Le cur c:=by
 have r:st.q≠[]:=fun e=>by rw[e] at ht;cases ht
 obtain⟨H,x,K,s,A,v,J,B,_⟩:=nY I.fall r
 rw[ht] at s
 simp only[Fu,Dk] at s
 obtain⟨rfl,rfl,rfl⟩:=s
 have E:=zY I.fall ht
 have o:(c,(n,cut))∈a7 st.q:=(v _).mpr (.inl rfl)
 have sub:∀ e∈a7 u,e∈a7 st.q:=fun e a=>(v e).mpr (.inr a)
 have f:=I.curq _ o
 have m:=I.nd
 rw[(E.map qk).nodup_iff,Au,Dh] at m
 refine⟨⟨A,fun e a=>I.item e (sub e a),fun e a=>I.ge e (sub e a),m.2,I.once,fun y t=>?_,fun e a y t F=>I.fresh e (sub e a) y t F,fun e a=>?_,fun k p l=>?_⟩,f⟩
 ·obtain⟨w,i,j⟩:=I.pr y t
  exact⟨w,i.trans f,j⟩
 ·obtain⟨b,D,C⟩:=LM (sub e a)
  rw[<-C];exact B b D
 ·rcases I.hit k p l with⟨e,w,i,j⟩ | h
  ·rcases(v e).mp w with z | z
   ·subst z
    have j:bG n cut=k:=j
    have i:c=p:=i
    have g:aI st.reached k=some p:=l
    rw[<-j,hr] at g
    cases g
    rw[<-i] at hd
    exact absurd hd rH
   ·exact .inl ⟨e,z,i,j⟩
  ·exact .inr h
theorem Ob.later{G:Sr}{st:SS}{P:List bQ}{cur c:aL}(o:Ob G st P cur)(h:Le cur c)(a:List (aL×List (Nat×List Int))):Ob G {st with q:=a} P c:=
 ⟨o.zero.trans h,o.fin,o.wrd,o.nam,o.pair,o.bgn,o.ends,fun f m n cut e=>let ⟨h1,h2,h3,h4⟩:=o.bst f m n cut e;⟨h1,h2,h3,h4.trans h⟩,o.ord⟩
theorem GI.rule{G:Sr}{B:d7}{n:Nat}{cut:List Int}{c:aL}(g:GI G B n cut c):∃ r,G.rs[n]? = some r:=by
 cases g with
 | start a _=>exact⟨_,a⟩
 | word _ a _ _ _=>exact⟨_,a⟩
 | name _ a _ _ _=>exact⟨_,a⟩
theorem part_of{G:Sr}{n:Nat}{cut:List Int}{r:aG}(h:G.rs[n]? = some r):dD G n cut=r.parts[cut.length - 1]?:=by unfold dD;rw[h]
theorem jS{α:Type}{P:List α}{x y:α}(h:y∈P ++ [x]):y∈P\/y=x:=by
 rcases Bh.mp h with z | z
 ·exact .inl z
 ·exact .inr (Ax.mp z)
theorem zd3{G:Sr}(ok:nZ G){st:SS}{P:List bQ}{c:aL}{n:Nat}{cut:List Int}{part:Str}(I:eZ G st (P ++ [(n,cut,c)]) c)(o:Ob G st P c)(g:GI G st.best n cut c)(p:dD G n cut=some part)(v:G.own part=false) :
  eZ G (fS G st n cut c part) (P ++ [(n,cut,c)]) c/\Ob G (fS G st n cut c part) (P ++ [(n,cut,c)]) c/\∀ k d,eY st k d->eY (fS G st n cut c part) k d:=by
 obtain⟨r,hr⟩:=g.rule
 rw[part_of hr] at p
 obtain⟨A,a,w⟩:=rL (fun z:Int×Int=>(n,cut ++ [z.1],(c.1 + z.2,c.2))) (G.steps part (cut.getLastD 0)) I fun z hz=>⟨.word g hr p v hz,by
  have:=ok.pr _ _ _ _ hz
  show Le c (c.1 + z.2,c.2)
  unfold Le;simp only;lia⟩
 refine⟨A,⟨o.zero,fun y j u=>?_,fun y j pt i l z hz=>?_,fun y j pt i l=>?_,fun key y j z hz=>?_,fun key y j=>?_,fun nm b e m=>?_,fun f m x t e=>?_,fun pre e s h=>?_⟩,a.le⟩
 ·rcases jS j with z | z
  ·obtain⟨m,k,i,l⟩:=o.fin y z u
   exact⟨m,k,by rw[show(fS G st n cut c part).best=st.best from a.best];exact i,l⟩
  ·subst z
   rw[part_of hr,p] at u;cases u
 ·rcases jS j with q | q
  ·exact a.le _ _ (o.wrd y q pt i l z hz)
  ·subst q
   rw[part_of hr,p] at i
   cases i
   exact w z hz
 ·rcases jS j with q | q
  ·rw[show(fS G st n cut c part).begun=st.begun from a.begun]
   exact o.nam y q pt i l
  ·subst q
   rw[part_of hr,p] at i
   cases i
   rw[v] at l;cases l
 ·rw[show(fS G st n cut c part).begun=st.begun from a.begun] at j
  rw[show(fS G st n cut c part).ends=st.ends from a.ends] at hz
  exact a.le _ _ (o.pair key y j z hz)
 ·rw[show(fS G st n cut c part).begun=st.begun from a.begun] at j
  obtain⟨i,l⟩:=o.bgn key y j
  exact⟨Co _ i,l⟩
 ·rw[show(fS G st n cut c part).ends=st.ends from a.ends,show(fS G st n cut c part).best=st.best from a.best]
  exact o.ends nm b e m
 ·rw[show(fS G st n cut c part).best=st.best from a.best] at e
  exact o.bst f m x t e
 ·rw[show(fS G st n cut c part).best=st.best from a.best] at h
  exact o.ord pre e s h
theorem zd4{G:Sr}{st:SS}{P:List bQ}{c:aL}{n:Nat}{cut:List Int}{part:Str}(I:eZ G st (P ++ [(n,cut,c)]) c)(o:Ob G st P c)(g:GI G st.best n cut c)(A:dD G n cut=some part)(x:G.own part=true) :
  eZ G (fJ st n cut c part) (P ++ [(n,cut,c)]) c/\Ob G (fJ st n cut c part) (P ++ [(n,cut,c)]) c/\∀ k d,eY st k d->eY (fJ st n cut c part) k d:=by
 obtain⟨r,hr⟩:=g.rule
 have i:=A
 rw[part_of hr] at A
 obtain⟨E,s,J⟩:=rL (G:=G) (P:=P ++ [(n,cut,c)]) (cur:=c) (st:={st with begun:=eR st.begun (part,cut.getLastD 0) (n,cut,c)}) (fun z:Int×aL=>(n,cut ++ [z.1],dU c z.2)) ((aI st.ends (part,cut.getLastD 0)).getD []) ⟨I.fall,I.item,I.ge,I.nd,I.once,I.pr,I.fresh,I.curq,I.hit⟩ fun z hz=>by
  obtain⟨k,hk⟩:=(o.ends part (cut.getLastD 0) z.1 z.2).mp hz
  exact⟨.name g hr A x hk,zdZ (o.bst _ _ _ _ hk).2.2.1⟩
 have v:(fJ st n cut c part).best=st.best:=s.best
 have D:(fJ st n cut c part).ends=st.ends:=s.ends
 have F:(fJ st n cut c part).begun=eR st.begun (part,cut.getLastD 0) (n,cut,c):=s.begun
 have a:∀ key y,y∈(aI (fJ st n cut c part).begun key).getD []↔y∈(aI st.begun key).getD []\/(part,cut.getLastD 0)=key/\y=(n,cut,c):=fun key y=>by
  rw[F,rK]
  by_cases h:(part,cut.getLastD 0)=key
  ·rw[if_pos h,Bh,Ax]
   exact⟨fun z=>z.imp id fun q=>⟨h,q⟩,fun z=>z.imp id fun q=>q.2⟩
  ·rw[if_neg h]
   exact⟨.inl,fun z=>z.elim id fun q=>absurd q.1 h⟩
 refine⟨E,⟨o.zero,fun y j C=>?_,fun y j pt l p z hz=>?_,fun y j pt l p=>?_,fun key y j z hz=>?_,fun key y j=>?_,fun nm b e m=>?_,fun f m H t e=>?_,fun pre e u h=>?_⟩,s.le⟩
 ·rcases jS j with z | z
  ·rw[v];exact o.fin y z C
  ·subst z
   rw[i] at C;cases C
 ·rcases jS j with q | q
  ·exact s.le _ _ (o.wrd y q pt l p z hz)
  ·subst q
   rw[i] at l
   cases l
   rw[x] at p;cases p
 ·rw[a]
  rcases jS j with q | q
  ·exact .inl (o.nam y q pt l p)
  ·subst q
   rw[i] at l
   cases l
   exact .inr ⟨rfl,rfl⟩
 ·rw[D] at hz
  rcases(a key y).mp j with q | ⟨B,w⟩
  ·exact s.le _ _ (o.pair key y q z hz)
  ·subst w
   rw[<-B] at hz
   exact J z hz
 ·rcases(a key y).mp j with q | ⟨B,w⟩
  ·obtain⟨l,p⟩:=o.bgn key y q
   exact⟨Co _ l,p⟩
  ·subst w
   rw[<-B]
   exact⟨Ck _ (Ax.mpr rfl),i,x,rfl,o.zero⟩
 ·rw[D,v];exact o.ends nm b e m
 ·rw[v] at e;exact o.bst f m H t e
 ·rw[v] at h;exact o.ord pre e u h
theorem zd5{G:Sr}{st:SS}{P:List bQ}{c:aL}{n:Nat}{cut:List Int}(I:eZ G st (P ++ [(n,cut,c)]) c)(o:Ob G st P c)(g:GI G st.best n cut c)(x:dD G n cut=none) :
  eZ G (settle G st n cut c) (P ++ [(n,cut,c)]) c/\Ob G (settle G st n cut c) (P ++ [(n,cut,c)]) c/\∀ k d,eY st k d->eY (settle G st n cut c) k d:=by
 unfold settle
 cases hf:aI st.best (cZ G n cut) with
 | some v=>
  obtain⟨m,k⟩:=v
  obtain⟨_,_,_,W⟩:=o.bst _ _ _ _ hf
  refine⟨I,⟨o.zero,fun y i J=>?_,fun y i pt a j z hz=>?_,fun y i pt a j=>?_,o.pair,fun key y i=>?_,o.ends,o.bst,o.ord⟩,fun _ _ h=>h⟩
  ·rcases jS i with z | z
   ·exact o.fin y z J
   ·subst z;exact⟨m,k,hf,W⟩
  ·rcases jS i with q | q
   ·exact o.wrd y q pt a j z hz
   ·subst q;rw[x] at a;cases a
  ·rcases jS i with q | q
   ·exact o.nam y q pt a j
   ·subst q;rw[x] at a;cases a
  ·obtain⟨a,j⟩:=o.bgn key y i
   exact⟨Co _ a,j⟩
 | none=>
  simp only
  have new:∀ f,aI (st.best ++ [(cZ G n cut,c,n,cut)]) f=if cZ G n cut=f then some (c,n,cut) else aI st.best f:=fun f=>by
   rw[zW]
   by_cases h:cZ G n cut=f
   ·subst h;rw[if_pos rfl,if_pos rfl,hf];rfl
   ·rw[if_neg h,if_neg h,Option.or_none]
  have mono:∀ f v,aI st.best f=some v->aI (st.best ++ [(cZ G n cut,c,n,cut)]) f=some v:=fun f v h=>by
   rw[new,if_neg (fun e=>by rw[<-e,hf] at h;cases h)];exact h
  obtain⟨r,l⟩:∃ z:SS,z = {st with best:=st.best ++ [(cZ G n cut,c,n,cut)],ends:=eR st.ends (c8 G n,cut.headD 0) (cut.getLastD 0,c)}:=⟨_,rfl⟩
  have H:r.best=st.best ++ [(cZ G n cut,c,n,cut)]:=by rw[l]
  have R:r.ends=eR st.ends (c8 G n,cut.headD 0) (cut.getLastD 0,c):=by rw[l]
  have V:r.begun=st.begun:=by rw[l]
  have Z:r.reached=st.reached:=by rw[l]
  have q0:r.q=st.q:=by rw[l]
  have Q:eZ G r (P ++ [(n,cut,c)]) c:=by
   rw[l]
   exact⟨I.fall,fun e T=>(I.item e T).mono mono,I.ge,I.nd,I.once,fun y i=>let ⟨a,j,F⟩:=I.pr y i;⟨a,j,F.mono mono⟩,I.fresh,I.curq,I.hit⟩
  rw[<-l]
  obtain⟨K,A,M⟩:=rL (fun y:bQ=>(y.1,y.2.1 ++ [cut.getLastD 0],dU y.2.2 c)) ((aI st.begun (c8 G n,cut.headD 0)).getD []) Q fun y i=>by
   obtain⟨a,j,F,X,U⟩:=o.bgn _ y i
   obtain⟨_,_,L⟩:=I.pr y (Co _ a)
   obtain⟨ry,w⟩:=L.rule
   rw[part_of w] at j
   refine⟨.name (k:=(n,cut)) (by rw[H];exact L.mono mono) w j F ?_,zd0 U⟩
   rw[H,new,if_pos (by show(c8 G n,cut.headD 0,cut.getLastD 0)=(c8 G n,y.2.1.getLastD 0,cut.getLastD 0);rw[X])]
  obtain⟨s,u⟩:∃ z,z=((aI st.begun (c8 G n,cut.headD 0)).getD []).foldl (fun st y=>reach st y.1 (y.2.1 ++ [cut.getLastD 0]) (dU y.2.2 c)) r:=⟨_,rfl⟩
  rw[<-u] at K A M ⊢
  have B:s.best=st.best ++ [(cZ G n cut,c,n,cut)]:=A.best.trans H
  have E:s.ends=eR st.ends (c8 G n,cut.headD 0) (cut.getLastD 0,c):=A.ends.trans R
  have N:s.begun=st.begun:=A.begun.trans V
  have le:∀ k d,eY st k d->eY s k d:=fun k d h=>A.le k d (by
   obtain⟨z,a,j⟩:=h
   exact⟨z,by rw[Z];exact a,j⟩)
  have t:∀ key z,z∈(aI s.ends key).getD []↔z∈(aI st.ends key).getD []\/(c8 G n,cut.headD 0)=key/\z=(cut.getLastD 0,c):=fun key z=>by
   rw[E,rK]
   by_cases h:(c8 G n,cut.headD 0)=key
   ·rw[if_pos h,Bh,Ax]
    exact⟨fun z=>z.imp id fun q=>⟨h,q⟩,fun z=>z.imp id fun q=>q.2⟩
   ·rw[if_neg h]
    exact⟨.inl,fun z=>z.elim id fun q=>absurd q.1 h⟩
  refine⟨K,⟨o.zero,fun y i J=>?_,fun y i pt a j z hz=>?_,fun y i pt a j=>?_,fun key y i z hz=>?_,fun key y i=>?_,fun nm b e m=>?_,fun f m S C e=>?_,fun pre e D h=>?_⟩,le⟩
  ·rw[B]
   rcases jS i with z | z
   ·obtain⟨m,k,a,j⟩:=o.fin y z J
    exact⟨m,k,mono _ _ a,j⟩
   ·subst z
    exact⟨c,(n,cut),by rw[new,if_pos rfl],Le.refl _⟩
  ·rcases jS i with q | q
   ·exact le _ _ (o.wrd y q pt a j z hz)
   ·subst q;rw[x] at a;cases a
  ·rw[N]
   rcases jS i with q | q
   ·exact o.nam y q pt a j
   ·subst q;rw[x] at a;cases a
  ·rw[N] at i
   rcases(t key z).mp hz with q | ⟨Y,O⟩
   ·exact le _ _ (o.pair key y i z q)
   ·subst O
    rw[<-Y] at i
    exact M y i
  ·rw[N] at i
   obtain⟨a,j⟩:=o.bgn key y i
   exact⟨Co _ a,j⟩
  ·rw[t,B,new,o.ends]
   by_cases h:cZ G n cut=(nm,b,e)
   ·rw[if_pos h]
    unfold cZ at h
    simp only[Dk] at h
    obtain⟨rfl,rfl,rfl⟩:=h
    constructor
    ·rintro(⟨k,hk⟩ | ⟨_,hk⟩)
     ·rw[show(c8 G n,cut.headD 0,cut.getLastD 0)=cZ G n cut from rfl,hf] at hk;cases hk
     ·cases hk;exact⟨(n,cut),rfl⟩
    ·rintro⟨k,hk⟩
     cases hk
     exact .inr ⟨rfl,rfl⟩
   ·rw[if_neg h]
    constructor
    ·rintro(hk | ⟨a,j⟩)
     ·exact hk
     ·cases a;cases j;exact absurd rfl h
    ·exact .inl
  ·rw[B,new] at e
   by_cases h:cZ G n cut=f
   ·rw[if_pos h] at e
    cases e
    exact⟨x,h.symm,o.zero,Le.refl _⟩
   ·rw[if_neg h] at e
    exact o.bst f m S C e
  ·rw[B] at h
   rcases Fe D with z | ⟨ps,p,z⟩
   ·subst z
    have h':=List.append_inj' h rfl
    have j:=h'.2
    simp only[Dv,and_true] at j
    rw[<-h'.1,<-j]
    exact⟨g,hf⟩
   ·rw[Ff] at z
    subst z
    rw[show pre ++ e :: (ps ++ [p])=(pre ++ e :: ps) ++ [p] by simp] at h
    have h':=List.append_inj' h rfl
    exact o.ord pre e ps h'.1
theorem zd6{G:Sr}(ok:nZ G){st:SS}{P:List bQ}{c:aL}{n:Nat}{cut:List Int}(I:eZ G st (P ++ [(n,cut,c)]) c)(o:Ob G st P c)(g:GI G st.best n cut c) :
  eZ G (process G st n cut c) (P ++ [(n,cut,c)]) c/\Ob G (process G st n cut c) (P ++ [(n,cut,c)]) c/\∀ k d,eY st k d->eY (process G st n cut c) k d:=by
 unfold process
 cases a:dD G n cut with
 | none=>exact zd5 I o g a
 | some part=>
  simp only
  cases b:G.own part with
  | true=>rw[if_pos rfl];exact zd4 I o g a b
  | false=>rw[if_neg (by decide)];exact zd3 ok I o g a b
inductive DI(G:Sr):Nat->List Int->aL->Prop
 | start {n:Nat} {r:aG} {p:Int}:G.rs[n]? = some r->p∈G.places->DI G n [p] (G.wt n,1)
 | word {n:Nat} {r:aG} {cut:List Int} {c:aL} {part:Str} {e pr:Int}:DI G n cut c->G.rs[n]? = some r->r.parts[cut.length - 1]? = some part->G.own part=false->(e,pr)∈G.steps part (cut.getLastD 0)->DI G n (cut ++ [e]) (c.1 + pr,c.2)
 | name {n n':Nat} {r:aG} {cut cut':List Int} {c m:aL} {part:Str}:DI G n cut c->G.rs[n]? = some r->r.parts[cut.length - 1]? = some part->G.own part=true->DI G n' cut' m->dD G n' cut'=none->c8 G n'=part->cut'.headD 0=cut.getLastD 0->DI G n (cut ++ [cut'.getLastD 0]) (dU c m)
theorem DI.ne{G:Sr}{n:Nat}{cut:List Int}{c:aL}(h:DI G n cut c):cut≠[]:=by cases h <;> simp
theorem LO{n:Nat}{a b:List Int}{e:Int}(h:bG n a=bG n b)(f:a≠[])(d:b≠[]):bG n (a ++ [e])=bG n (b ++ [e]):=by
 unfold bG at *
 simp only[Dk,true_and] at h
 obtain⟨g,c,i⟩:=h
 have hl:∀ l:List Int,(l ++ [e]).getLastD 0=e:=fun l=>by simp[Kn]
 rw[hl,hl,Am,Am,g]
 cases a with
 | nil=>exact absurd rfl f
 | cons x a=>
  cases b with
  | nil=>exact absurd rfl d
  | cons y b=>
   simp only[List.headD_cons] at c
   subst c
   rfl
theorem uE{G:Sr}{n c:Nat}{a b:List Int}(h:bG n a=bG c b):n=c/\dD G n a=dD G c b/\cZ G n a=cZ G c b/\a.getLastD 0=b.getLastD 0:=by
 unfold bG at h
 simp only[Dk] at h
 obtain⟨rfl,f,e,d⟩:=h
 refine⟨rfl,?_,?_,d⟩
 ·unfold dD;rw[f]
 ·unfold cZ;rw[e,d]
def zZ(G:Sr)(st:SS):Prop:=∀ n r p,G.rs[n]? = some r->p∈G.places->eY st (bG n [p]) (G.wt n,1)
theorem zd7{G:Sr}{st:SS}{P:List bQ}{cur:aL}(I:eZ G st P cur)(o:Ob G st P cur)(hi:zZ G st)(Z:st.q=[]){n:Nat}{cut:List Int}{c:aL}(h:DI G n cut c):eY st (bG n cut) c:=by
 have done:∀ {n:Nat} {cut:List Int} {c:aL},eY st (bG n cut) c->∃ y∈P,l8 y=bG n cut/\Le y.2.2 c:=fun {n cut c} h=>by
  obtain⟨d,v,z⟩:=h
  rcases I.hit _ _ v with⟨e,R,_⟩ | ⟨y,k,V,e2⟩
  ·rw[Z] at R;cases R
  ·exact⟨y,k,V,by rw[e2];exact z⟩
 induction h with
 | start a b=>exact hi _ _ _ a b
 | @word n r cut c part e pr hd hr H D Y N=>
  obtain⟨y,k,w,j⟩:=done N
  obtain⟨A,s,_,f⟩:=uE (G:=G) w
  have p:=(I.pr y k).2.2.ne
  have:=o.wrd y k part (by rw[s,part_of hr];exact H) D (e,pr) (by rw[f];exact Y)
  obtain⟨d,v,z⟩:=this
  refine⟨d,?_,z.trans ?_⟩
  ·have l:bG n y.2.1=bG n cut:=by rw[<-w];unfold l8;rw[A]
   rw[<-LO l p hd.ne,<-A];exact v
  ·unfold Le at j ⊢;simp only at *;lia
 | @name n W r cut g c m part hd hr H D X t F L N C=>
  obtain⟨y,k,w,j⟩:=done N
  obtain⟨A,s,_,f⟩:=uE (G:=G) w
  obtain⟨T,K,l,B⟩:=done C
  obtain⟨U,x,i,_⟩:=uE (G:=G) l
  obtain⟨Q,S,O,J⟩:=o.fin T K (by rw[x];exact t)
  rw[i] at O
  have E:aI st.best (part,cut.getLastD 0,g.getLastD 0)=some (Q,S):=by
   have:cZ G W g=(part,cut.getLastD 0,g.getLastD 0):=by unfold cZ;rw[F,L]
   rw[<-this];exact O
  have hz:=(o.ends part (cut.getLastD 0) (g.getLastD 0) Q).mpr ⟨S,E⟩
  have u:=o.nam y k part (by rw[s,part_of hr];exact H) D
  rw[f] at u
  have p:=(I.pr y k).2.2.ne
  obtain⟨d,v,z⟩:=o.pair _ y u _ hz
  refine⟨d,?_,z.trans (zdW j (J.trans B))⟩
  have M:bG n y.2.1=bG n cut:=by rw[<-w];unfold l8;rw[A]
  rw[<-LO M p hd.ne,<-A];exact v
theorem zd8{G:Sr}{st:SS}{P:List bQ}{cur:aL}(I:eZ G st P cur)(o:Ob G st P cur)(hi:zZ G st)(g:st.q=[]){n:Nat}{cut:List Int}{c:aL}(h:DI G n cut c)(hf:dD G n cut=none):∃ m k,aI st.best (cZ G n cut)=some (m,k)/\Le m c:=by
 obtain⟨d,r,j⟩:=zd7 I o hi g h
 rcases I.hit _ _ r with⟨e,i,_⟩ | ⟨y,s,t,l⟩
 ·rw[g] at i;cases i
 ·obtain⟨_,b,a,_⟩:=uE (G:=G) t
  obtain⟨m,k,f,p⟩:=o.fin y s (by rw[b];exact hf)
  rw[a] at f
  exact⟨m,k,f,p.trans (by rw[l];exact j)⟩
theorem z5{G:Sr}{B:d7}(h:∀ f m n cut,aI B f=some (m,n,cut)->DI G n cut m/\dD G n cut=none/\f=cZ G n cut){n:Nat}{cut:List Int}{c:aL}(g:GI G B n cut c):DI G n cut c:=by
 induction g with
 | start a b=>exact .start a b
 | word _ a b c d e=>exact .word e a b c d
 | name t hr l r q e=>
  rename_i k
  obtain⟨w,j⟩:=k
  obtain⟨s,p,i⟩:=h _ _ _ _ q
  unfold cZ at i
  simp only[Dk] at i
  obtain⟨o,v,u⟩:=i
  rw[u]
  exact .name e hr l r s p o.symm v.symm
theorem n5{κ c:Type}[DecidableEq κ]{t:List (κ×c)}{k:κ}{v:c}(h:aI t k=some v):∃ a b,t=a ++ (k,v) :: b:=by
 induction t with
 | nil=>cases h
 | cons e t d=>
  rw[dJ] at h
  by_cases hk:e.1=k
  ·rw[if_pos hk] at h
   cases h
   exact⟨[],t,by rw[<-hk];rfl⟩
  ·rw[if_neg hk] at h
   obtain⟨a,b,rfl⟩:=d h
   exact⟨e :: a,b,rfl⟩
theorem zd9{G:Sr}{st:SS}{P:List bQ}{cur:aL}(o:Ob G st P cur):∀ (k:Nat) (pre:d7) (e:iO×aL×Nat×List Int) (c:d7),pre.length=k->st.best=pre ++ e :: c->DI G e.2.2.1 e.2.2.2 e.2.1:=by
 intro k
 induction k using Nat.strongRecOn with
 | _ k w=>
  intro pre e c hk t
  obtain⟨g,_⟩:=o.ord pre e c t
  refine z5 (B:=pre) (fun f m n cut hf=>?_) g
  obtain⟨a,b,j⟩:=n5 hf
  have i:st.best=a ++ (f,m,n,cut) :: (b ++ e :: c):=by rw[t,j];simp
  have l:a.length < k:=by rw[<-hk,j];simp
  have hd:=w a.length l a _ _ rfl i
  have d:=(o.ord a _ _ i).2
  have q:aI st.best f=some (m,n,cut):=by
   rw[i]
   have:∀ {a:d7} {x:iO×aL×Nat×List Int} {r:d7},aI a x.1=none->aI (a ++ x :: r) x.1=some x.2:=by
    intro a
    induction a with
    | nil=>intro x r _;rw[Ie,dJ,if_pos rfl]
    | cons y a p=>
     intro x r h
     rw[dJ] at h
     rw[List.cons_append,dJ]
     by_cases s:y.1=x.1
     ·rw[if_pos s] at h;cases h
     ·rw[if_neg s] at h ⊢
      exact p h
   exact this (x:=(f,m,n,cut)) d
  obtain⟨v,u,_⟩:=o.bst f m n cut q
  exact⟨hd,v,u⟩
theorem uF{G:Sr}{st:SS}{P:List bQ}{cur:aL}(o:Ob G st P cur){f:iO}{m:aL}{n:Nat}{cut:List Int}(h:aI st.best f=some (m,n,cut)):DI G n cut m/\dD G n cut=none/\f=cZ G n cut:=by
 obtain⟨a,b,c⟩:=n5 h
 obtain⟨d,e,_⟩:=o.bst f m n cut h
 exact⟨zd9 o a.length a _ b rfl c,d,e⟩
theorem LP(st:SS)(n:Nat)(cut:List Int)(c:aL):∃ j,j<=1/\(a7 (reach st n cut c).q).length=(a7 st.q).length + j/\(reach st n cut c).reached.length<=st.reached.length + j:=by
 have a:∃ j,j<=1/\(a7 (dP c (n,cut) st.q)).length=(a7 st.q).length + j/\(cY st.reached (bG n cut) c).length<=st.reached.length + j:=⟨1,Aj _,uD _ _ _,uC _ _ _⟩
 unfold reach
 cases aI st.reached (bG n cut) with
 | none=>exact a
 | some d=>
  simp only
  split
  ·exact a
  ·exact⟨0,by lia,rfl,by lia⟩
theorem rM{a:Type}(f:a->Nat×List Int×aL):∀ (xs:List a) (st:SS),∃ j,j<=xs.length/\(a7 (xs.foldl (fun st x=>reach st (f x).1 (f x).2.1 (f x).2.2) st).q).length=(a7 st.q).length + j/\(xs.foldl (fun st x=>reach st (f x).1 (f x).2.1 (f x).2.2) st).reached.length<=st.reached.length + j
 | [],st=>⟨0,Aj _,rfl,Aj _⟩
 | x :: xs,st=>by
  obtain⟨e,g,d,k⟩:=LP st (f x).1 (f x).2.1 (f x).2.2
  obtain⟨b,h,c,i⟩:=rM f xs (reach st (f x).1 (f x).2.1 (f x).2.2)
  refine⟨e + b,by rw[Bk];lia,?_,?_⟩
  ·rw[Dj,c,d];lia
  ·rw[Dj];lia
def gM(G:Sr)(S:Nat)(st:SS)(y:bQ):Nat:=match dD G y.1 y.2.1 with
 | none=>0
 | some part=>if G.own part=true then((aI st.ends (part,y.2.1.getLastD 0)).getD []).length else S
structure Cn(G:Sr)(S I0:Nat)(st:SS)(P:List bQ)(T:Nat):Prop where
 put:(a7 st.q).length + T<=I0 + (P.map (gM G S st)).sum
 rch:st.reached.length<=(a7 st.q).length + T
 bnd:∀ key,((aI st.begun key).getD []).Nodup
 enn:∀ key,(((aI st.ends key).getD []).map Ci).Nodup
theorem uG(f:bQ->Nat)(P:List bQ)(x:bQ):((P ++ [x]).map f).sum=(P.map f).sum + f x:=by simp
theorem z6{G:Sr}{S:Nat}{st st':SS}(h:st'.ends=st.ends):gM G S st'=gM G S st:=by
 funext y;unfold gM;rw[h]
theorem zea{G:Sr}{S I0 T:Nat}{st:SS}{P:List bQ}{c:aL}{n:Nat}{cut:List Int}{part:Str}(C:Cn G S I0 st P T)(r:∀ t p,(G.steps t p).length<=S)(h:dD G n cut=some part)(m:G.own part=false):Cn G S I0 (fS G st n cut c part) (P ++ [(n,cut,c)]) T:=by
 obtain⟨j,y,l,v⟩:=rM (fun z:Int×Int=>(n,cut ++ [z.1],(c.1 + z.2,c.2))) (G.steps part (cut.getLastD 0)) st
 have keep:∀ (xs:List (Int×Int)) (st:SS),(xs.foldl (fun st z=>reach st n (cut ++ [z.1]) (c.1 + z.2,c.2)) st).ends=st.ends/\(xs.foldl (fun st z=>reach st n (cut ++ [z.1]) (c.1 + z.2,c.2)) st).begun=st.begun:=by
  intro xs
  induction xs with
  | nil=>intro st;exact⟨rfl,rfl⟩
  | cons x xs s=>
   intro st
   rw[Dj]
   obtain⟨k,u⟩:=s (reach st n (cut ++ [x.1]) (c.1 + x.2,c.2))
   have hr:(reach st n (cut ++ [x.1]) (c.1 + x.2,c.2)).ends=st.ends/\(reach st n (cut ++ [x.1]) (c.1 + x.2,c.2)).begun=st.begun:=by
    unfold reach
    split
    ·split <;> exact⟨rfl,rfl⟩
    ·exact⟨rfl,rfl⟩
   exact⟨k.trans hr.1,u.trans hr.2⟩
 obtain⟨o,i⟩:=keep (G.steps part (cut.getLastD 0)) st
 have a:(fS G st n cut c part).ends=st.ends:=o
 have d:(fS G st n cut c part).begun=st.begun:=i
 have b:(a7 (fS G st n cut c part).q).length=(a7 st.q).length + j:=l
 have g:(fS G st n cut c part).reached.length<=st.reached.length + j:=v
 have w:=r part (cut.getLastD 0)
 have e:=C.put
 have f:=C.rch
 refine⟨?_,by lia,fun key=>by rw[d];exact C.bnd key,fun key=>by rw[a];exact C.enn key⟩
 rw[z6 a,uG,b]
 have:gM G S st (n,cut,c)=S:=by
  unfold gM
  rw[h]
  simp only
  rw[if_neg (by rw[m];decide)]
 lia
theorem zeb(st:SS)(n:Nat)(cut:List Int)(c:aL):(reach st n cut c).ends=st.ends/\(reach st n cut c).begun=st.begun/\(reach st n cut c).best=st.best:=by
 unfold reach
 split
 ·split <;> exact⟨rfl,rfl,rfl⟩
 ·exact⟨rfl,rfl,rfl⟩
theorem z7{a:Type}(f:a->Nat×List Int×aL):∀ (xs:List a) (st:SS),(xs.foldl (fun st x=>reach st (f x).1 (f x).2.1 (f x).2.2) st).ends=st.ends/\(xs.foldl (fun st x=>reach st (f x).1 (f x).2.1 (f x).2.2) st).begun=st.begun/\(xs.foldl (fun st x=>reach st (f x).1 (f x).2.1 (f x).2.2) st).best=st.best
 | [],st=>⟨rfl,rfl,rfl⟩
 | x :: xs,st=>by
  rw[Dj]
  obtain⟨d,c,h⟩:=z7 f xs (reach st (f x).1 (f x).2.1 (f x).2.2)
  obtain⟨e,b,g⟩:=zeb st (f x).1 (f x).2.1 (f x).2.2
  exact⟨d.trans e,c.trans b,h.trans g⟩
theorem zec{G:Sr}{S I0 T:Nat}{st:SS}{P:List bQ}{cur c:aL}{n:Nat}{cut:List Int}{part:Str}(C:Cn G S I0 st P T)(o:Ob G st P cur)(g:(n,cut,c)∉P)(A:dD G n cut=some part)(x:G.own part=true):Cn G S I0 (fJ st n cut c part) (P ++ [(n,cut,c)]) T:=by
 obtain⟨f,d⟩:∃ z:SS,z = {st with begun:=eR st.begun (part,cut.getLastD 0) (n,cut,c)}:=⟨_,rfl⟩
 obtain⟨j,B,s,v⟩:=rM (fun z:Int×aL=>(n,cut ++ [z.1],dU c z.2)) ((aI st.ends (part,cut.getLastD 0)).getD []) f
 obtain⟨t,u,_⟩:=z7 (fun z:Int×aL=>(n,cut ++ [z.1],dU c z.2)) ((aI st.ends (part,cut.getLastD 0)).getD []) f
 have i:(fJ st n cut c part).ends=st.ends:=by
  have:(fJ st n cut c part).ends=f.ends:=by rw[d] at t ⊢;exact t
  rw[this,d]
 have l:(fJ st n cut c part).begun=eR st.begun (part,cut.getLastD 0) (n,cut,c):=by
  have:(fJ st n cut c part).begun=f.begun:=by rw[d] at u ⊢;exact u
  rw[this,d]
 have k:(a7 (fJ st n cut c part).q).length=(a7 st.q).length + j:=by rw[d] at s;exact s
 have y:(fJ st n cut c part).reached.length<=st.reached.length + j:=by rw[d] at v;exact v
 have r:=C.put
 have m:=C.rch
 refine⟨?_,by lia,fun key=>?_,fun key=>by rw[i];exact C.enn key⟩
 ·rw[z6 i,uG,k]
  have:gM G S st (n,cut,c)=((aI st.ends (part,cut.getLastD 0)).getD []).length:=by
   unfold gM
   rw[A]
   simp only
   rw[if_pos x]
  lia
 ·rw[l,rK]
  split
  ·rename_i h
   rw[Dz]
   refine⟨C.bnd key,by simp,fun a p b w e=>?_⟩
   rw[Ax] at w
   rw[e,w] at p
   exact g (o.bgn key _ p).1
  ·exact C.bnd key
theorem len_sub{h:Type}[DecidableEq h]:∀ {a b:List h},a.Nodup->(∀ x∈a,x∈b)->a.length<=b.length
 | [],b,_,_=>De _
 | x :: a,b,d,f=>by
  rw[Dh] at d
  have i:=f x Ba
  have j:=len_sub (a:=a) (b:=b.erase x) d.2 fun y g=>by
   have c:y≠x:=fun e=>d.1 (by rw[<-e];exact g)
   exact(List.mem_erase_of_ne c).mpr (f y (An _ g))
  rw[List.length_erase_of_mem i] at j
  have:=List.length_pos_of_mem i
  rw[Bk];lia
theorem LQ{f g:bQ->Nat}{p:bQ->Bool}:∀ {P:List bQ},(∀ y∈P,g y=f y + if p y=true then 1 else 0)->(P.map g).sum=(P.map f).sum + (P.filter p).length
 | [],_=>rfl
 | y :: P,h=>by
  have a:=LQ (P:=P) fun z hz=>h z (An _ hz)
  rw[Au,Au,Jn,Jn,a,h y Ba,Fg]
  split <;> simp <;> lia
theorem zed{G:Sr}{S I0 T:Nat}{st:SS}{P:List bQ}{cur c:aL}{n:Nat}{cut:List Int}(C:Cn G S I0 st P T)(o:Ob G st P cur)(M:dD G n cut=none):Cn G S I0 (settle G st n cut c) (P ++ [(n,cut,c)]) T:=by
 have i:∀ st',gM G S st' (n,cut,c)=0:=fun st'=>by unfold gM;rw[M]
 have D:=C.put
 have x:=C.rch
 unfold settle
 cases hf:aI st.best (cZ G n cut) with
 | some v=>
  simp only
  refine⟨?_,C.rch,C.bnd,C.enn⟩
  rw[uG,i];lia
 | none=>
  simp only
  obtain⟨g,d⟩:∃ z:SS,z = {st with best:=st.best ++ [(cZ G n cut,c,n,cut)],ends:=eR st.ends (c8 G n,cut.headD 0) (cut.getLastD 0,c)}:=⟨_,rfl⟩
  rw[<-d]
  obtain⟨j,t,s,w⟩:=rM (fun y:bQ=>(y.1,y.2.1 ++ [cut.getLastD 0],dU y.2.2 c)) ((aI st.begun (c8 G n,cut.headD 0)).getD []) g
  obtain⟨F,H,_⟩:=z7 (fun y:bQ=>(y.1,y.2.1 ++ [cut.getLastD 0],dU y.2.2 c)) ((aI st.begun (c8 G n,cut.headD 0)).getD []) g
  obtain⟨m,p⟩:∃ z,z=((aI st.begun (c8 G n,cut.headD 0)).getD []).foldl (fun st y=>reach st y.1 (y.2.1 ++ [cut.getLastD 0]) (dU y.2.2 c)) g:=⟨_,rfl⟩
  rw[<-p] at s w F H ⊢
  have E:m.ends=eR st.ends (c8 G n,cut.headD 0) (cut.getLastD 0,c):=by rw[F,d]
  have N:m.begun=st.begun:=by rw[H,d]
  have U:(a7 g.q).length=(a7 st.q).length:=by rw[d]
  have V:g.reached.length=st.reached.length:=by rw[d]
  obtain⟨u,f⟩:∃ u:bQ->Bool,u=fun y=>decide (dD G y.1 y.2.1=some (c8 G n)/\G.own (c8 G n)=true/\y.2.1.getLastD 0=cut.headD 0):=⟨_,rfl⟩
  have r:(P.map (gM G S m)).sum=(P.map (gM G S st)).sum + (P.filter u).length:=LQ fun y B=>by
   unfold gM
   cases l:dD G y.1 y.2.1 with
   | none=>rw[f];simp[l]
   | some part=>
    simp only
    cases A:G.own part with
    | false=>
     rw[f]
     simp only[l,Fu]
     rw[if_neg (by decide),if_neg (by decide),if_neg (by rw[decide_eq_true_eq];rintro⟨t,s,_⟩;rw[<-t,A] at s;cases s)]
     rfl
    | true=>
     rw[if_pos rfl,if_pos rfl,E,rK]
     by_cases h:(c8 G n,cut.headD 0)=(part,y.2.1.getLastD 0)
     ·rw[if_pos h]
      simp only[Dk] at h
      rw[f]
      simp only[l,Fu]
      rw[if_pos (by rw[decide_eq_true_eq];exact⟨h.1.symm,by rw[h.1];exact A,h.2.symm⟩)]
      simp
     ·rw[if_neg h]
      rw[f]
      simp only[l,Fu]
      rw[if_neg (by rw[decide_eq_true_eq];rintro⟨t,_,w⟩;exact h (by rw[t,w]))]
      lia
  have Q:((aI st.begun (c8 G n,cut.headD 0)).getD []).length<=(P.filter u).length:=len_sub (C.bnd _) fun y B=>by
   obtain⟨K,O,L,R,_⟩:=o.bgn _ y B
   rw[Ge,f]
   exact⟨K,decide_eq_true ⟨O,L,R⟩⟩
  refine⟨?_,by lia,fun key=>by rw[N];exact C.bnd key,fun key=>?_⟩
  ·rw[uG,i,r];lia
  ·rw[E,rK]
   split
   ·rename_i h
    rw[Bi,Dz]
    refine⟨C.enn key,by simp,fun a J b I e=>?_⟩
    obtain⟨z,hz,rfl⟩:=Ao.mp J
    rw[List.map_singleton,Ax] at I
    rw[<-h] at hz
    obtain⟨k,hk⟩:=(o.ends _ _ z.1 z.2).mp hz
    rw[e,I] at hk
    have:aI st.best (cZ G n cut)=some (z.2,k):=hk
    rw[hf] at this;cases this
   ·exact C.enn key
def l9(G:Sr)(st:SS):SS:=match iA st.q with
 | none=>st
 | some (c,(n,cut),a)=>match aI st.reached (bG n cut) with
  | some d=>if cL d c=true then {st with q:=a} else process G {st with q:=a} n cut c
  | none=>{st with q:=a}
structure All(G:Sr)(S I0:Nat)(st:SS)(P:List bQ)(cur:aL)(T:Nat):Prop where
 inv:eZ G st P cur
 ob:Ob G st P cur
 ini:zZ G st
 cn:Cn G S I0 st P T
theorem Cn.q{G:Sr}{S I0 T:Nat}{st:SS}{P:List bQ}{a:List (aL×List (Nat×List Int))}(C:Cn G S I0 st P T)(h:(a7 st.q).length=(a7 a).length + 1):Cn G S I0 {st with q:=a} P (T + 1):=by
 have c:=C.put
 have b:=C.rch
 refine⟨?_,?_,C.bnd,C.enn⟩
 ·show(a7 a).length + (T + 1)<=_
  rw[z6 (st':={st with q:=a}) (st:=st) rfl]
  lia
 ·show st.reached.length<=(a7 a).length + (T + 1)
  lia
theorem zee{G:Sr}{S I0 T:Nat}{st:SS}{P:List bQ}{cur c:aL}{n:Nat}{cut:List Int}(C:Cn G S I0 st P T)(o:Ob G st P cur)(e:∀ t p,(G.steps t p).length<=S)(a:(n,cut,c)∉P):Cn G S I0 (process G st n cut c) (P ++ [(n,cut,c)]) T:=by
 unfold process
 cases b:dD G n cut with
 | none=>exact zed C o b
 | some part=>
  simp only
  cases d:G.own part with
  | true=>rw[if_pos rfl];exact zec C o a b d
  | false=>rw[if_neg (by decide)];exact zea C e b d
theorem LR{G:Sr}(ok:nZ G){S I0 T:Nat}{st:SS}{P:List bQ}{cur:aL}(A:All G S I0 st P cur T)(s:∀ t p,(G.steps t p).length<=S)(B:st.q≠[]):∃ D a,All G S I0 (l9 G st) D a (T + 1):=by
 obtain⟨c,x,m,i,E,z,l,F,_⟩:=nY A.inv.fall B
 obtain⟨n,cut⟩:=x
 have h:(c,(n,cut))∈a7 st.q:=(z _).mpr (.inl rfl)
 obtain⟨d,hd,f⟩:=A.inv.ge _ h
 unfold l9
 rw[i]
 simp only
 rw[hd]
 simp only
 by_cases hl:cL d c=true
 ·rw[if_pos hl]
  obtain⟨b,hc⟩:=zd2 A.inv i hd hl
  exact⟨P,c,b,A.ob.later hc m,A.ini,A.cn.q l⟩
 ·rw[if_neg hl]
  have j:d=c:=Le.antisymm f (zV.mpr hl)
  subst j
  obtain⟨b,hc,g⟩:=zd1 A.inv i hd
  have k:=A.ob.later hc m
  obtain⟨u,C,e⟩:=zd6 ok b k g
  refine⟨_,_,u,C,fun n r p y w=>e _ _ (A.ini n r p y w),zee (A.cn.q l) k s fun v=>?_⟩
  have o:=b.once
  rw[Bi,Dz] at o
  exact o.2.2 _ (Ao.mpr ⟨_,v,rfl⟩) _ (by simp) rfl
def gN:SS:=⟨[],[],[],[],[]⟩
def iB(G:Sr):List (Nat×Int):=(Cv G.rs.length).flatMap fun n=>G.places.map fun p=>(n,p)
def k9(G:Sr):SS:=(iB G).foldl (fun st x=>reach st x.1 [x.2] (G.wt x.1,1)) gN
theorem LS{G:Sr}(ok:nZ G)(S:Nat):All G S (iB G).length (k9 G) [] (0,0) 0:=by
 have I0:eZ G gN [] (0,0):=⟨trivial,(fun e c=>nomatch c),(fun e c=>nomatch c),Fw,Fw,(fun y a=>nomatch a),(fun e c=>nomatch c),(fun e c=>nomatch c),(fun k d hd=>nomatch hd)⟩
 have g:∀ x∈iB G,(∃ r,G.rs[x.1]? = some r)/\x.2∈G.places:=fun x l=>by
  obtain⟨n,D,l⟩:=Ds.mp l
  obtain⟨p,i,rfl⟩:=Ao.mp l
  exact⟨⟨_,Bp (Ke.mp D)⟩,i⟩
 obtain⟨B,s,C⟩:=rL (fun x:Nat×Int=>(x.1,[x.2],(G.wt x.1,(1:Int)))) (iB G) I0 fun x l=>by
  obtain⟨⟨r,hr⟩,i⟩:=g x l
  refine⟨.start hr i,?_⟩
  have:=ok.wt x.1
  show Le (0,0) (G.wt x.1,1)
  unfold Le;simp only;lia
 obtain⟨j,E,o,A⟩:=rM (fun x:Nat×Int=>(x.1,[x.2],(G.wt x.1,(1:Int)))) (iB G) gN
 have u:(k9 G).best=[]:=s.best
 have v:(k9 G).ends=[]:=s.ends
 have t:(k9 G).begun=[]:=s.begun
 refine⟨B,⟨Le.refl _,(fun y a=>nomatch a),(fun y a=>nomatch a),(fun y a=>nomatch a),fun key y a=>?_,fun key y a=>?_,fun nm b e m=>?_,fun f m n cut e=>?_,fun pre e w h=>?_⟩,fun n r p hr i=>?_,⟨?_,?_,fun key=>?_,fun key=>?_⟩⟩
 ·rw[t] at a;cases a
 ·rw[t] at a;cases a
 ·rw[v,u]
  exact⟨(fun z=>nomatch z),(fun⟨k,hk⟩=>nomatch hk)⟩
 ·rw[u] at e;cases e
 ·rw[u] at h
  cases pre <;> cases h
 ·exact C (n,p) (Ds.mpr ⟨n,Ke.mpr (Ak.mp hr).1,Ao.mpr ⟨p,i,rfl⟩⟩)
 ·have o:(a7 (k9 G).q).length=(a7 gN.q).length + j:=o
  have:(a7 gN.q).length=0:=rfl
  simp only[Jd,List.sum_nil]
  lia
 ·have o:(a7 (k9 G).q).length=(a7 gN.q).length + j:=o
  have A:(k9 G).reached.length<=gN.reached.length + j:=A
  have F:(a7 gN.q).length=0:=rfl
  have H:gN.reached.length=0:=rfl
  lia
 ·rw[t];exact Fw
 ·rw[v];exact Fw
structure n6(G:Sr)(V:List Int)(N L:Nat):Prop where
 pl:∀ p∈G.places,p∈V
 st:∀ t p e c,p∈V->(e,c)∈G.steps t p->e∈V
 few:G.rs.length<=N
 len:∀ r∈G.rs,r.parts.length + 1<=L
theorem rN{l:List Int}(h:l≠[]):l.getLastD 0∈l:=by
 rcases Fe l with z | ⟨a,b,z⟩
 ·exact absurd z h
 ·rw[z,Ff];simp[Kn]
theorem zef{l:List Int}(h:l≠[]):l.headD 0∈l:=by
 cases l with
 | nil=>exact absurd rfl h
 | cons a b=>simp
theorem rO{G:Sr}{V:List Int}{N L:Nat}(v:n6 G V N L){n:Nat}{cut:List Int}{c:aL}(h:DI G n cut c):(∀ x∈cut,x∈V)/\n < N/\cut.length<=L:=by
 induction h with
 | @start n r p hr a=>
  have u:=(Ak.mp hr).1
  have:=v.len r (Av hr)
  have:=v.few
  exact⟨fun x b=>by rw[Ax.mp b];exact v.pl p a,by lia,by simp;lia⟩
 | @word n r cut c part e pr hd hr a s o i=>
  obtain⟨d,f,q⟩:=i
  have hl:=(Ak.mp a).1
  have:=v.len r (Av hr)
  have g:=Dg.mpr hd.ne
  refine⟨fun x b=>?_,f,by rw[Am,Bn];lia⟩
  rcases Bh.mp b with z | z
  ·exact d x z
  ·rw[Ax.mp z];exact v.st _ _ _ _ (d _ (rN hd.ne)) o
 | @name n w r cut l c m part hd hr a s j hf u hh i k=>
  obtain⟨d,f,q⟩:=i
  obtain⟨t,_,_⟩:=k
  have hl:=(Ak.mp a).1
  have:=v.len r (Av hr)
  have g:=Dg.mpr hd.ne
  refine⟨fun x b=>?_,f,by rw[Am,Bn];lia⟩
  rcases Bh.mp b with z | z
  ·exact d x z
  ·rw[Ax.mp z];exact t _ (rN j.ne)
def uH(V:List Int)(N L:Nat):List K4:=(Cv N).flatMap fun n=>(Cv (L + 1)).flatMap fun l=>V.flatMap fun a=>V.map fun b=>(n,l,a,b)
theorem rP{a b:Type}{f:a->List b}{k:Nat}:∀ {l:List a},(∀ x∈l,(f x).length=k)->(l.flatMap f).length=l.length * k
 | [],_=>by simp
 | x :: l,h=>by
  rw[Kw,Am,h x Ba,rP fun y c=>h y (An _ c),Bk,Lw];lia
theorem zeg(V:List Int)(N L:Nat):(uH V N L).length=N * ((L + 1) * (V.length * V.length)):=by
 unfold uH
 rw[rP (k:=(L + 1) * (V.length * V.length)) fun n _=>?_,Je]
 rw[rP (k:=V.length * V.length) fun l _=>?_,Je]
 rw[rP (k:=V.length) fun a _=>by rw[Ab]]
theorem z8{G:Sr}{V:List Int}{N L S I0 T:Nat}{st:SS}{P:List bQ}{cur:aL}(v:n6 G V N L)(A:All G S I0 st P cur T):P.length<=N * ((L + 1) * (V.length * V.length))/\(∀ key,((aI st.ends key).getD []).length<=V.length)/\(a7 st.q).length + T<=I0 + N * ((L + 1) * (V.length * V.length)) * (S + V.length):=by
 have d:∀ {B:d7} {n cut c},B=st.best->GI G B n cut c->DI G n cut c:=fun {B n cut c} e g=>z5 (B:=B) (fun f m u i h=>uF A.ob (by rw[<-e];exact h)) g
 have o:P.length<=N * ((L + 1) * (V.length * V.length)):=by
  have:=len_sub (b:=uH V N L) A.inv.once fun k hk=>by
   obtain⟨y,s,rfl⟩:=Ao.mp hk
   have hd:=d rfl (A.inv.pr y s).2.2
   obtain⟨a,p,w⟩:=rO v hd
   unfold uH
   refine Ds.mpr ⟨y.1,Ke.mpr p,Ds.mpr ⟨y.2.1.length,Ke.mpr (by lia),Ds.mpr ⟨_,a _ (zef hd.ne),Ao.mpr ⟨_,a _ (rN hd.ne),rfl⟩⟩⟩⟩
  rw[Ab,zeg] at this
  exact this
 have j:∀ key,((aI st.ends key).getD []).length<=V.length:=fun key=>by
  have:=len_sub (b:=V) (A.cn.enn key) fun e t=>by
   obtain⟨z,hz,rfl⟩:=Ao.mp t
   obtain⟨k,hk⟩:=(A.ob.ends key.1 key.2 z.1 z.2).mp hz
   obtain⟨n,cut⟩:=k
   obtain⟨hd,_,hf⟩:=uF A.ob hk
   unfold cZ at hf
   simp only[Dk] at hf
   rw[hf.2.2]
   exact(rO v hd).1 _ (rN hd.ne)
  rw[Ab] at this
  exact this
 refine⟨o,j,?_⟩
 have r:(P.map (gM G S st)).sum<=P.length * (S + V.length):=by
  have hd:∀ y,gM G S st y<=S + V.length:=fun y=>by
   unfold gM
   split
   ·lia
   ·rename_i part _
    split
    ·have:=j (part,y.2.1.getLastD 0)
     lia
    ·lia
  have:∀ l:List bQ,(l.map (gM G S st)).sum<=l.length * (S + V.length):=by
   intro l
   induction l with
   | nil=>simp
   | cons y l x=>rw[Au,Jn,Bk,Lw];have:=hd y;lia
  exact this P
 have a:=A.cn.put
 have p:P.length * (S + V.length)<=N * ((L + 1) * (V.length * V.length)) * (S + V.length):=Nat.mul_le_mul_right _ o
 lia
def ownB(rs:List aG)(t:Str):Bool:=decide (t∈namesOf rs)
theorem z9{rs:List aG}{r:aG}(h:r∈rs):ownB rs r.name=true:=decide_eq_true (l3.mpr ⟨r,h,rfl⟩)
mutual
inductive LD(rs:List aG):Str->Int->Prop
 | mk {r:aG} {l:Int}:r∈rs->e8 rs r.parts l->LD rs r.name l
inductive e8(rs:List aG):List Str->Int->Prop
 | nil:e8 rs [] 0
 | word {t:Str} {ts:List Str} {l:Int}:ownB rs t=false->e8 rs ts l->e8 rs (t :: ts) (1 + l)
 | name {t:Str} {ts:List Str} {a l:Int}:ownB rs t=true->LD rs t a->e8 rs ts l->e8 rs (t :: ts) (a + l)
end
theorem e8.append{rs:List aG}:∀ {xs ys:List Str} {a b:Int},e8 rs xs a->e8 rs ys b->e8 rs (xs ++ ys) (a + b)
 | [],ys,_,b,.nil,h=>by rw[Ie,Int.zero_add];exact h
 | t :: xs,ys,_,b,.word c d,h=>by rw[Int.add_assoc];exact .word c (e8.append d h)
 | t :: xs,ys,_,b,.name c e d,h=>by rw[Int.add_assoc];exact .name c e (e8.append d h)
theorem e8.one{rs:List aG}{t:Str}(h:ownB rs t=false):e8 rs [t] 1:=.word h .nil
theorem e8.oneN{rs:List aG}{t:Str}{a:Int}(h:ownB rs t=true)(d:LD rs t a):e8 rs [t] a:=by
 have:=e8.name h d .nil
 rwa [Int.add_zero] at this
abbrev LT:=List (Str×Int)
def kA(T:LT)(t:Str):Int:=(aI T t).getD 1
def jT{a:Type}(rs:List aG)(T:List (Str×a))(ps:List Str):Bool:=ps.any fun t=>ownB rs t && (aI T t).isNone
def iP(T:LT)(ps:List Str):Int:=(ps.map (kA T)).sum
def uI(i j:Int):Int:=if j < i then j else i
def fT(rs:List aG)(T:LT)(r:aG):LT:=if jT rs T r.parts=true then T else cY T r.name (uI (iP T r.parts) ((aI T r.name).getD (iP T r.parts)))
def zeh(rs:List aG)(T:LT):LT:=rs.foldl (fT rs) T
def jU(rs:List aG):Nat->LT
 | 0=>[]
 | k + 1=>zeh rs (jU rs k)
def uJ(rs:List aG):LT:=jU rs (rs.length + 1)
structure gO(rs:List aG)(T:LT):Prop where
 own:∀ X l,aI T X=some l->ownB rs X=true
 ld:∀ X l,aI T X=some l->LD rs X l
theorem zei{c:Type}{rs:List aG}{T:List (Str×c)}{t:Str}{ts:List Str}:jT rs T (t :: ts)=false↔(ownB rs t=true->∃ l,aI T t=some l)/\jT rs T ts=false:=by
 unfold jT
 rw[Em,Bool.or_eq_false_iff,Bool.and_eq_false_iff]
 constructor
 ·rintro⟨h,b⟩
  refine⟨fun a=>?_,b⟩
  rcases h with z | z
  ·rw[a] at z;cases z
  ·cases q:aI T t with
   | none=>rw[q] at z;cases z
   | some l=>exact⟨l,rfl⟩
 ·rintro⟨h,b⟩
  refine⟨?_,b⟩
  cases a:ownB rs t with
  | false=>exact .inl rfl
  | true=>obtain⟨l,e⟩:=h a;rw[e];exact .inr rfl
theorem zej{T:LT}{t:Str}{ts:List Str}:iP T (t :: ts)=kA T t + iP T ts:=by unfold iP;rw[Au,Jn]
theorem gO.sum{rs:List aG}{T:LT}(g:gO rs T):∀ {ps:List Str},jT rs T ps=false->e8 rs ps (iP T ps)
 | [],_=>.nil
 | t :: ts,h=>by
  obtain⟨c,b⟩:=zei.mp h
  rw[zej]
  cases a:ownB rs t with
  | true=>
   obtain⟨l,e⟩:=c a
   have:kA T t=l:=by unfold kA;rw[e];rfl
   rw[this]
   exact .name a (g.ld _ _ e) (g.sum b)
  | false=>
   have:kA T t=1:=by
    unfold kA
    cases e:aI T t with
    | none=>rfl
    | some l=>rw[g.own _ _ e] at a;cases a
   rw[this]
   exact .word a (g.sum b)
theorem gO.step{rs:List aG}{T:LT}(g:gO rs T){r:aG}(hr:r∈rs):gO rs (fT rs T r):=by
 unfold fT
 split
 ·exact g
 ·rename_i h
  have h:jT rs T r.parts=false:=by simpa using h
  have b:LD rs r.name (iP T r.parts):=.mk hr (g.sum h)
  refine⟨fun X l e=>?_,fun X l e=>?_⟩
  ·rw[jB] at e
   by_cases a:r.name=X
   ·rw[<-a];exact z9 hr
   ·rw[if_neg a] at e;exact g.own X l e
  ·rw[jB] at e
   by_cases a:r.name=X
   ·rw[if_pos a] at e
    cases e
    subst a
    unfold uI
    cases q:aI T r.name with
    | none=>rw[Option.getD_none,if_neg (by omega)];exact b
    | some l=>
     rw[Option.getD_some]
     split
     ·exact g.ld _ _ q
     ·exact b
   ·rw[if_neg a] at e;exact g.ld X l e
theorem gO.steps{rs:List aG}:∀ {qs:List aG} {T:LT},gO rs T->(∀ r∈qs,r∈rs)->gO rs (qs.foldl (fT rs) T)
 | [],T,g,_=>g
 | r :: qs,T,g,h=>gO.steps (qs:=qs) (T:=fT rs T r) (g.step (h r Ba)) fun x a=>h x (An _ a)
theorem gO.rounds(rs:List aG):∀ k,gO rs (jU rs k)
 | 0=>⟨(fun _ _ e=>nomatch e),(fun _ _ e=>nomatch e)⟩
 | k + 1=>(gO.rounds rs k).steps fun _ h=>h
def gW(b T:LT):Prop:=∀ X l,aI T X=some l->∃ a,aI b X=some a/\a<=l
theorem gW.refl(T:LT):gW T T:=fun _ l e=>⟨l,e,Ky _⟩
theorem gW.trans{a b c:LT}(x:gW a b)(y:gW b c):gW a c:=fun X l e=>by
 obtain⟨d,f,j⟩:=y X l e
 obtain⟨g,h,i⟩:=x X d f
 exact⟨g,h,by omega⟩
theorem gW.step(rs:List aG)(T:LT)(r:aG):gW (fT rs T r) T:=fun X l e=>by
 unfold fT
 split
 ·exact⟨l,e,Ky _⟩
 ·rw[jB]
  by_cases a:r.name=X
  ·subst a
   rw[if_pos rfl,e,Option.getD_some]
   refine⟨_,rfl,?_⟩
   unfold uI;split <;> omega
  ·rw[if_neg a];exact⟨l,e,Ky _⟩
theorem gW.steps(rs:List aG):∀ (qs:List aG) (T:LT),gW (qs.foldl (fT rs) T) T
 | [],T=>gW.refl T
 | r :: qs,T=>(gW.steps rs qs (fT rs T r)).trans (gW.step rs T r)
theorem zek{rs:List aG}{T:LT}{r:aG}(h:jT rs T r.parts=false):∃ l,aI (fT rs T r) r.name=some l/\l<=iP T r.parts:=by
 unfold fT
 rw[if_neg (by rw[h];decide),jB,if_pos rfl]
 refine⟨_,rfl,?_⟩
 unfold uI;split <;> omega
def c9(rs:List aG)(ws:List Str):Sr:=⟨rs,ownB rs,[0],fun t p=>if p=0/\t∈ws then [(0,1)] else [],fun _=>0⟩
theorem LU{a:Type}{rs:List aG}{T:List (Str×a)}{t:Str}{ts:List Str}:jT rs T (ts ++ [t])=(jT rs T ts || (ownB rs t && (aI T t).isNone)):=by
 unfold jT;rw[List.any_append];simp
theorem LV{T:LT}{t:Str}{ts:List Str}:iP T (ts ++ [t])=iP T ts + kA T t:=by
 unfold iP;rw[Bi,List.sum_append];simp
theorem take_snoc{a:Type}{l:List a}{k:Nat}{x:a}(h:l[k]? = some x):l.take (k + 1)=l.take k ++ [x]:=by
 rw[List.take_succ,h];rfl
theorem zel{rs:List aG}{ws:List Str}{pre:d7}{T:LT}(g:gO rs T)(ht:∀ nm b e m k,aI pre (nm,b,e)=some (m,k)->∃ l,aI T nm=some l/\l<=m.1){n:Nat}{cut:List Int}{c:aL}(h:GI (c9 rs ws) pre n cut c) :
  ∃ r,rs[n]? = some r/\cut.length - 1<=r.parts.length/\jT rs T (r.parts.take (cut.length - 1))=false/\iP T (r.parts.take (cut.length - 1))<=c.1:=by
 induction h with
 | @start r p hr _=>exact⟨r,hr,by simp,by simp[jT],by simp[iP,c9]⟩
 | @word r cut c part e pr j hr d u i t=>
  obtain⟨v,a,x,o,z⟩:=t
  have hr:rs[n]? = some r:=hr
  rw[a] at hr
  cases hr
  have s:=Dg.mpr j.ne
  have hl:=(Ak.mp d).1
  have hk:(cut ++ [e]).length - 1=(cut.length - 1) + 1:=by rw[Am,Bn];omega
  have f:ownB rs part=false:=u
  refine⟨r,a,by omega,?_,?_⟩
  ·rw[hk,take_snoc d,LU,o,f];rfl
  ·rw[hk,take_snoc d,LV]
   have A:pr=1:=by
    have i:(e,pr)∈(if cut.getLastD 0=0/\part∈ws then [((0:Int),(1:Int))] else []):=i
    split at i
    ·simp at i;exact i.2
    ·cases i
   have:kA T part=1:=by
    unfold kA
    cases q:aI T part with
    | none=>rfl
    | some l=>rw[g.own _ _ q] at f;cases f
   show _<=c.1 + pr
   omega
 | @name r cut c m part e k j hr d u w t=>
  obtain⟨v,a,x,o,z⟩:=t
  have hr:rs[n]? = some r:=hr
  rw[a] at hr
  cases hr
  have s:=Dg.mpr j.ne
  have hl:=(Ak.mp d).1
  have hk:(cut ++ [e]).length - 1=(cut.length - 1) + 1:=by rw[Am,Bn];omega
  obtain⟨l,q,y⟩:=ht _ _ _ _ _ w
  refine⟨r,a,by omega,?_,?_⟩
  ·rw[hk,take_snoc d,LU,o,q];simp
  ·rw[hk,take_snoc d,LV]
   have:kA T part=l:=by unfold kA;rw[q];rfl
   show _<=c.1 + m.1
   omega
section
variable {rs:List aG}{ws:List Str}
theorem AA{n:Nat}{r:aG}(h:rs[n]? = some r):c8 (c9 rs ws) n=r.name:=by
 unfold c8;rw[show(c9 rs ws).rs[n]? = some r from h]
theorem AB{n:Nat}{r:aG}{cut:List Int}(h:rs[n]? = some r):dD (c9 rs ws) n cut=r.parts[cut.length - 1]?:=by
 unfold dD;rw[show(c9 rs ws).rs[n]? = some r from h]
def mB(rs:List aG)(ws:List Str):Prop:=∀ r∈rs,∀ t∈r.parts,ownB rs t=false->t∈ws
theorem n8{n:Nat}{cut:List Int}{c:aL}(h:DI (c9 rs ws) n cut c):∀ x∈cut,x=0:=by
 have v:n6 (c9 rs ws) [0] rs.length ((rs.map fun r=>r.parts.length).foldr max 0 + 1):=by
  refine⟨fun p d=>d,fun t p e c d b=>?_,Aj _,fun r hr=>?_⟩
  ·have b:(e,c)∈(if p=0/\t∈ws then [((0:Int),(1:Int))] else []):=b
   split at b
   ·simp at b;simp[b.1]
   ·cases b
  ·have:∀ {l:List aG} {r:aG},r∈l->r.parts.length<=(l.map fun r=>r.parts.length).foldr max 0:=by
    intro l
    induction l with
    | nil=>intro r h;cases h
    | cons a l f=>
     intro r h
     rw[Au,List.foldr_cons]
     rcases Be.mp h with z | z
     ·rw[z];omega
     ·have:=f z;omega
   have:=this (l:=rs) hr
   omega
 intro x g
 have:=(rO v h).1 x g
 simpa using this
theorem uK{cut:List Int}(h:∀ x∈cut,x=0):cut.getLastD 0=0:=by
 cases cut with
 | nil=>rfl
 | cons a l=>exact h _ (rN (by simp))
theorem AD{cut:List Int}(h:∀ x∈cut,x=0):cut.headD 0=0:=by
 cases cut with
 | nil=>rfl
 | cons a l=>exact h a Ba
theorem zem{n:Nat}{cut:List Int}{c:aL}(h:DI (c9 rs ws) n cut c):∃ r,rs[n]? = some r/\cut.length - 1<=r.parts.length/\e8 rs (r.parts.take (cut.length - 1)) c.1:=by
 induction h with
 | @start n r p hr _=>exact⟨r,hr,by simp,by simp;exact .nil⟩
 | @word n r cut c part e pr hd hr i k f q=>
  obtain⟨v,a,x,l⟩:=q
  have hr:rs[n]? = some r:=hr
  rw[a] at hr
  cases hr
  have o:=Dg.mpr hd.ne
  have hl:=(Ak.mp i).1
  have hk:(cut ++ [e]).length - 1=(cut.length - 1) + 1:=by rw[Am,Bn];omega
  have t:pr=1:=by
   have f:(e,pr)∈(if cut.getLastD 0=0/\part∈ws then [((0:Int),(1:Int))] else []):=f
   split at f
   ·simp at f;exact f.2
   ·cases f
  refine⟨r,a,by omega,?_⟩
  rw[hk,take_snoc i,t]
  exact l.append (.one k)
 | @name n B r cut g c m part hd hr i k y b j w q s=>
  obtain⟨v,a,x,l⟩:=q
  obtain⟨A,d,z,u⟩:=s
  have hr:rs[n]? = some r:=hr
  rw[a] at hr
  cases hr
  have o:=Dg.mpr hd.ne
  have hl:=(Ak.mp i).1
  have hk:(cut ++ [g.getLastD 0]).length - 1=(cut.length - 1) + 1:=by rw[Am,Bn];omega
  refine⟨r,a,by omega,?_⟩
  rw[hk,take_snoc i]
  refine l.append (.oneN k ?_)
  rw[AB d] at b
  rw[AA d] at j
  rw[Gn (Ko.mp b)] at u
  rw[<-j]
  exact .mk (Av d) u
mutual
theorem LW(aw:mB rs ws):∀ {X:Str} {l:Int},LD rs X l->∃ n cut c,DI (c9 rs ws) n cut c/\dD (c9 rs ws) n cut=none/\c8 (c9 rs ws) n=X/\c.1=l
 | _,_,.mk (r:=r) (l:=l) hr hp=>by
  obtain⟨n,hn⟩:=Hj hr
  obtain⟨cut,c,h1,h2,h3⟩:=AE aw hp n r [0] (0,1) hn (.start hn (by simp[c9])) (by simp) (by simp)
  exact⟨n,cut,c,h1,by rw[AB hn];exact h2,AA hn,by rw[h3];simp⟩
theorem AE(aw:mB rs ws):∀ {ps:List Str} {l:Int},e8 rs ps l->∀ (n:Nat) (r:aG) (cut:List Int) (c:aL),rs[n]? = some r->DI (c9 rs ws) n cut c->r.parts.drop (cut.length - 1)=ps->cut.length - 1<=r.parts.length->
  ∃ cut' c',DI (c9 rs ws) n cut' c'/\r.parts[cut'.length - 1]? = none/\c'.1=c.1 + l
 | _,_,.nil,n,r,cut,c,hr,hd,hp,hl=>⟨cut,c,hd,by
   have:=congrArg Bg hp
   rw[Ft,Js] at this
   exact Ko.mpr (by omega),by simp⟩
 | _,_,.word (t:=t) (ts:=ts) (l:=l) ho h,n,r,cut,c,hr,hd,hp,hl=>by
  have hpt:r.parts[cut.length - 1]? = some t:=by
   have:=congrArg (fun x=>x[0]?) hp
   simpa using this
  have hne:=Dg.mpr hd.ne
  have hlt:=(Ak.mp hpt).1
  have hk:(cut ++ [(0:Int)]).length - 1=(cut.length - 1) + 1:=by rw[Am,Bn];omega
  have hz:=uK (n8 hd)
  have hw:t∈ws:=aw r (Av hr) t (Av hpt) ho
  obtain⟨cut',c',h1,h2,h3⟩:=AE aw h n r (cut ++ [0]) (c.1 + 1,c.2) hr (.word hd hr hpt ho (by show((0:Int),(1:Int))∈(if cut.getLastD 0=0/\t∈ws then [((0:Int),(1:Int))] else []);rw[if_pos ⟨hz,hw⟩];simp)) (by
   rw[hk,<-List.drop_drop,hp];rfl) (by omega)
  exact⟨cut',c',h1,h2,by rw[h3];show c.1 + 1 + l=_;omega⟩
 | _,_,.name (t:=t) (ts:=ts) (a:=a) (l:=l) ho hld h,n,r,cut,c,hr,hd,hp,hl=>by
  have hpt:r.parts[cut.length - 1]? = some t:=by
   have:=congrArg (fun x=>x[0]?) hp
   simpa using this
  have hne:=Dg.mpr hd.ne
  have hlt:=(Ak.mp hpt).1
  obtain⟨n2,cut2,c2,g1,g2,g3,g4⟩:=LW aw hld
  have hz:=uK (n8 hd)
  have hz2:=AD (n8 g1)
  have hk:(cut ++ [cut2.getLastD 0]).length - 1=(cut.length - 1) + 1:=by rw[Am,Bn];omega
  obtain⟨cut',c',h1,h2,h3⟩:=AE aw h n r (cut ++ [cut2.getLastD 0]) (dU c c2) hr (.name hd hr hpt ho g1 g2 g3 (by rw[hz2,hz])) (by
   rw[hk,<-List.drop_drop,hp];rfl) (by omega)
  exact⟨cut',c',h1,h2,by rw[h3];show c.1 + c2.1 + l=_;omega⟩
end
variable {S I0 T:Nat}{st:SS}{P:List bQ}{cur:aL}
theorem AF(A:All (c9 rs ws) S I0 st P cur T):(st.best.map (·.1)).Nodup:=by
 have:∀ (k:Nat),k<=st.best.length->((st.best.take k).map (·.1)).Nodup:=by
  intro k
  induction k with
  | zero=>intro _;simp
  | succ k m=>
   intro hk
   have g:k < st.best.length:=hk
   have e:st.best[k]? = some st.best[k]:=Bp g
   rw[take_snoc e,Bi,Dz]
   refine⟨m (by omega),by simp,fun a l b f=>?_⟩
   have f:b=st.best[k].1:=by simpa using f
   subst f
   have j:st.best=st.best.take k ++ st.best[k] :: st.best.drop (k + 1):=by rw[Lm,Lx]
   have o:=(A.ob.ord _ _ _ j).2
   intro i
   obtain⟨x,n,rfl⟩:=Ao.mp l
   have:∀ {t:d7} {x},x∈t->(aI t x.1).isSome=true:=by
    intro t
    induction t with
    | nil=>intro x h;cases h
    | cons y t c=>
     intro x h
     rw[dJ]
     by_cases d:y.1=x.1
     ·rw[if_pos d];rfl
     ·rw[if_neg d]
      rcases Be.mp h with z | z
      ·exact absurd (by rw[z]) d
      ·exact c z
   have:=this n
   rw[i,o] at this
   cases this
 have:=this st.best.length (Aj _)
 rwa [Cq] at this
theorem rQ(A:All (c9 rs ws) S I0 st P cur T){e:iO×aL×Nat×List Int}(h:e∈st.best):aI st.best e.1=some e.2:=by
 have nd:=AF A
 have:∀ {t:d7},(t.map (·.1)).Nodup->e∈t->aI t e.1=some e.2:=by
  intro t
  induction t with
  | nil=>intro _ h;cases h
  | cons y t a=>
   intro nd h
   rw[Au,Dh] at nd
   rw[dJ]
   rcases Be.mp h with z | z
   ·subst z;rw[if_pos rfl]
   ·rw[if_neg (fun z2=>nd.1 (by rw[z2];exact Ao.mpr ⟨e,z,rfl⟩))]
    exact a nd.2 z
 exact this nd h
theorem uL(A:All (c9 rs ws) S I0 st P cur T){e:iO×aL×Nat×List Int}(h:e∈st.best):∃ r,rs[e.2.2.1]? = some r/\e.1=(r.name,0,0):=by
 obtain⟨f,m,n,cut⟩:=e
 have b:aI st.best f=some (m,n,cut):=rQ A h
 obtain⟨a,d,c⟩:=uF A.ob b
 obtain⟨r,hr,_⟩:=zem a
 refine⟨r,hr,?_⟩
 rw[c]
 unfold cZ
 rw[AA hr,AD (n8 a),uK (n8 a)]
theorem LX(A:All (c9 rs ws) S I0 st P cur T):st.best.length<=(namesOf rs).length:=by
 have nd:=AF A
 have:=len_sub (a:=st.best.map (·.1)) (b:=(namesOf rs).map fun x=>((x,0,0):iO)) nd fun f hf=>by
  obtain⟨e,d,rfl⟩:=Ao.mp hf
  obtain⟨r,hr,c⟩:=uL A d
  exact Ao.mpr ⟨r.name,l3.mpr ⟨r,Av hr,rfl⟩,c.symm⟩
 rwa [Ab,Ab] at this
theorem zen{k:Nat}{B:d7}{f:iO}{v:aL×Nat×List Int}(h:aI (B.take k) f=some v):∃ i,i < k/\B[i]? = some (f,v):=by
 obtain⟨a,b,e⟩:=n5 h
 have c:(f,v)∈B.take k:=by rw[e];simp
 obtain⟨i,hi⟩:=Hj c
 rw[List.getElem?_take] at hi
 split at hi
 ·exact⟨i,by assumption,hi⟩
 ·cases hi
theorem zeo(A:All (c9 rs ws) S I0 st P cur T):∀ (k i:Nat) (e:iO×aL×Nat×List Int),i < k->st.best[i]? = some e->∃ l,aI (jU rs k) e.1.1=some l/\l<=e.2.1.1:=by
 intro k
 induction k with
 | zero=>intro i e h;omega
 | succ k z=>
  intro i e hi p
  have g:=gO.rounds rs k
  by_cases d:i < k
  ·obtain⟨l,w,v⟩:=z i e d p
   obtain⟨o,t,F⟩:=gW.steps rs rs (jU rs k) _ _ w
   exact⟨o,t,by omega⟩
  ·have d:i=k:=by omega
   subst d
   have M:=(Ak.mp p).1
   have I:st.best=st.best.take i ++ e :: st.best.drop (i + 1):=by
    have:st.best[i]=e:=(Ak.mp p).2
    rw[<-this,Lm,Lx]
   obtain⟨J,_⟩:=A.ob.ord _ _ _ I
   obtain⟨r,hr,hf⟩:=uL A (Av p)
   obtain⟨f,m,n,cut⟩:=e
   have V:=(Ak.mp hr).1
   have s:rs[n]=r:=(Ak.mp hr).2
   have a:rs=rs.take n ++ r :: rs.drop (n + 1):=by
    rw[<-s,Lm,Lx]
   have G:gO rs ((rs.take n).foldl (fT rs) (jU rs i)):=g.steps fun x D=>Jp D
   have K:=gW.steps rs (rs.take n) (jU rs i)
   obtain⟨O,q,Q,B,u⟩:=zel G (fun nm b e m k hk=>by
    obtain⟨j,C,E⟩:=zen hk
    obtain⟨l,w,v⟩:=z j _ C E
    obtain⟨o,t,F⟩:=K _ _ w
    have v:l<=m.1:=v
    exact⟨o,t,by omega⟩) J
   rw[hr] at q
   cases q
   have L:aI st.best f=some (m,n,cut):=rQ A (Av p)
   obtain⟨y,R,_⟩:=A.ob.bst f m n cut L
   rw[AB hr] at y
   have c:r.parts.take (cut.length - 1)=r.parts:=Gn (Ko.mp y)
   rw[c] at B u
   obtain⟨l,z1,z2⟩:=zek B
   have N:jU rs (i + 1)=(rs.drop (n + 1)).foldl (fT rs) (fT rs ((rs.take n).foldl (fT rs) (jU rs i)) r):=by
    have:∀ qs:List aG,qs=rs.take n ++ r :: rs.drop (n + 1)->qs.foldl (fT rs) (jU rs i)=(rs.drop (n + 1)).foldl (fT rs) (fT rs ((rs.take n).foldl (fT rs) (jU rs i)) r):=fun qs e=>by
     rw[e,Ei,Dj]
    exact this rs a
   obtain⟨o,H,U⟩:=gW.steps rs (rs.drop (n + 1)) _ _ _ z1
   refine⟨o,?_,?_⟩
   ·have hf:f=(r.name,0,0):=hf
    show aI (jU rs (i + 1)) f.1=_
    rw[N,hf];exact H
   ·show o<=m.1
    have u:iP _ r.parts<=m.1:=u
    omega
theorem AG(rs:List aG):(namesOf rs).length<=rs.length:=by
 have:∀ (qs:List aG) (acc:List Str),(mX acc qs).length<=acc.length + qs.length:=by
  intro qs
  induction qs with
  | nil=>intro acc;exact Aj _
  | cons r qs a=>
   intro acc
   have b:=a (eC acc r.name)
   have c:(eC acc r.name).length<=acc.length + 1:=by unfold eC;split <;> simp
   show(mX (eC acc r.name) qs).length<=_
   rw[Bk];omega
 have:=this rs []
 rw[Js,Nat.zero_add] at this
 exact this
def m9(B:d7)(X:Str):Option Int:=(aI B (X,0,0)).map fun v=>v.1.1
theorem LY(g:mB rs ws)(A:All (c9 rs ws) S I0 st P cur T)(f:st.q=[]){X:Str}{l:Int}(h:LD rs X l):∃ d,m9 st.best X=some d/\d<=l:=by
 obtain⟨n,cut,c,a,i,j,o⟩:=LW g h
 obtain⟨m,k,e,b⟩:=zd8 A.inv A.ob A.ini f a i
 have:cZ (c9 rs ws) n cut=(X,0,0):=by unfold cZ;rw[j,AD (n8 a),uK (n8 a)]
 rw[this] at e
 refine⟨m.1,by unfold m9;rw[e];rfl,?_⟩
 unfold Le at b
 omega
theorem LZ(n:mB rs ws)(A:All (c9 rs ws) S I0 st P cur T)(j:st.q=[])(X:Str):aI (uJ rs) X=m9 st.best X:=by
 have g:=gO.rounds rs (rs.length + 1)
 have told:∀ l,m9 st.best X=some l->∃ d,aI (uJ rs) X=some d/\d<=l:=by
  intro l h
  unfold m9 at h
  obtain⟨v,p,rfl⟩:=Bb.mp h
  obtain⟨a,b,e⟩:=n5 p
  have k:(((X,0,0):iO),v)∈st.best:=by rw[e];simp
  obtain⟨i,hi⟩:=Hj k
  have hl:=(Ak.mp hi).1
  have:=LX A
  have:=AG rs
  exact zeo A (rs.length + 1) i _ (by omega) hi
 cases e:aI (uJ rs) X with
 | some l=>
  obtain⟨m,f,r⟩:=LY n A j (g.ld X l e)
  obtain⟨o,c,s⟩:=told m f
  rw[e] at c
  cases c
  rw[f]
  congr 1;omega
 | none=>
  cases q:m9 st.best X with
  | none=>rfl
  | some l=>obtain⟨o,c,_⟩:=told l q;rw[e] at c;cases c
end
theorem zep{κ b:Type}[DecidableEq κ]{t:List (κ×b)}{e:κ×b}(h:e∈t):∃ v,aI t e.1=some v:=by
 induction t with
 | nil=>cases h
 | cons y t c=>
  rw[dJ]
  by_cases a:y.1=e.1
  ·exact⟨_,if_pos a⟩
  ·rw[if_neg a]
   rcases Be.mp h with z | z
   ·exact absurd (by rw[z]) a
   ·exact c z
end Rg
namespace L2
open PySem PySem.Spec PyProof.Rows
def gX(a b:Int×Int):Bool:=decide (a.1 < b.1) || (decide (a.1=b.1) && decide (a.2 < b.2))
section
variable {prog:Ay}{w:Bq}{A:Cr}{E:Ae->Ah->Prop}{s:Ah}
theorem zeq{a b:Addr}{o ob:Obj}{xs ys:Array Ae}{K nb:Nat}{x1 x2 c d:Int}{x m D n:Tok}{Q:Ae->Ah->Prop}(J:A.units + 1 < Es)(l:s.heap.get? a=some o)(B:o.cls=.type "tuple")(p:o.data=.seq xs K)(j:s.heap.get? b=some ob)(C:ob.cls=.type "tuple")(y:ob.data=.seq ys nb)
  (ex:xs.toList=[.int x1 x,.int x2 m]) (H:ys.toList=[.int c D,.int d n]) (h:Q (.bool (gX (x1,x2) (c,d))) s):Bf (Bu prog w) A (Cf .Lt (.ref a) (.ref b)) Q E s:=by
 have g:s.TypeIs (.ref a) "tuple":=⟨o,l,B⟩
 have i:s.TypeIs (.ref b) "tuple":=⟨ob,j,C⟩
 show Bf _ _ (richCompare .Lt (.ref a) (.ref b)) Q E s
 refine Ks (op:=.Lt) g i PySem.F.slot_tuple_lt (Dc PySem.F.slot_tuple_lt g PySem.F.entry_tuple_lt ?_ (PySem.F.args_tuple_lt_2 _ _)) (Kx J)
 show Bf _ _ (isInstance (.ref b) (.type "tuple") >>= _) _ _ s
 refine Aa (Fl i Hm ?_)
 simp only[Gu,Cz,if_false]
 refine Aa (Ga l p ?_)
 refine Aa (Ga j y ?_)
 refine Aa ?_
 rw[ex,H]
 show Bf _ _ (forIn [(Value.int x1 x,Value.int c D),(Value.int x2 m,Value.int d n)] _ _) _ _ s
 have hsz:xs.size=2/\ys.size=2:=by
  have I:=congrArg Bg ex
  have G:=congrArg Bg H
  simp at I G
  exact⟨I,G⟩
 refine Ic _
  (fun rest q t=>q.1=none/\t=s/\(rest=[(Value.int x1 x,Value.int c D),(Value.int x2 m,Value.int d n)]\/(rest=[(Value.int x2 m,Value.int d n)]/\x1=c)\/(rest=[]/\x1=c/\x2=d)))
  _ ?_ ?_ _ _ ⟨rfl,rfl,.inl rfl⟩
 ·rintro⟨u,v⟩ rest q t ⟨r,rfl,hc⟩
  rcases hc with z | ⟨z,f⟩ | ⟨z,_⟩
  ·simp only[Dv,Dk] at z
   obtain⟨⟨rfl,rfl⟩,rfl⟩:=z
   refine Aa (Ju ?_)
   by_cases f:x1=c
   ·rw[show(x1 == c)=true by simpa using f]
    simp only[Gu,Cz,if_false]
    exact Af ⟨rfl,rfl,by simp[f]⟩
   ·rw[show(x1 == c)=false by simpa using f]
    simp only[Kg,if_true]
    have e:gX (x1,x2) (c,d)=decide (x1 < c):=by simp[gX,f]
    rw[e] at h
    refine Aa (Gz (Aa (PyProof.Rows.lt_int ?_)))
    exact Aa (Af (Af (Af ⟨_,rfl,(fun e=>nomatch e),h⟩)))
  ·simp only[Dv,Dk] at z
   obtain⟨⟨rfl,rfl⟩,rfl⟩:=z
   refine Aa (Ju ?_)
   by_cases k:x2=d
   ·rw[show(x2 == d)=true by simpa using k]
    simp only[Gu,Cz,if_false]
    exact Af ⟨rfl,rfl,by simp[f,k]⟩
   ·rw[show(x2 == d)=false by simpa using k]
    simp only[Kg,if_true]
    have e:gX (x1,x2) (c,d)=decide (x2 < d):=by simp[gX,f]
    rw[e] at h
    refine Aa (Gz (Aa (PyProof.Rows.lt_int ?_)))
    exact Aa (Af (Af (Af ⟨_,rfl,(fun e=>nomatch e),h⟩)))
  ·cases z
 ·rintro⟨L,M⟩ t ⟨r,rfl,hc⟩
  simp only at r
  subst r
  rcases hc with z | ⟨z,_⟩ | ⟨_,f,k⟩
  ·cases z
  ·cases z
  ·refine Af ⟨_,rfl,(fun e=>nomatch e),?_⟩
   subst f;subst k
   have e:gX (x1,x2) (x1,x2)=decide (xs.size < ys.size):=by rw[hsz.1,hsz.2];simp[gX]
   rw[e] at h
   exact h
theorem zer{a b:Addr}{o ob:Obj}{xs ys:Array Ae}{K nb:Nat}{x1 x2 c d:Int}{x m D n:Tok}{Q:Ae->Ah->Prop}(J:A.units + 1 < Es)(l:s.heap.get? a=some o)(B:o.cls=.type "tuple")(p:o.data=.seq xs K)(j:s.heap.get? b=some ob)(C:ob.cls=.type "tuple")(y:ob.data=.seq ys nb)
  (ex:xs.toList=[.int x1 x,.int x2 m]) (H:ys.toList=[.int c D,.int d n]) (h:Q (.bool (gX (c,d) (x1,x2))) s):Bf (Bu prog w) A (Cf .Gt (.ref a) (.ref b)) Q E s:=by
 have g:s.TypeIs (.ref a) "tuple":=⟨o,l,B⟩
 have i:s.TypeIs (.ref b) "tuple":=⟨ob,j,C⟩
 show Bf _ _ (richCompare .Gt (.ref a) (.ref b)) Q E s
 refine Ks (op:=.Gt) g i PySem.F.slot_tuple_gt (Dc PySem.F.slot_tuple_gt g PySem.F.entry_tuple_gt ?_ (PySem.F.args_tuple_gt_2 _ _)) (Kx J)
 show Bf _ _ (isInstance (.ref b) (.type "tuple") >>= _) _ _ s
 refine Aa (Fl i Hm ?_)
 simp only[Gu,Cz,if_false]
 refine Aa (Ga l p ?_)
 refine Aa (Ga j y ?_)
 refine Aa ?_
 rw[ex,H]
 show Bf _ _ (forIn [(Value.int x1 x,Value.int c D),(Value.int x2 m,Value.int d n)] _ _) _ _ s
 have hsz:xs.size=2/\ys.size=2:=by
  have I:=congrArg Bg ex
  have G:=congrArg Bg H
  simp at I G
  exact⟨I,G⟩
 refine Ic _
  (fun rest q t=>q.1=none/\t=s/\(rest=[(Value.int x1 x,Value.int c D),(Value.int x2 m,Value.int d n)]\/(rest=[(Value.int x2 m,Value.int d n)]/\x1=c)\/(rest=[]/\x1=c/\x2=d)))
  _ ?_ ?_ _ _ ⟨rfl,rfl,.inl rfl⟩
 ·rintro⟨u,v⟩ rest q t ⟨r,rfl,hc⟩
  rcases hc with z | ⟨z,f⟩ | ⟨z,_⟩
  ·simp only[Dv,Dk] at z
   obtain⟨⟨rfl,rfl⟩,rfl⟩:=z
   refine Aa (Ju ?_)
   by_cases f:x1=c
   ·rw[show(x1 == c)=true by simpa using f]
    simp only[Gu,Cz,if_false]
    exact Af ⟨rfl,rfl,by simp[f]⟩
   ·rw[show(x1 == c)=false by simpa using f]
    simp only[Kg,if_true]
    have e:gX (c,d) (x1,x2)=decide (c < x1):=by simp[gX,Ca f]
    rw[e] at h
    refine Aa (Gz (Aa (PyProof.Rows.gt_int ?_)))
    exact Aa (Af (Af (Af ⟨_,rfl,(fun e=>nomatch e),h⟩)))
  ·simp only[Dv,Dk] at z
   obtain⟨⟨rfl,rfl⟩,rfl⟩:=z
   refine Aa (Ju ?_)
   by_cases k:x2=d
   ·rw[show(x2 == d)=true by simpa using k]
    simp only[Gu,Cz,if_false]
    exact Af ⟨rfl,rfl,by simp[f,k]⟩
   ·rw[show(x2 == d)=false by simpa using k]
    simp only[Kg,if_true]
    have e:gX (c,d) (x1,x2)=decide (d < x2):=by simp[gX,f]
    rw[e] at h
    refine Aa (Gz (Aa (PyProof.Rows.gt_int ?_)))
    exact Aa (Af (Af (Af ⟨_,rfl,(fun e=>nomatch e),h⟩)))
  ·cases z
 ·rintro⟨L,M⟩ t ⟨r,rfl,hc⟩
  simp only at r
  subst r
  rcases hc with z | ⟨z,_⟩ | ⟨_,f,k⟩
  ·cases z
  ·cases z
  ·refine Af ⟨_,rfl,(fun e=>nomatch e),?_⟩
   subst f;subst k
   have e:gX (x1,x2) (x1,x2)=decide (xs.size > ys.size):=by rw[hsz.1,hsz.2];simp[gX]
   rw[e] at h
   exact h
end
section
variable {X:Cx}
def rInsert:V->List V->Hp->VK->Prop:=fun x vs H Q=>∃ l xs y i,x=.ref l/\vs=[.int (i:Nat),y]/\H l=some (.lst xs)/\xs.length < Ai/\i<=xs.length/\Q .non (aR H l (.lst (xs.take i ++ y :: xs.drop i)))
theorem aZ.splitAt:∀ {xs:List V} {us:List Ae} (i:Nat),aZ xs us->aZ (xs.take i) (us.take i)/\aZ (xs.drop i) (us.drop i)
 | _,_,0,h=>⟨.nil,h⟩
 | _,_,i + 1,.nil=>⟨.nil,.nil⟩
 | _,_,i + 1,.cons r t=>by
  obtain⟨b,a⟩:=aZ.splitAt i t
  exact⟨.cons r b,a⟩
theorem zes:qB X "list.insert" rInsert:=by
 intro f s B H x vs v us Q I t o h
 obtain⟨l,xs,y,i,rfl,rfl,g,hz,hi,q⟩:=h
 cases t
 obtain⟨C,c,rfl,u,w⟩:=vals2 o
 obtain⟨tk,rfl⟩:=u
 obtain⟨z,its,n,r,hl,e⟩:=I.lstM g
 have k:its.length=xs.length:=r.length.symm
 have D:Ai=16777216:=Ji
 have a:¬ (!Builtin.List.listFitsIndex ((i:Nat):Int))=true:=by
  have b:Builtin.List.listFitsIndex ((i:Nat):Int)=true:=by
   unfold Builtin.List.listFitsIndex
   rw[Ce,decide_eq_true_eq,decide_eq_true_eq]
   lia
  rw[b];decide
 have d:its.toArray.size<=Ai:=by rw[Az];lia
 generalize A:((i:Nat):Int)=j at a e ⊢
 have p:=PySem.AutoSeq1.list_insert_list_int_val_1 l its.toArray n j tk c a d
 refine Jf F.slot_list_insert ⟨_,e,rfl⟩ F.entry_list_insert (F.args_list_insert_3 _ _ _) p ⟨e,?_⟩
 obtain⟨b,m⟩:=aZ.splitAt i r
 refine⟨.non,_,I.lset (its':=its.take i ++ c :: its.drop i) g e ?_ (b.append (.cons w m)) ?_,rfl,q⟩
 ·have hk:(if j < 0 then(j + (its.toArray.size:Int)).toNat else min j.toNat its.toArray.size)=i:=by
   rw[<-A,if_neg (by lia),Du,Az];lia
  show(its.toArray.extract 0 (if j < 0 then(j + (its.toArray.size:Int)).toNat else min j.toNat its.toArray.size)).push c ++ its.toArray.extract (if j < 0 then(j + (its.toArray.size:Int)).toNat else min j.toNat its.toArray.size)=_
  rw[hk]
  apply Array.toList_inj.mp
  simp[Mh,Array.toList_push]
  rw[Gn (by rw[Ft];lia)]
 ·rw[Am,Bk,Cw,Ft]
  lia
end
end L2
namespace L3
open PySem PySem.Spec PyProof.Rows L2
section
variable {X:Cx}
def AH:R3:=fun x y M R=>∃ a b c d:Int,x=.tup [.int a,.int b]/\y=.tup [.int c,.int d]/\R (.bl (gX (a,b) (c,d))) M
def L0:R3:=fun x y M R=>∃ a b c d:Int,x=.tup [.int a,.int b]/\y=.tup [.int c,.int d]/\R (.bl (gX (c,d) (a,b))) M
theorem uM{c:List (Addr×Obj)}{k:SV}{H:Hp}{M:Mm}{s:Ah}{x:V}{v:Ae}{a b:Int}(I:Inv X c k H s)(l:RelV x v)(i:AV X.K H M x (.tup [.int a,.int b])):∃ p o its n t u,v=.ref p/\s.heap.get? p=some o/\o.cls=.type "tuple"/\o.data=.seq its n/\its.toList=[.int a t,.int b u]:=by
 cases i with
 | @tup p xs _ e q=>
  cases (show v=Value.ref p from l)
  obtain⟨y,z,rfl,B,f⟩:=q.two
  obtain rfl:=B.inv
  obtain rfl:=f.inv
  obtain⟨_,its,r,o,j,d,m,g⟩:=(show cA X.prog X.w H s.heap p (.tup [.int a,.int b]) from I.hok p _ e)
  obtain⟨E,F,rfl,A,D⟩:=vals2 r
  obtain⟨h,rfl⟩:=A
  obtain⟨C,rfl⟩:=D
  exact⟨p,o,_,m,h,C,rfl,j,d,g,by simp⟩
theorem L1(h:X.A.units + 1 < Es):a8 X (Cf .Lt) (cB X.K AH):=by
 rintro e s T H x y v u Q I z f ⟨L,P,M,R,g,i,l,⟨a,b,c,d,rfl,rfl,r⟩,k⟩
 obtain⟨p,o,its,n,N,J,rfl,D,m,q,j⟩:=uM I z i
 obtain⟨G,S,its',O,F,E,rfl,w,C,B,t⟩:=uM I f l
 exact zeq h D m q w C B j t ⟨.bl _,H,I,rfl,k.at g (.bl _) r⟩
theorem zet(h:X.A.units + 1 < Es):a8 X (Cf .Gt) (cB X.K L0):=by
 rintro e s T H x y v u Q I z f ⟨L,P,M,R,g,i,l,⟨a,b,c,d,rfl,rfl,r⟩,k⟩
 obtain⟨p,o,its,n,N,J,rfl,D,m,q,j⟩:=uM I z i
 obtain⟨G,S,its',O,F,E,rfl,w,C,B,t⟩:=uM I f l
 exact zer h D m q w C B j t ⟨.bl _,H,I,rfl,k.at g (.bl _) r⟩
def L4:W->List W->Mm->K3->Prop
 | .ref l,[.int i,y],M,R=>∃ ws,M l=some (.lst ws)/\ws.length < Ai/\0<=i/\i<=ws.length/\R .non (put M l (.lst (ws.take i.toNat ++ y :: ws.drop i.toNat)))
 | _,_,_,_=>False
theorem L5{K:Ac}{H:Hp}{M:Mm}:∀ {vs:List V} {ws:List W} (i:Nat),aM K H M vs ws->aM K H M (vs.take i) (ws.take i)/\aM K H M (vs.drop i) (ws.drop i)
 | _,_,0,h=>⟨.nil,h⟩
 | _,_,i + 1,.nil=>⟨.nil,.nil⟩
 | _,_,i + 1,.cons r t=>by
  obtain⟨b,a⟩:=L5 i t
  exact⟨.cons r b,a⟩
theorem zeu:fD X "list.insert" (jI X.K L4):=by
 rintro a s t H x xs v us Q I m rs ⟨d,ws,M,R,c,j,b,h,k⟩
 match d,ws,h with
 | .ref l,[.int i,y],h=>
  obtain⟨u,z,rfl,n,g⟩:=b.two
  obtain rfl:=j.inv
  obtain rfl:=n.inv
  obtain⟨ws,e,hl,w,A,r⟩:=h
  obtain⟨i,rfl⟩:=Li w
  obtain⟨vs,f,q⟩:=c.lst e
  obtain⟨p,o⟩:=L5 i q
  rw[Du] at r
  exact zes a s t H _ _ v us Q I m rs ⟨l,vs,z,i,rfl,rfl,f,by rw[q.length];exact hl,by rw[q.length];lia,tF c k e (p.append (.cons g o)) .non r⟩
end
end L3
namespace Rg
open PySem PySem.Spec PyProof.Rows L2 L3
theorem pP{κ:Type}[DecidableEq κ]{kvs:List (κ×W)}{k j:κ}{w:W}:aY (b9 kvs k w) j=if k=j then some w else aY kvs j:=jB kvs k j w
theorem n9{κ:Type}[DecidableEq κ](e:κ×W)(t:List (κ×W))(k:κ):aY (e :: t) k=if e.1=k then some e.2 else aY t k:=dJ e t k
theorem uN{κ:Type}[DecidableEq κ]{k j:κ}:∀ {kvs:List (κ×W)},aY (jR kvs k) j=if k=j then none else aY kvs j
 | []=>by unfold jR;rw[List.filter_nil];split <;> rfl
 | e :: t=>by
  have b:=uN (k:=k) (j:=j) (kvs:=t)
  unfold jR at b ⊢
  rw[Fg]
  by_cases h:e.1=k
  ·rw[if_neg (by simp[h]),b,n9]
   by_cases a:k=j
   ·rw[if_pos a,if_pos a]
   ·rw[if_neg a,if_neg a,if_neg (by rw[h];exact a)]
  ·rw[if_pos (by simp[h]),n9,b,n9]
   by_cases a:k=j
   ·rw[if_pos a,if_pos a,if_neg (by rw[<-a];exact h)]
   ·rw[if_neg a,if_neg a]
theorem AI{κ:Type}[DecidableEq κ](kvs:List (κ×W))(k:κ)(w:W):(b9 kvs k w).length<=kvs.length + 1:=uC kvs k w
theorem L6{κ:Type}[DecidableEq κ]{k:κ}:∀ {kvs:List (κ×W)},(aY kvs k).isSome=true->(jR kvs k).length < kvs.length
 | [],h=>by cases h
 | e :: t,h=>by
  unfold jR
  rw[Fg]
  have c:(t.filter fun b=>decide (b.1≠k)).length<=t.length:=List.length_filter_le _ _
  by_cases a:e.1=k
  ·rw[if_neg (by simp[a]),Bk];omega
  ·rw[if_pos (by simp[a]),Bk,Bk]
   rw[n9,if_neg a] at h
   have:=L6 h
   unfold jR at this
   omega
structure d8{κ:Type}(kk:κ->List aD)(M0 M:Mm)(a:Addr)(kvs:List (List aD×W))(g:κ->Option (List W)):Prop where
 sub:L3.Sub M0 M
 new:M0 a=none
 at_:M a=some (.dT kvs)
 non:∀ k,g k=none->aY kvs (kk k)=none
 som:∀ k ws,g k=some ws->∃ p,aY kvs (kk k)=some (.ref p)/\p≠a/\M0 p=none/\M p=some (.lst ws)
 inj:∀ k j p,aY kvs (kk k)=some (.ref p)->aY kvs (kk j)=some (.ref p)->k=j
theorem iQ{M0 M:Mm}{p:Addr}{o:MO}(h:L3.Sub M0 M)(n:M0 p=none):L3.Sub M0 (put M p o):=fun a u e=>by
 rw[aQ (fun z=>by rw[z,n] at e;cases e)];exact h a u e
section
variable {κ:Type}[DecidableEq κ]{kk:κ->List aD}{M0 M:Mm}{a p:Addr}{kvs:List (List aD×W)}{g:κ->Option (List W)}{o:MO}{k:κ}{ws:List W}
theorem d8.lift(h:d8 kk M0 M a kvs g)(j:M p=none\/∃ u,M0 p=some u):d8 kk (put M0 p o) (put M p o) a kvs g:=by
 have ne:∀ {b:Addr},M0 b=none->(∃ u,M b=some u)->b≠p:=fun {b} l ⟨u,c⟩ e=>by
  subst e
  rcases j with z | ⟨v,z⟩
  ·rw[c] at z;cases z
  ·rw[l] at z;cases z
 refine⟨Sub.put h.sub,?_,?_,h.non,fun k ws e=>?_,h.inj⟩
 ·rw[aQ (ne h.new ⟨_,h.at_⟩)];exact h.new
 ·rw[aQ (ne h.new ⟨_,h.at_⟩)];exact h.at_
 ·obtain⟨q,c,i,d,f⟩:=h.som k ws e
  have:=ne d ⟨_,f⟩
  exact⟨q,c,i,by rw[aQ this];exact d,by rw[aQ this];exact f⟩
theorem d8.more(h:d8 kk M0 M a kvs g)(f:M p=none):d8 kk M0 (put M p o) a kvs g:=by
 have ne:∀ {b:Addr},(∃ u,M b=some u)->b≠p:=fun {b} ⟨u,c⟩ e=>by subst e;rw[f] at c;cases c
 refine⟨iQ h.sub (h.sub.non f),h.new,by rw[aQ (ne ⟨_,h.at_⟩)];exact h.at_,h.non,fun k ws e=>?_,h.inj⟩
 obtain⟨q,c,i,j,d⟩:=h.som k ws e
 exact⟨q,c,i,j,by rw[aQ (ne ⟨_,d⟩)];exact d⟩
theorem d8.has(h:d8 kk M0 M a kvs g)(e:g k=some ws):∃ p,aY kvs (kk k)=some (.ref p)/\M p=some (.lst ws):=by
 obtain⟨q,c,_,_,b⟩:=h.som k ws e
 exact⟨q,c,b⟩
theorem d8.look(h:d8 kk M0 M a kvs g)(k:κ):(aY kvs (kk k)).isSome=(g k).isSome:=by
 cases e:g k with
 | none=>rw[h.non k e];rfl
 | some ws=>obtain⟨q,b,_⟩:=h.has e;rw[b];rfl
theorem d8.wr(h:d8 kk M0 M a kvs g)(hk:aY kvs (kk k)=some (.ref p)):d8 kk M0 (put M p (.lst ws)) a kvs (fun j=>if k=j then some ws else g j):=by
 obtain⟨b,r⟩:∃ b,g k=some b:=by
  cases e:g k with
  | none=>rw[h.non k e] at hk;cases hk
  | some ws=>exact⟨_,rfl⟩
 obtain⟨q,i,d,f,s⟩:=h.som k b r
 rw[hk] at i
 cases i
 refine⟨iQ h.sub f,h.new,by rw[aQ (Ca d)];exact h.at_,fun j e=>?_,fun j us e=>?_,h.inj⟩
 ·by_cases c:k=j
  ·rw[if_pos c] at e;cases e
  ·rw[if_neg c] at e;exact h.non j e
 ·by_cases c:k=j
  ·rw[if_pos c] at e;cases e
   subst c
   exact⟨p,hk,d,f,a5⟩
  ·rw[if_neg c] at e
   obtain⟨q,l,m,o,n⟩:=h.som j us e
   refine⟨q,l,m,o,?_⟩
   rw[aQ (fun z=>c (h.inj k j p hk (by rw[<-z];exact l)))];exact n
theorem d8.add(c:∀ k j,kk k=kk j->k=j)(h:d8 kk M0 M a kvs g)(A:g k=none)(s:M p=none):d8 kk M0 (put (put M p (.lst ws)) a (.dT (b9 kvs (kk k) (.ref p)))) a (b9 kvs (kk k) (.ref p)) (fun j=>if k=j then some ws else g j):=by
 have ne:∀ {b:Addr},(∃ u,M b=some u)->b≠p:=fun {b} ⟨u,n⟩ e=>by subst e;rw[s] at n;cases n
 have r:p≠a:=Ca (ne ⟨_,h.at_⟩)
 have f:∀ j q,aY kvs (kk j)=some (.ref q)->∃ u,M q=some u:=fun j q e=>by
  cases x:g j with
  | none=>rw[h.non j x] at e;cases e
  | some us=>
   obtain⟨B,v,_,_,t⟩:=h.som j us x
   rw[e] at v;cases v
   exact⟨_,t⟩
 refine⟨iQ (iQ h.sub (h.sub.non s)) h.new,h.new,a5,fun j e=>?_,fun j us e=>?_,fun i j q l m=>?_⟩
 ·by_cases d:k=j
  ·rw[if_pos d] at e;cases e
  ·rw[if_neg d] at e
   rw[pP,if_neg (fun z=>d (c _ _ z))];exact h.non j e
 ·by_cases d:k=j
  ·rw[if_pos d] at e;cases e
   subst d
   exact⟨p,by rw[pP,if_pos rfl],r,h.sub.non s,by rw[aQ r,a5]⟩
  ·rw[if_neg d] at e
   obtain⟨q,v,w,y,t⟩:=h.som j us e
   exact⟨q,by rw[pP,if_neg (fun z=>d (c _ _ z))];exact v,w,y,by rw[aQ w,aQ (ne ⟨_,t⟩)];exact t⟩
 ·rw[pP] at l m
  by_cases n:kk k=kk i
  ·by_cases o:kk k=kk j
   ·exact(c _ _ n).symm.trans (c _ _ o)
   ·rw[if_pos n] at l;rw[if_neg o] at m;cases l
    obtain⟨u,z⟩:=f j p m;rw[s] at z;cases z
  ·by_cases o:kk k=kk j
   ·rw[if_neg n] at l;rw[if_pos o] at m;cases m
    obtain⟨u,z⟩:=f i p l;rw[s] at z;cases z
   ·rw[if_neg n] at l;rw[if_neg o] at m
    exact h.inj i j q l m
theorem d8.del(c:∀ k j,kk k=kk j->k=j)(h:d8 kk M0 M a kvs g):d8 kk M0 (put M a (.dT (jR kvs (kk k)))) a (jR kvs (kk k)) (fun j=>if k=j then none else g j):=by
 refine⟨iQ h.sub h.new,h.new,a5,fun j e=>?_,fun j us e=>?_,fun i j q d f=>?_⟩
 ·rw[uN]
  by_cases b:k=j
  ·rw[if_pos (by rw[b])]
  ·rw[if_neg b] at e
   rw[if_neg (fun z=>b (c _ _ z))];exact h.non j e
 ·by_cases b:k=j
  ·rw[if_pos b] at e;cases e
  ·rw[if_neg b] at e
   obtain⟨q,n,l,o,m⟩:=h.som j us e
   exact⟨q,by rw[uN,if_neg (fun z=>b (c _ _ z))];exact n,l,o,by rw[aQ l];exact m⟩
 ·rw[uN] at d f
  split at d
  ·cases d
  ·split at f
   ·cases f
   ·exact h.inj i j q d f
theorem d8.same{g':κ->Option (List W)}(h:d8 kk M0 M a kvs g)(e:∀ k,g' k=g k):d8 kk M0 M a kvs g':=by
 have:g'=g:=funext e
 rw[this];exact h
end
structure Cc where
 q:Addr
 s:Addr
 f:Addr
 g:Addr
def cW(c:aL):W:=.tup [.int c.1,.int c.2]
def cK(c:aL):List aD:=[Sum.inl c.1,Sum.inl c.2]
theorem zev(c:aL):cW c=.tup ((cK c).map wK):=rfl
theorem L7:∀ a b:aL,cK a=cK b->a=b:=fun a b h=>by
 unfold cK at h
 simp only[Dv,Ma,and_true] at h
 exact Kd h.1 h.2
def iC(cut:List Int):W:=.tup (cut.map W.int)
def kB(x:Nat×List Int):W:=.tup [.int x.1,iC x.2]
section
variable {α:Type}
theorem rR{κ b:Type}[DecidableEq κ]{t:List (κ×b)}{k:κ}(h:∀ e∈t,e.1≠k):aI t k=none:=by
 induction t with
 | nil=>rfl
 | cons e t c=>rw[dJ,if_neg (h e Ba)];exact c fun x a=>h x (An _ a)
theorem uO{a b:aL}(h:cL a b=true):a≠b:=fun e=>by subst e;exact rH h
theorem L8(c:aL)(x:α)(d:aL):∀ {q:List (aL×List α)},gV q->aI (dP c x q) d=if c=d then some ((aI q c).getD [] ++ [x]) else aI q d
 | [],_=>by rw[dP,dJ];rfl
 | (e,xs) :: r,h=>by
  obtain⟨_,f,g⟩:=h
  rw[dP]
  by_cases a:cL c e=true
  ·rw[if_pos a,dJ,L8 c x d g,dJ,dJ,if_neg (Ca (uO a))]
   by_cases hd:e=d
   ·rw[if_pos hd,if_pos hd,if_neg (fun z=>uO a (z.trans hd.symm))]
   ·rw[if_neg hd,if_neg hd]
  ·rw[if_neg a]
   by_cases b:e=c
   ·subst b
    rw[if_pos rfl,dJ,dJ,dJ,if_pos rfl]
    by_cases hd:e=d
    ·rw[if_pos hd,if_pos hd];rfl
    ·rw[if_neg hd,if_neg hd,if_neg hd]
   ·rw[if_neg b,dJ]
    have j:aI ((e,xs) :: r) c=none:=rR fun z hz=>by
     rcases Be.mp hz with y | y
     ·rw[y];exact b
     ·intro i
      have:=f z y
      rw[i] at this
      exact a this
    rw[j];rfl
def pos(c:aL):List aL->Nat
 | []=>0
 | d :: r=>if cL c d=true then pos c r + 1 else 0
theorem L9(c:aL):∀ cs:List aL,pos c cs<=cs.length
 | []=>Aj _
 | d :: r=>by
  rw[pos]
  split
  ·have:=L9 c r;simp;lia
  ·simp
theorem AJ(c:aL)(x:α):∀ {q:List (aL×List α)},gV q->(aI q c).isSome=false->(dP c x q).map (·.1)=(q.map (·.1)).take (pos c (q.map (·.1))) ++ c :: (q.map (·.1)).drop (pos c (q.map (·.1)))
 | [],_,_=>rfl
 | (e,xs) :: r,h,a=>by
  obtain⟨_,g,f⟩:=h
  rw[dJ] at a
  by_cases d:e=c
  ·rw[if_pos d] at a;cases a
  ·rw[if_neg d] at a
   rw[dP,Au,pos]
   by_cases b:cL c e=true
   ·rw[if_pos b,if_pos b,Au,AJ c x f a];rfl
   ·rw[if_neg b,if_neg b,if_neg d];rfl
theorem MA(c:aL)(x:α):∀ {q:List (aL×List α)},gV q->(aI q c).isSome=true->(dP c x q).map (·.1)=q.map (·.1)
 | [],_,h=>by cases h
 | (e,xs) :: r,h,d=>by
  obtain⟨_,f,j⟩:=h
  rw[dJ] at d
  rw[dP]
  by_cases a:cL c e=true
  ·rw[if_neg (Ca (uO a))] at d
   rw[if_pos a,Au,MA c x j d];rfl
  ·rw[if_neg a]
   by_cases i:e=c
   ·rw[if_pos i];rfl
   ·rw[if_neg i] at d
    obtain⟨ys,m⟩:=Gg.mp d
    have:∃ z∈r,z.1=c:=by
     have:∀ {t:List (aL×List α)},aI t c=some ys->∃ z∈t,z.1=c:=by
      intro t
      induction t with
      | nil=>intro e;cases e
      | cons b t l=>
       intro e
       rw[dJ] at e
       by_cases g:b.1=c
       ·exact⟨b,Ba,g⟩
       ·rw[if_neg g] at e
        obtain⟨z,a,f⟩:=l e
        exact⟨z,An _ a,f⟩
     exact this m
    obtain⟨z,hz,k⟩:=this
    have:=f z hz
    rw[k] at this
    exact absurd this a
theorem uP:∀ {q:List (aL×List α)},gV q->q.length<=(a7 q).length
 | [],_=>Aj _
 | (e,xs) :: r,h=>by
  obtain⟨b,_,a⟩:=h
  have:=uP a
  have:=Dg.mpr b
  rw[a7,Am,Ab,Bk];lia
theorem MB:∀ {q:List (aL×List α)} {c:aL},((aI q c).getD []).length<=(a7 q).length
 | [],_=>Aj _
 | (e,xs) :: r,c=>by
  rw[dJ,a7,Am,Ab]
  split
  ·show xs.length<=_;lia
  ·have:=MB (q:=r) (c:=c);lia
theorem MC:∀ {q a:List (aL×List α)} {c:aL} {x:α},gV q->iA q=some (c,x,a)->∃ r ys,q=r ++ [(c,ys ++ [x])]/\a=(if ys.isEmpty then r else r ++ [(c,ys)])
 | [],a,c,x,_,h=>by cases h
 | [(d,xs)],a,c,x,hf,h=>by
  obtain⟨g,_,_⟩:=hf
  rcases Fe xs with z | ⟨ys,y,z⟩
  ·exact absurd z g
  ·rw[Ff] at z
   subst z
   simp[iA] at h
   obtain⟨rfl,rfl,rfl⟩:=h
   refine⟨[],ys,rfl,?_⟩
   cases ys <;> simp
 | e :: k :: r,a,c,x,hf,h=>by
  obtain⟨_,_,b⟩:=hf
  rw[iA] at h
  split at h
  ·cases h
  ·rename_i j x1 l f
   simp only[Fu,Dk] at h
   obtain⟨rfl,rfl,rfl⟩:=h
   obtain⟨i,ys,z1,z2⟩:=MC b f
   refine⟨e :: i,ys,by rw[z1];rfl,?_⟩
   rw[z2]
   split <;> rfl
theorem uQ{κ b:Type}[DecidableEq κ]{t:List (κ×b)}{k:κ}{v:b}(h:∀ e∈t,e.1≠k)(j:κ):aI (t ++ [(k,v)]) j=if k=j then some v else aI t j:=by
 rw[zW]
 by_cases a:k=j
 ·subst a;rw[if_pos rfl,if_pos rfl,rR h];rfl
 ·rw[if_neg a,if_neg a,Option.or_none]
theorem MD:∀ {r:List (aL×List α)} {c:aL} {ys:List α},gV (r ++ [(c,ys)])->∀ e∈r,e.1≠c
 | [],_,_,_,e,h=>nomatch h
 | b :: r,c,ys,h,e,f=>by
  obtain⟨_,a,d⟩:=h
  rcases Be.mp f with z | z
  ·rw[z];exact Ca (uO (a (c,ys) (by simp)))
  ·exact MD d e z
theorem ME:∀ {q:List (aL×List α)},gV q->(q.map (·.1)).Pairwise fun a b=>cL b a=true
 | [],_=>.nil
 | (e,xs) :: r,h=>by
  obtain⟨_,c,f⟩:=h
  rw[Au,List.pairwise_cons]
  refine⟨fun a d=>?_,ME f⟩
  obtain⟨z,hz,rfl⟩:=Ao.mp d
  exact c z hz
end
theorem MF{c:aL}:∀ {cs:List aL} {k:Nat},k<=cs.length->(∀ i d,i < k->cs[i]? = some d->cL c d=true)->(∀ i d,k<=i->cs[i]? = some d->cL c d=false)->pos c cs=k
 | [],k,h,_,_=>by simp at h;subst h;rfl
 | d :: r,k,h,f,b=>by
  rw[pos]
  cases k with
  | zero=>rw[if_neg (by rw[b 0 d (Aj _) rfl];decide)]
  | succ k=>
   rw[if_pos (f 0 d (by lia) rfl),MF (k:=k) (by simpa using h) (fun i e hi a=>f (i + 1) e (by lia) (by simpa using a)) fun i e hi a=>b (i + 1) e (by lia) (by simpa using a)]
structure Aq where
 o:Addr
 d:Addr
 c:Addr
 w:Addr
def qf(A:Aq):List (Str×W):=[("costs",.ref A.c),("waiting",.ref A.w)]
theorem pQ{A:Aq}:Bz ("costs" : Str) (qf A)=some (W.ref A.c):=by kernel_rfl
theorem pR{A:Aq}:Bz ("waiting" : Str) (qf A)=some (W.ref A.w):=by kernel_rfl
theorem zew{A:Aq}:Bz ("place_of" : Str) (qf A)=none:=by kernel_rfl
theorem zex{A:Aq}:Bz ("put" : Str) (qf A)=none:=by kernel_rfl
theorem zey{A:Aq}:Bz ("take" : Str) (qf A)=none:=by kernel_rfl
theorem zez{A:Aq}:Bz ("is_done" : Str) (qf A)=none:=by kernel_rfl
structure Qm(C:Cc)(M0 M:Mm)(A:Aq)(cs:List aL):Prop where
 sub:L3.Sub M0 M
 no:M0 A.o=none
 nc:M0 A.c=none
 ne:A.o≠A.c
 ob:M A.o=some (.ins C.q A.d (qf A))
 co:M A.c=some (.lst (cs.map cW))
abbrev Qu:=List (aL×List (Nat×List Int))
abbrev wG(q:Qu):aL->Option (List W):=fun c=>(aI q c).map fun xs=>xs.map kB
structure QR(C:Cc)(M0 M:Mm)(A:Aq)(q:Qu):Prop where
 fall:gV q
 ex:∃ M1 kvs,Qm C M0 M1 A (q.map (·.1))/\d8 cK M1 M A.w kvs (wG q)/\kvs.length<=q.length
theorem Qm.lift{C:Cc}{M0 M:Mm}{A:Aq}{cs:List aL}{p:Addr}{o:MO}(h:Qm C M0 M A cs)(g:M p=none\/∃ u,M0 p=some u):Qm C (put M0 p o) (put M p o) A cs:=by
 have ne:∀ {b:Addr},M0 b=none->(∃ u,M b=some u)->b≠p:=fun {b} f ⟨u,d⟩ e=>by
  subst e
  rcases g with z | ⟨v,z⟩
  ·rw[d] at z;cases z
  ·rw[f] at z;cases z
 have a:=ne h.no ⟨_,h.ob⟩
 have c:=ne h.nc ⟨_,h.co⟩
 exact⟨Sub.put h.sub,by rw[aQ a];exact h.no,by rw[aQ c];exact h.nc,h.ne,by rw[aQ a];exact h.ob,by rw[aQ c];exact h.co⟩
theorem Qm.costs{C:Cc}{M0 M:Mm}{A:Aq}{cs cs':List aL}(h:Qm C M0 M A cs):Qm C M0 (put M A.c (.lst (cs'.map cW))) A cs':=
 ⟨iQ h.sub h.nc,h.no,h.nc,h.ne,by rw[aQ h.ne];exact h.ob,a5⟩
theorem QR.lift{C:Cc}{M0 M:Mm}{A:Aq}{q:Qu}{p:Addr}{o:MO}(h:QR C M0 M A q)(c:M p=none\/∃ u,M0 p=some u):QR C (put M0 p o) (put M p o) A q:=by
 obtain⟨e,kvs,b,a,d⟩:=h.ex
 refine⟨h.fall,put e p o,kvs,b.lift ?_,a.lift ?_,d⟩
 ·rcases c with z | z
  ·exact .inl (a.sub.non z)
  ·exact .inr z
 ·rcases c with z | ⟨u,z⟩
  ·exact .inl z
  ·exact .inr ⟨u,b.sub _ _ z⟩
theorem QR.more{C:Cc}{M0 M:Mm}{A:Aq}{q:Qu}{p:Addr}{o:MO}(h:QR C M0 M A q)(e:M p=none):QR C M0 (put M p o) A q:=by
 obtain⟨d,kvs,c,a,b⟩:=h.ex
 exact⟨h.fall,d,kvs,c,a.more e,b⟩
theorem QR.sub{C:Cc}{M0 M:Mm}{A:Aq}{q:Qu}(h:QR C M0 M A q):L3.Sub M0 M:=by
 obtain⟨d,kvs,b,a,c⟩:=h.ex
 exact b.sub.trans a.sub
theorem QR.ob{C:Cc}{M0 M:Mm}{A:Aq}{q:Qu}(h:QR C M0 M A q):M A.o=some (.ins C.q A.d (qf A)):=by
 obtain⟨e,kvs,b,a,c⟩:=h.ex
 exact a.sub _ _ b.ob
theorem QR.co{C:Cc}{M0 M:Mm}{A:Aq}{q:Qu}(h:QR C M0 M A q):M A.c=some (.lst ((q.map (·.1)).map cW)):=by
 obtain⟨e,kvs,b,a,d⟩:=h.ex
 exact a.sub _ _ b.co
def AK(C:Cc):bL:=fun ws M R=>∃ M0 a dx,ws=[.ref a]/\M=put M0 a (.ins C.q dx [])/\M0 a=none/\∀ b (A:Aq),A.o=a->QR C M0 b A []->R .non b
def AL(C:Cc):bL:=fun ws M R=>∃ M0 A q,ws=[.ref A.o]/\QR C M0 M A q/\R (.bl (decide (q=[]))) M
def AN(C:Cc):bL:=fun ws M R=>∃ (A:Aq) (cs:List aL) (c:aL),ws=[.ref A.o,cW c]/\M A.o=some (.ins C.q A.d (qf A))/\M A.c=some (.lst (cs.map cW))/\cs.Pairwise (fun a b=>cL b a=true)/\cs.length < 10000000/\R (.int (pos c cs:Nat)) M
def uR(C:Cc):bL:=fun ws M R=>∃ M0 A q c x,ws=[.ref A.o,cW c,kB x]/\QR C M0 M A q/\(a7 (dP c x q)).length < 10000000/\∀ a,QR C M0 a A (dP c x q)->R .non a
def AQ(C:Cc):bL:=fun ws M R=>∃ M0 A q c x b,ws=[.ref A.o]/\QR C M0 M A q/\iA q=some (c,x,b)/\∀ a,QR C M0 a A b->R (.tup [cW c,kB x]) a
abbrev zeA:List Str:=["self"]
def zeB(C:Cc):aH:=
   (aN (jA C.q (aA 0) "costs" (iZ aF))
   (jA C.q (aA 0) "waiting" nU))
abbrev zeC:List Str:=["self"]
def zeD(C:Cc):aH:=
   (bR (aE (rEq false) (bN cV (aB (cI C.q (aA 0) "costs") aF)) (vC (.int 0))))
abbrev zeE:List Str:=["self","cost","thing"]
def zeF(C:Cc):aH:=
   (aN (cG (bM (aE (rIn true) (aA 1) (cI C.q (aA 0) "waiting")))
    (aN (hW (iZ aF) (j6 (cI C.q (aA 0) "waiting") (aA 1)))
   (cX (dR "list" L4 (cI C.q (aA 0) "costs") (aB (fR C.q "place_of" (AN C) (aA 0) (aB (aA 1) aF)) (aB (aA 1) aF)))))
    c7)
   (cX (dR "list" fE (aE aO (cI C.q (aA 0) "waiting") (aA 1)) (aB (aA 2) aF))))
abbrev zeG:List Str:=["self","cost","low","high","middle"]
def zeH(C:Cc):aH:=
   (a9 2 (vC (.int 0)))
def zeI(C:Cc):aH:=
   (a9 3 (bN cV (aB (cI C.q (aA 0) "costs") aF)))
def zeJ(C:Cc):aH:=
   (aN (a9 4 (aE kQ (aE dS (aA 2) (aA 3)) (vC (.int 2))))
   (cG (bM (aE L0 (aE aO (cI C.q (aA 0) "costs") (aA 4)) (aA 1)))
    (a9 2 (aE dS (aA 4) (vC (.int 1))))
    (a9 3 (aA 4))))
def zeK(C:Cc):aH:=
   (tQ (bM (aE oY (aA 2) (aA 3))) (zeJ C))
def zeL(C:Cc):aH:=
   (bR (aA 2))
def zeM(C:Cc):aH:=(aN (zeH C) (aN (zeI C) (aN (zeK C) (zeL C))))
abbrev zeN:List Str:=["self","cost","things","thing"]
def zeO(C:Cc):aH:=
   (a9 1 (aE aO (cI C.q (aA 0) "costs") (j0 j4 (vC (.int 1)))))
def zeP(C:Cc):aH:=
   (a9 2 (aE aO (cI C.q (aA 0) "waiting") (aA 1)))
def zeQ(C:Cc):aH:=
   (a9 3 (nO "list" rPop (aA 2)))
def zeR(C:Cc):aH:=
   (cG (bM (aE (rEq false) (bN cV (aB (aA 2) aF)) (vC (.int 0))))
    (aN (cX (nO "list" rPop (cI C.q (aA 0) "costs")))
   (cX (dR "dict" K2 (cI C.q (aA 0) "waiting") (aB (aA 1) aF))))
    c7)
def zeS(C:Cc):aH:=
   (bR (bO (aB (aA 1) (aB (aA 3) aF))))
def zeT(C:Cc):aH:=(aN (zeO C) (aN (zeP C) (aN (zeQ C) (aN (zeR C) (zeS C)))))
theorem zeU{C:Cc}:∀ ws M R,AK C ws M R->ws.length=1:=by rintro ws M R ⟨_,_,_,rfl,_⟩;rfl
theorem zeV{C:Cc}:∀ ws M R,AL C ws M R->ws.length=1:=by rintro ws M R ⟨_,_,_,rfl,_⟩;rfl
theorem zeW{C:Cc}:∀ ws M R,AN C ws M R->ws.length=2:=by rintro ws M R ⟨_,_,_,rfl,_⟩;rfl
theorem zeX{C:Cc}:∀ ws M R,uR C ws M R->ws.length=3:=by rintro ws M R ⟨_,_,_,_,_,rfl,_⟩;rfl
theorem zeY{C:Cc}:∀ ws M R,AQ C ws M R->ws.length=1:=by rintro ws M R ⟨_,_,_,_,_,_,rfl,_⟩;rfl
theorem z1:1<=Ai:=by decide
theorem z2:2<=Ai:=by decide
theorem z3:3<=Ai:=by decide
theorem z4:4<=Ai:=by decide
theorem fF{b:Bool}{P Q:Prop}(c:b=true->P)(a:b=false->Q):if b=true then P else Q:=by cases b;exact a rfl;exact c rfl
theorem AR{w:W}{ws:List W}{M:Mm}{R:List W->(Mm->Prop)->Mm->Prop}(e:w=.rl ws)(h:R ws (fun _=>True) M):L3.jO w M R:=by rw[e];exact h
theorem rS{M:Mm}{a:Addr}{kvs:List (List aD×W)}{k:List aD}{w:W}{R:K3}(h:M a=some (.dT kvs))(hl:aY kvs k=some w)(r:R w M):L3.aO (.ref a) (.tup (k.map wK)) M R:=⟨w,.inr ⟨kvs,k,h,rfl,hl.symm⟩,r⟩
theorem kC{M:Mm}{a:Addr}{ws:List W}(h:M a=some (.lst ws)):gS "list" (.ref a) M:=.inl ⟨rfl,_,h⟩
theorem rT{M:Mm}{a:Addr}{kvs:List (List aD×W)}(h:M a=some (.dT kvs)):gS "dict" (.ref a) M:=.inr ⟨rfl,.inr ⟨_,h⟩⟩
theorem zeZ{C:Cc}{ws:List W}{M:Mm}{R:K3}(h:AL C ws M R):zeD C (bB R) (bS zeC ws) M:=by
 obtain⟨M0,A,q,rfl,a,r⟩:=h
 refine⟨_,rfl,A.o,A.d,qf A,_,rfl,a.ob,pQ,.inl ⟨_,a.co,M,Sub.refl _,?_⟩⟩
 show R (.bl (decide (((Gh cW (q.map fun x=>x.1)).length:Int)=0))) M
 have e:decide (((Gh cW (q.map fun x=>x.1)).length:Int)=0)=decide (q=[]):=by
  cases q <;> simp
  lia
 rw[e];exact r
theorem ze0{C:Cc}{ws:List W}{M:Mm}{R:K3}(h:AK C ws M R):zeB C (bB R) (bS zeA ws) M:=by
 obtain⟨M0,a,dx,rfl,rfl,m,r⟩:=h
 refine⟨De _,fun p l=>?_⟩
 have d:p≠a:=fun e=>by rw[e,a5] at l;cases l
 have i:M0 p=none:=by rw[aQ d] at l;exact l
 refine⟨_,rfl,a,dx,[],rfl,by rw[aQ (Ca d),a5],by decide,fun w hw=>?_⟩
 have c:w≠a:=fun e=>by rw[e,a5] at hw;cases hw
 have f:w≠p:=fun e=>by rw[e,aQ d,a5] at hw;cases hw
 have g:M0 w=none:=by rw[aQ c,aQ f,aQ c] at hw;exact hw
 refine⟨_,rfl,a,dx,bX "costs" (.ref p) [],rfl,by rw[aQ (Ca c),a5],(show(1:Nat) < 1000 by decide),_,Sub.refl _,r _ ⟨a,dx,p,w⟩ rfl ⟨trivial,put (put M0 p (.lst [])) a (.ins C.q dx (qf ⟨a,dx,p,w⟩)),[],⟨iQ (iQ (Sub.refl _) i) m,m,i,Ca d,a5,by rw[aQ d,a5];rfl⟩,?_,Aj _⟩⟩
 have e:put (put (put (put (put M0 a (.ins C.q dx [])) p (.lst [])) a (.ins C.q dx (bX "costs" (.ref p) []))) w (.dT [])) a (.ins C.q dx (bX "waiting" (.ref w) (bX "costs" (.ref p) [])))=put (put (put M0 p (.lst [])) a (.ins C.q dx (qf ⟨a,dx,p,w⟩))) w (.dT []):=by
  have eq:bX "waiting" (.ref w) (bX "costs" (.ref p) [])=qf ⟨a,dx,p,w⟩:=by
   show(if (("costs" : Str)=("waiting" : Str)) then _ else _)=_
   rw[if_neg (by decide +kernel)];rfl
  rw[eq]
  funext b
  unfold put
  by_cases s:b=a <;> by_cases n:b=w <;> by_cases o:b=p <;> simp_all
 rw[e]
 exact⟨iQ (Sub.refl _) (by rw[aQ c,aQ f];exact g),by rw[aQ c,aQ f];exact g,a5,(fun _ _=>rfl),(fun k ws e=>nomatch e),(fun k j p e=>nomatch e)⟩
theorem ze1{C:Cc}{ws:List W}{M:Mm}{R:K3}(h:AN C ws M R):zeM C (bB R) (bS zeG ws) M:=by
 obtain⟨A,cs,c,rfl,B,hc,E,hl,r⟩:=h
 refine⟨_,rfl,A.o,A.d,qf A,_,rfl,B,pQ,.inl ⟨_,hc,?_⟩⟩
 refine⟨fun m v y=>∃ lo hi:Nat,∃ o,v=[some (.ref A.o),some (cW c),some (.int lo),some (.int hi),o]/\y=M/\lo<=hi/\hi<=cs.length/\(∀ i d,i < lo->cs[i]? = some d->cL c d=true)/\(∀ i d,hi<=i->cs[i]? = some d->cL c d=false)/\m=hi - lo,⟨_,0,cs.length,none,by rw[Ab];rfl,rfl,De _,Aj _,(fun i d hi=>absurd hi (Nat.not_lt_zero _)),(fun i d hi e=>by rw[List.getElem?_eq_none hi] at e;cases e),rfl⟩,?_⟩
 rintro m v y ⟨lo,hi,o,rfl,rfl,N,x,z,w,rfl⟩
 refine⟨_,rfl,_,rfl,_,rfl,fF (fun q=>?_) fun q=>?_⟩
 ·have u:=of_decide_eq_true q
  refine⟨_,rfl,_,rfl,⟨by decide,by decide⟩,?_⟩
  obtain⟨f,L⟩:∃ f,f=(lo + hi) / 2:=⟨_,rfl⟩
  have H:((lo:Int) + (hi:Int)) / 2=(f:Nat):=by lia
  dsimp only
  rw[H]
  obtain⟨d,hd⟩:∃ d,cs[f]? = some d:=⟨_,Bp (by lia)⟩
  refine⟨_,rfl,A.o,A.d,qf A,_,rfl,B,pQ,_,rfl,.inl ⟨_,cW d,hc,iW (by rw[Aw,hd];rfl),_,rfl,d.1,d.2,c.1,c.2,rfl,rfl,_,rfl,?_⟩⟩
  have pg:∀ i j a b,i < j->cs[i]? = some a->cs[j]? = some b->cL b a=true:=fun i j a b t p s=>by
   obtain⟨D,I⟩:=Ak.mp p
   obtain⟨F,G⟩:=Ak.mp s
   rw[<-I,<-G]
   exact List.pairwise_iff_getElem.mp E i j D F t
  show if cL c d=true then _ else _
  by_cases g:cL c d=true
  ·rw[if_pos g]
   refine⟨_,rfl,_,_,?_,Sub.refl _,f + 1,hi,_,rfl,rfl,by lia,x,fun i e p l=>?_,w,rfl⟩
   ·lia
   ·by_cases n:i < f
    ·exact rJ g (Le.of_lt (pg i f e d n l hd))
    ·have:i=f:=by lia
     rw[this,hd] at l;cases l;exact g
  ·rw[if_neg g]
   refine⟨_,rfl,_,_,?_,Sub.refl _,lo,f,_,rfl,rfl,by lia,by lia,z,fun i e p l=>?_,rfl⟩
   ·lia
   ·by_cases n:f < i
    ·have K:=pg f i d e n hd l
     cases J:cL c e with
     | false=>rfl
     | true=>exact absurd (rJ J (Le.of_lt K)) g
    ·have:i=f:=by lia
     rw[this,hd] at l;cases l
     simpa using g
 ·have u:=of_decide_eq_false q
  have:lo=hi:=by lia
  subst this
  refine⟨_,rfl,_,Sub.refl _,?_⟩
  rw[<-MF (c:=c) (cs:=cs) (k:=lo) x z w];exact r
theorem ze2{C:Cc}{ws:List W}{M:Mm}{R:K3}(h:uR C ws M R):zeF C (bB R) (bS zeE ws) M:=by
 obtain⟨M0,A,q,c,x,rfl,v,hl,r⟩:=h
 have J:=uD c x q
 have hf:=v.fall
 have I:=uP hf
 have u:=MB (q:=q) (c:=c)
 have z:=zX c x hf
 obtain⟨H,kvs,l,m,G⟩:=v.ex
 refine⟨_,rfl,_,rfl,A.o,A.d,qf A,_,rfl,v.ob,pR,.inr ⟨_,.inr ⟨kvs,cK c,m.at_,zev c,rfl⟩,_,rfl,?_⟩⟩
 rw[m.look c]
 have i:∀ j,wG (dP c x q) j=if c=j then some (((aI q c).getD []).map kB ++ [kB x]) else wG q j:=fun j=>by
  show(aI (dP c x q) j).map _=_
  rw[L8 c x j hf]
  by_cases g:c=j
  ·rw[if_pos g,if_pos g,Lg,Bi];rfl
  ·rw[if_neg g,if_neg g]
 cases s:aI q c with
 | some xs=>
  have b:wG q c=some (xs.map kB):=by show(aI q c).map _=_;rw[s];rfl
  rw[b]
  rw[s] at u i
  have u:xs.length<=(a7 q).length:=u
  refine fF (fun h=>nomatch (show false=true from h)) fun _=>?_
  obtain⟨p,a,f⟩:=m.has b
  have n:=MA c x hf (by rw[s];rfl)
  refine⟨_,rfl,A.o,A.d,qf A,_,rfl,v.ob,pR,_,rfl,rS m.at_ a ⟨kC f,_,rfl,_,f,gK (by rw[Ab];lia),_,Sub.refl _,r _ ⟨z,H,kvs,?_,(m.wr a).same i,?_⟩⟩⟩
  ·rw[n];exact l
  ·have:=congrArg Bg n
   rw[Ab,Ab] at this
   rw[this];exact G
 | none=>
  have b:wG q c=none:=by show(aI q c).map _=_;rw[s];rfl
  rw[b]
  rw[s] at i
  refine fF (fun _=>⟨De _,fun p y=>?_⟩) fun h=>nomatch (show true=false from h)
  have t:=m.add L7 (ws:=[]) b y
  have D:A.o≠p:=fun e=>by rw[<-e,v.ob] at y;cases y
  have w:((q.map (·.1)).map cW).length=q.length:=by rw[Ab,Ab]
  have E:=L9 c (q.map (·.1))
  rw[Ab] at E
  refine⟨_,rfl,A.o,A.d,qf A,_,rfl,by rw[aQ D];exact v.ob,pR,_,rfl,yL (k:=cK c) (kvs:=kvs) (by rw[aQ (fun e=>by rw[<-e,m.at_] at y;cases y)];exact m.at_) (gK (by lia)) ?_⟩
  refine⟨_,rfl,A.o,A.d,qf A,_,rfl,t.sub _ _ l.ob,pQ,kC (t.sub _ _ l.co),?_⟩
  have B:=t.lift (p:=A.c) (o:=.lst ((((q.map (·.1)).take (pos c (q.map (·.1))) ++ c :: (q.map (·.1)).drop (pos c (q.map (·.1)))).map cW))) (.inr ⟨_,l.co⟩)
  have F:=l.costs (cs':=(q.map (·.1)).take (pos c (q.map (·.1))) ++ c :: (q.map (·.1)).drop (pos c (q.map (·.1))))
  refine⟨_,rfl,A.o,A.d,qf A,rfl,t.sub _ _ l.ob,zew,_,rfl,A,q.map (·.1),c,rfl,t.sub _ _ l.ob,t.sub _ _ l.co,ME hf,by rw[Ab];lia,_,rfl,_,t.sub _ _ l.co,gK (by rw[w];lia),by lia,by rw[w];lia,?_⟩
  have K:((q.map (·.1)).map cW).take (Iq (pos c (q.map (·.1)):Nat)) ++ cW c :: ((q.map (·.1)).map cW).drop (Iq (pos c (q.map (·.1)):Nat))=(((q.map (·.1)).take (pos c (q.map (·.1))) ++ c :: (q.map (·.1)).drop (pos c (q.map (·.1)))).map cW):=by
   rw[Du,Bi,Au,List.map_take,List.map_drop]
  rw[K]
  obtain⟨N,a,f⟩:=B.has (k:=c) (ws:=[]) (by rw[if_pos rfl])
  refine⟨_,rfl,A.o,A.d,qf A,_,rfl,B.sub _ _ F.ob,pR,_,rfl,rS B.at_ a ⟨kC f,_,rfl,_,f,gK (by simp),_,Sub.refl _,r _ ⟨z,_,_,?_,(B.wr a).same (fun j=>?_),?_⟩⟩⟩
  ·rw[AJ c x hf (by rw[s];rfl)];exact F
  ·rw[i j]
   by_cases g:c=j
   ·rw[if_pos g,if_pos g];rfl
   ·rw[if_neg g,if_neg g,if_neg g]
  ·have L:=congrArg Bg (AJ c x hf (by rw[s];rfl))
   have O:=AI kvs (cK c) (W.ref p)
   rw[Ab,Am,Bk,Cw,Ft,Ab] at L
   lia
theorem ze3{C:Cc}{ws:List W}{M:Mm}{R:K3}(h:AQ C ws M R):zeT C (bB R) (bS zeN ws) M:=by
 obtain⟨M0,A,q,c,x,E,rfl,t,ht,r⟩:=h
 have hf:=t.fall
 have ⟨_,_,_,e0,hf',_,_,_,_⟩:=nY hf (fun e=>by rw[e] at ht;cases ht)
 rw[ht] at e0
 cases e0
 obtain⟨F,kvs,u,B,z⟩:=t.ex
 obtain⟨n,ys,f,l⟩:=MC hf ht
 have a:∀ e∈n,e.1≠c:=by rw[f] at hf;exact MD hf
 have w:wG q c=some (ys.map kB ++ [kB x]):=by
  show(aI q c).map _=_
  rw[f,uQ a,if_pos rfl,Lg,Bi];rfl
 obtain⟨p,g,m⟩:=B.has w
 have hc:M A.c=some (.lst (((n.map (·.1)).map cW) ++ [cW c])):=by rw[t.co,f];simp
 refine⟨_,rfl,A.o,A.d,qf A,_,rfl,t.ob,pQ,.inl ⟨_,_,hc,F9 _ _,_,rfl,A.o,A.d,qf A,_,rfl,t.ob,pR,_,rfl,rS B.at_ g ⟨_,rfl,kC m,⟨_,_,m,_,rfl,.inl ⟨_,a5,_,rfl,?_⟩⟩⟩⟩⟩
 have s:=B.wr (ws:=ys.map kB) g
 cases ys with
 | nil=>
  refine fF (fun _=>?_) fun h=>nomatch (show true=false from h)
  have i:F A.c=some (.lst (((n.map (·.1)).map cW) ++ [cW c])):=by rw[u.co,f];simp
  have D:=u.costs (cs':=n.map (·.1))
  have v:=s.lift (p:=A.c) (o:=.lst ((n.map (·.1)).map cW)) (.inr ⟨_,i⟩)
  have G:=v.del (k:=c) L7
  refine⟨_,rfl,A.o,A.d,qf A,_,rfl,s.sub _ _ u.ob,pQ,kC (s.sub _ _ i),_,_,s.sub _ _ i,_,rfl,A.o,A.d,qf A,_,rfl,v.sub _ _ D.ob,pR,rT v.at_,_,rfl,_,cK c,_,v.at_,rfl,g,?_⟩
  refine⟨_,rfl,_,rfl,z2,_,Sub.refl _,r _ ⟨hf',_,_,?_,G.same (fun j=>?_),?_⟩⟩
  ·rw[l];exact D
  ·show(aI E j).map _=_
   rw[l,if_pos (by rfl:([]:List (Nat×List Int)).isEmpty=true)]
   by_cases b:c=j
   ·subst b;rw[if_pos rfl,rR a];rfl
   ·rw[if_neg b,if_neg b]
    show _=(aI q j).map _
    rw[f,uQ a,if_neg b]
  ·have H:=L6 (kvs:=kvs) (k:=cK c) (by rw[g];rfl)
   rw[f,Am,Bn] at z
   rw[l,if_pos (by rfl:([]:List (Nat×List Int)).isEmpty=true)];lia
 | cons y ys=>
  refine fF (fun h=>?_) fun _=>?_
  ·have h:=of_decide_eq_true (show decide (((Gh kB (y :: ys)).length:Int)=0)=true from h)
   rw[Au,Bk] at h
   lia
  refine⟨_,rfl,_,rfl,z2,_,Sub.refl _,r _ ⟨hf',_,_,?_,s.same (fun j=>?_),?_⟩⟩
  ·rw[l,if_neg (by simp)];rw[f] at u;simpa using u
  ·show(aI E j).map _=_
   rw[l,if_neg (by simp),uQ a]
   by_cases b:c=j
   ·rw[if_pos b,if_pos b];rfl
   ·rw[if_neg b,if_neg b]
    show _=(aI q j).map _
    rw[f,uQ a,if_neg b]
  ·rw[f] at z;rw[l,if_neg (by simp)];simpa using z
def eK(k:Str×Int):List aD:=[Sum.inr k.1,Sum.inl k.2]
def jV(z:Int×aL):W:=.tup [.int z.1,cW z.2]
def jW(y:bQ):W:=.tup [.int y.1,iC y.2.1,cW y.2.2]
def lA(k:K4):List aD:=[Sum.inl k.1,Sum.inl k.2.1,Sum.inl k.2.2.1,Sum.inl k.2.2.2]
def fK(f:iO):List aD:=[Sum.inr f.1,Sum.inl f.2.1,Sum.inl f.2.2]
def iR(e:aL×Nat×List Int):W:=.tup [cW e.1,.int e.2.1,iC e.2.2]
theorem MG:∀ a b:Str×Int,eK a=eK b->a=b:=fun a b h=>by
 unfold eK at h
 simp only[Dv,Ma,Sum.inr.injEq,and_true] at h
 exact Kd h.1 h.2
theorem uS:∀ a b:K4,lA a=lA b->a=b:=fun a b h=>by
 unfold lA at h
 simp only[Dv,Ma,and_true,Int.natCast_inj] at h
 obtain⟨j,k,l,i⟩:=a
 obtain⟨o,g,n,m⟩:=b
 simp only at h
 obtain⟨e,f,c,d⟩:=h
 rw[e,f,c,d]
theorem uU:∀ a b:iO,fK a=fK b->a=b:=fun a b h=>by
 unfold fK at h
 simp only[Dv,Ma,Sum.inr.injEq,and_true] at h
 obtain⟨g,i,j⟩:=a
 obtain⟨l,f,k⟩:=b
 simp only at h
 obtain⟨d,e,c⟩:=h
 rw[d,e,c]
section
variable {κ β:Type}[DecidableEq κ]{kk:κ->List aD}{f:β->W}
abbrev e9(kk:κ->List aD)(f:β->W)(t:List (κ×β)):List (List aD×W):=t.map fun e=>(kk e.1,f e.2)
theorem pT(c:∀ a b,kk a=kk b->a=b)(t:List (κ×β))(k:κ):aY (e9 kk f t) (kk k)=(aI t k).map f:=by
 induction t with
 | nil=>rfl
 | cons e t d=>
  show aY ((kk e.1,f e.2) :: e9 kk f t) (kk k)=_
  rw[n9,dJ,d]
  by_cases h:e.1=k
  ·rw[if_pos (by rw[h]),if_pos h];rfl
  ·rw[if_neg (fun z=>h (c _ _ z)),if_neg h]
theorem MH(c:∀ a b,kk a=kk b->a=b)(t:List (κ×β))(k:κ)(v:β):b9 (e9 kk f t) (kk k) (f v)=e9 kk f (cY t k v):=by
 unfold b9 cY
 rw[show((e9 kk f t).any fun d=>decide (d.1=kk k))=(aY (e9 kk f t) (kk k)).isSome from m8 _ _,pT c,m8]
 cases aI t k with
 | none=>simp
 | some w=>
  simp only[Lg,Option.isSome_some,if_true,Bx]
  apply Jv
  intro e _
  simp only[Jh]
  by_cases h:e.1=k
  ·rw[if_pos (by rw[h]),if_pos h]
  ·rw[if_neg (fun z=>h (c _ _ z)),if_neg h]
end
structure Env where
 rs:List aG
 own:List (aD×W)
 stp:List (List aD×W)
structure Ad where
 s:Addr
 d:Addr
 Q:Aq
 r:Addr
 b:Addr
 e:Addr
 g:Addr
def sf(E:Env)(A:Ad):List (Str×W):=[("grammar",(cE E.rs)),("own",(.dk E.own)),("steps",(.dt E.stp)),("queue",(.ref A.Q.o)),("reached",(.ref A.r)),("best",(.ref A.b)),("ends",(.ref A.e)),("begun",(.ref A.g))]
theorem MI{E:Env}{A:Ad}:Bz ("grammar" : Str) (sf E A)=some (cE E.rs):=by kernel_rfl
theorem ze4{E:Env}{A:Ad}:Bz ("own" : Str) (sf E A)=some (W.dk E.own):=by kernel_rfl
theorem ze5{E:Env}{A:Ad}:Bz ("steps" : Str) (sf E A)=some (W.dt E.stp):=by kernel_rfl
theorem AU{E:Env}{A:Ad}:Bz ("queue" : Str) (sf E A)=some (W.ref A.Q.o):=by kernel_rfl
theorem uV{E:Env}{A:Ad}:Bz ("reached" : Str) (sf E A)=some (W.ref A.r):=by kernel_rfl
theorem AW{E:Env}{A:Ad}:Bz ("best" : Str) (sf E A)=some (W.ref A.b):=by kernel_rfl
theorem MJ{E:Env}{A:Ad}:Bz ("ends" : Str) (sf E A)=some (W.ref A.e):=by kernel_rfl
theorem MK{E:Env}{A:Ad}:Bz ("begun" : Str) (sf E A)=some (W.ref A.g):=by kernel_rfl
theorem uW{E:Env}{A:Ad}:Bz ("reach" : Str) (sf E A)=none:=by kernel_rfl
theorem ze6{E:Env}{A:Ad}:Bz ("take_next" : Str) (sf E A)=none:=by kernel_rfl
theorem ze7{E:Env}{A:Ad}:Bz ("step_by_name" : Str) (sf E A)=none:=by kernel_rfl
theorem ze8{E:Env}{A:Ad}:Bz ("settle" : Str) (sf E A)=none:=by kernel_rfl
structure Mn(C:Cc)(E:Env)(M0 M:Mm)(A:Ad)(rc:List (K4×aL))(bs:d7):Prop where
 sub:L3.Sub M0 M
 ns:M0 A.s=none
 nr:M0 A.r=none
 nb:M0 A.b=none
 sr:A.s≠A.r
 sb:A.s≠A.b
 rb:A.r≠A.b
 os:M A.s=some (.ins C.s A.d (sf E A))
 or:M A.r=some (.dT (e9 lA cW rc))
 ob:M A.b=some (.dT (e9 fK iR bs))
abbrev eG(t:List ((Str×Int)×List (Int×aL))):Str×Int->Option (List W):=fun k=>(aI t k).map fun xs=>xs.map jV
abbrev gG(t:List ((Str×Int)×List bQ)):Str×Int->Option (List W):=fun k=>(aI t k).map fun xs=>xs.map jW
def Kept(M:Mm):Option (Addr×List W)->Prop
 | none=>True
 | some x=>M x.1=some (.lst x.2)
structure SK(C:Cc)(E:Env)(M0 M:Mm)(A:Ad)(st:SS)(kp:Option (Addr×List W)):Prop where
 ex:∃ M1 M2 M3 e g,Mn C E M0 M1 A st.reached st.best/\d8 eK M1 M2 A.e e (eG st.ends)/\d8 eK M2 M3 A.g g (gG st.begun)/\QR C M3 M A.Q st.q/\e.length<=st.ends.length/\g.length<=st.begun.length/\Kept M3 kp
abbrev SR(C:Cc)(E:Env)(M0 M:Mm)(A:Ad)(st:SS):Prop:=SK C E M0 M A st none
section
variable {C:Cc}{E:Env}{M0 M:Mm}{A:Ad}{st:SS}{kp:Option (Addr×List W)}
theorem SK.os(h:SK C E M0 M A st kp):M A.s=some (.ins C.s A.d (sf E A)):=by
 obtain⟨k,i,j,e,g,c,f,a,b,_⟩:=h.ex
 exact b.sub _ _ (a.sub _ _ (f.sub _ _ c.os))
theorem SK.or(h:SK C E M0 M A st kp):M A.r=some (.dT (e9 lA cW st.reached)):=by
 obtain⟨j,f,i,e,g,c,d,a,b,_⟩:=h.ex
 exact b.sub _ _ (a.sub _ _ (d.sub _ _ c.or))
theorem SK.ob(h:SK C E M0 M A st kp):M A.b=some (.dT (e9 fK iR st.best)):=by
 obtain⟨k,i,j,e,g,d,f,a,c,_⟩:=h.ex
 exact c.sub _ _ (a.sub _ _ (f.sub _ _ d.ob))
theorem SK.fall(h:SK C E M0 M A st kp):gV st.q:=by
 obtain⟨d,b,c,e,g,i,j,f,a,_⟩:=h.ex
 exact a.fall
theorem SK.free(h:SK C E M0 M A st kp):SR C E M0 M A st:=by
 obtain⟨c,a,b,e,g,j,k,d,f,l,i,_⟩:=h.ex
 exact⟨c,a,b,e,g,j,k,d,f,l,i,trivial⟩
theorem SK.kept{p:Addr}{ws:List W}(h:SK C E M0 M A st (some (p,ws))):M p=some (.lst ws):=by
 obtain⟨f,c,d,e,g,k,l,i,b,m,j,a⟩:=h.ex
 exact b.sub _ _ a
theorem Mn.rput{b:Mm}{c:List (K4×aL)}{bs:d7}(h:Mn C E M0 b A c bs)(a:List (K4×aL)):Mn C E M0 (put b A.r (.dT (e9 lA cW a))) A a bs:=
 ⟨iQ h.sub h.nr,h.ns,h.nr,h.nb,h.sr,h.sb,h.rb,by rw[aQ h.sr];exact h.os,a5,by rw[aQ (Ca h.rb)];exact h.ob⟩
theorem Mn.bput{c:Mm}{d:List (K4×aL)}{bs:d7}(h:Mn C E M0 c A d bs)(a:d7):Mn C E M0 (put c A.b (.dT (e9 fK iR a))) A d a:=
 ⟨iQ h.sub h.nb,h.ns,h.nr,h.nb,h.sr,h.sb,h.rb,by rw[aQ h.sb];exact h.os,by rw[aQ h.rb];exact h.or,a5⟩
theorem SK.rput(h:SK C E M0 M A st kp)(a:List (K4×aL)):SK C E M0 (put M A.r (.dT (e9 lA cW a))) A {st with reached:=a} kp:=by
 obtain⟨p,o,f,e,g,c,k,i,l,n,m,b⟩:=h.ex
 have j:=k.sub _ _ c.or
 have d:=i.sub _ _ j
 refine⟨_,_,_,e,g,c.rput a,k.lift (.inr ⟨_,c.or⟩),i.lift (.inr ⟨_,j⟩),l.lift (.inr ⟨_,d⟩),n,m,?_⟩
 cases kp with
 | none=>trivial
 | some x=>
  have b:f x.1=some (.lst x.2):=b
  show put f A.r _ x.1=some (.lst x.2)
  rw[aQ (fun z=>by rw[z,d] at b;cases b)];exact b
theorem SK.bput(h:SR C E M0 M A st)(a:d7):SR C E M0 (put M A.b (.dT (e9 fK iR a))) A {st with best:=a}:=by
 obtain⟨q,n,o,e,g,c,i,d,k,m,l,p⟩:=h.ex
 have f:=i.sub _ _ c.ob
 have j:=d.sub _ _ f
 exact⟨_,_,_,e,g,c.bput a,i.lift (.inr ⟨_,c.ob⟩),d.lift (.inr ⟨_,f⟩),k.lift (.inr ⟨_,j⟩),m,l,trivial⟩
theorem SK.que(h:SK C E M0 M A st kp):∃ a,QR C a M A.Q st.q/\∀ c b,QR C a c A.Q b->SK C E M0 c A {st with q:=b} kp:=by
 obtain⟨j,d,a,e,g,f,o,k,l,p,m,i⟩:=h.ex
 exact⟨a,l,fun c b n=>⟨j,d,a,e,g,f,o,k,n,p,m,i⟩⟩
theorem ML{κ β:Type}[DecidableEq κ]{t:List (κ×β)}{k:κ}{v:β}(h:(aI t k).isSome=true):(cY t k v).length=t.length:=by
 unfold cY
 rw[m8,if_pos h,Ab]
theorem rV{κ β:Type}[DecidableEq κ]{t:List (κ×β)}{k:κ}{v:β}(h:aI t k=none):cY t k v=t ++ [(k,v)]:=by
 unfold cY
 rw[m8,h,if_neg (by simp)]
theorem uX{a:Type}(f:a->W)(t:List ((Str×Int)×List a))(k:Str×Int)(z:a)(j:Str×Int):((aI (eR t k z) j).map fun xs=>xs.map f)=if k=j then some (((aI t k).getD []).map f ++ [f z]) else(aI t j).map fun xs=>xs.map f:=by
 unfold eR
 rw[jB]
 by_cases h:k=j
 ·rw[if_pos h,if_pos h,Lg,Bi];rfl
 ·rw[if_neg h,if_neg h]
theorem SK.epush(h:SR C E M0 M A st){k:Str×Int}{z:Int×aL}{R:K3}(U:st.ends.length < 10000000)(hl:((aI st.ends k).getD []).length < 10000000)(r:∀ F,SR C E M0 F A {st with ends:=eR st.ends k z}->R .non F) :
  ∃ kvs,M A.e=some (.dT kvs)/\kvs.length < Ai/\∀ p,M p=none->put M p (.lst []) A.e=some (.dT kvs)/\(∀ w,aY kvs (eK k)=some w->gS "list" w (put M p (.lst []))/\fE w [jV z] (put M p (.lst [])) R)/\
   (aY kvs (eK k)=none->gS "list" (.ref p) (put (put M p (.lst [])) A.e (.dT (b9 kvs (eK k) (.ref p))))/\fE (.ref p) [jV z] (put (put M p (.lst [])) A.e (.dT (b9 kvs (eK k) (.ref p)))) R):=by
 obtain⟨Q,L,S,e,g,H,b,l,x,O,G,T⟩:=h.ex
 have v:M A.e=some (.dT e):=x.sub _ _ (l.sub _ _ b.at_)
 refine⟨e,v,gK (by lia),fun p d=>⟨by rw[aQ (fun z=>by rw[<-z,v] at d;cases d)];exact v,fun w hw=>?_,fun hw=>?_⟩⟩
 ·obtain⟨xs,c⟩:∃ xs,aI st.ends k=some xs:=by
   cases q:aI st.ends k with
   | none=>have:=b.non k (by show(aI _ _).map _=_;rw[q];rfl);rw[hw] at this;cases this
   | some xs=>exact⟨_,rfl⟩
  have i:eG st.ends k=some (xs.map jV):=by show(aI _ _).map _=_;rw[c];rfl
  obtain⟨J,a,n⟩:=b.has i
  rw[hw] at a;cases a
  have t:=l.sub _ _ n
  have s:=x.more (o:=.lst []) d
  have u:=s.sub _ _ t
  rw[c] at hl
  refine⟨kC u,_,u,gK (by rw[Ab];exact hl),r _ ⟨_,_,_,e,g,H,(b.wr (ws:=xs.map jV ++ [jV z]) hw).same fun j=>?_,l.lift (.inr ⟨_,n⟩),s.lift (.inr ⟨_,t⟩),?_,G,trivial⟩⟩
  ·refine(uX _ _ k z j).trans ?_;rw[c];rfl
  ·show _<=(cY _ _ _).length
   rw[ML (by rw[c];rfl)];exact O
 ·have c:aI st.ends k=none:=by
   cases q:aI st.ends k with
   | none=>rfl
   | some xs=>obtain⟨J,a,_⟩:=b.has (k:=k) (ws:=xs.map jV) (by show(aI _ _).map _=_;rw[q];rfl);rw[hw] at a;cases a
  have i:eG st.ends k=none:=by show(aI _ _).map _=_;rw[c];rfl
  have y:=x.sub.non d
  have K:=l.sub.non y
  have N:=b.add MG (ws:=[]) i K
  have f:p≠A.e:=fun z=>by rw[z,v] at d;cases d
  have B:=(l.lift (o:=.lst []) (.inl y)).lift (p:=A.e) (o:=.dT (b9 e (eK k) (.ref p))) (.inr ⟨.dT e,by rw[aQ (Ca f)];exact b.at_⟩)
  have I:=(x.lift (o:=.lst []) (.inl d)).lift (p:=A.e) (o:=.dT (b9 e (eK k) (.ref p))) (.inr ⟨.dT e,by rw[aQ (Ca f)];exact l.sub _ _ b.at_⟩)
  have P:aY (b9 e (eK k) (.ref p)) (eK k)=some (.ref p):=by rw[pP,if_pos rfl]
  have D:put (put L p (.lst [])) A.e (.dT (b9 e (eK k) (.ref p))) p=some (.lst []):=by rw[aQ f,a5]
  have t:=B.sub _ _ D
  have u:=I.sub _ _ t
  refine⟨kC u,_,u,gK (by simp),r _ ⟨_,_,_,_,g,H,(N.wr (ws:=[jV z]) P).same fun j=>?_,B.lift (.inr ⟨_,D⟩),I.lift (.inr ⟨_,t⟩),?_,G,trivial⟩⟩
  ·refine(uX _ _ k z j).trans ?_
   rw[c]
   by_cases m:k=j
   ·rw[if_pos m,if_pos m];rfl
   ·rw[if_neg m,if_neg m,if_neg m]
  ·show _<=(cY _ _ _).length
   rw[rV c,Am,Bn]
   have:=AI e (eK k) (W.ref p)
   lia
theorem SK.gpush(h:SR C E M0 M A st){k:Str×Int}{z:bQ}{R:K3}(Q:st.begun.length < 10000000)(hl:((aI st.begun k).getD []).length < 10000000)(r:∀ y,SR C E M0 y A {st with begun:=eR st.begun k z}->R .non y) :
  ∃ kvs,M A.g=some (.dT kvs)/\kvs.length < Ai/\∀ p,M p=none->put M p (.lst []) A.g=some (.dT kvs)/\(∀ w,aY kvs (eK k)=some w->gS "list" w (put M p (.lst []))/\fE w [jW z] (put M p (.lst [])) R)/\
   (aY kvs (eK k)=none->gS "list" (.ref p) (put (put M p (.lst [])) A.g (.dT (b9 kvs (eK k) (.ref p))))/\fE (.ref p) [jW z] (put (put M p (.lst [])) A.g (.dT (b9 kvs (eK k) (.ref p)))) R):=by
 obtain⟨N,O,I,e,g,D,v,d,u,B,K,P⟩:=h.ex
 have t:M A.g=some (.dT g):=u.sub _ _ d.at_
 refine⟨g,t,gK (by lia),fun p c=>⟨by rw[aQ (fun z=>by rw[<-z,t] at c;cases c)];exact t,fun w hw=>?_,fun hw=>?_⟩⟩
 ·obtain⟨xs,b⟩:∃ xs,aI st.begun k=some xs:=by
   cases q:aI st.begun k with
   | none=>have:=d.non k (by show(aI _ _).map _=_;rw[q];rfl);rw[hw] at this;cases this
   | some xs=>exact⟨_,rfl⟩
  have f:gG st.begun k=some (xs.map jW):=by show(aI _ _).map _=_;rw[b];rfl
  obtain⟨G,a,l⟩:=d.has f
  rw[hw] at a;cases a
  have n:=u.more (o:=.lst []) c
  have s:=n.sub _ _ l
  rw[b] at hl
  refine⟨kC s,_,s,gK (by rw[Ab];exact hl),r _ ⟨_,_,_,e,g,D,v,(d.wr (ws:=xs.map jW ++ [jW z]) hw).same fun j=>?_,n.lift (.inr ⟨_,l⟩),B,?_,trivial⟩⟩
  ·refine(uX _ _ k z j).trans ?_;rw[b];rfl
  ·show _<=(cY _ _ _).length
   rw[ML (by rw[b];rfl)];exact K
 ·have b:aI st.begun k=none:=by
   cases q:aI st.begun k with
   | none=>rfl
   | some xs=>obtain⟨G,a,_⟩:=d.has (k:=k) (ws:=xs.map jW) (by show(aI _ _).map _=_;rw[q];rfl);rw[hw] at a;cases a
  have f:gG st.begun k=none:=by show(aI _ _).map _=_;rw[b];rfl
  have H:=u.sub.non c
  have J:=d.add MG (ws:=[]) f H
  have m:p≠A.g:=fun z=>by rw[z,t] at c;cases c
  have F:=(u.lift (o:=.lst []) (.inl c)).lift (p:=A.g) (o:=.dT (b9 g (eK k) (.ref p))) (.inr ⟨.dT g,by rw[aQ (Ca m)];exact d.at_⟩)
  have L:aY (b9 g (eK k) (.ref p)) (eK k)=some (.ref p):=by rw[pP,if_pos rfl]
  have x:put (put I p (.lst [])) A.g (.dT (b9 g (eK k) (.ref p))) p=some (.lst []):=by rw[aQ m,a5]
  have s:=F.sub _ _ x
  refine⟨kC s,_,s,gK (by simp),r _ ⟨_,_,_,e,_,D,v,(J.wr (ws:=[jW z]) L).same fun j=>?_,F.lift (.inr ⟨_,x⟩),B,?_,trivial⟩⟩
  ·refine(uX _ _ k z j).trans ?_
   rw[b]
   by_cases i:k=j
   ·rw[if_pos i,if_pos i];rfl
   ·rw[if_neg i,if_neg i,if_neg i]
  ·show _<=(cY _ _ _).length
   rw[rV b,Am,Bn]
   have:=AI g (eK k) (W.ref p)
   lia
theorem SK.ends_at(h:SR C E M0 M A st)(k:Str×Int):∃ kvs,M A.e=some (.dT kvs)/\((aY kvs (eK k)=none/\aI st.ends k=none)\/∃ p xs,aY kvs (eK k)=some (.ref p)/\aI st.ends k=some xs/\SK C E M0 M A st (some (p,xs.map jV))):=by
 obtain⟨l,i,j,e,g,n,a,b,f,o,m,r⟩:=h.ex
 refine⟨e,f.sub _ _ (b.sub _ _ a.at_),?_⟩
 cases q:aI st.ends k with
 | none=>exact .inl ⟨a.non k (by show(aI _ _).map _=_;rw[q];rfl),rfl⟩
 | some xs=>
  obtain⟨p,d,c⟩:=a.has (k:=k) (ws:=xs.map jV) (by show(aI _ _).map _=_;rw[q];rfl)
  exact .inr ⟨p,xs,d,rfl,l,i,j,e,g,n,a,b,f,o,m,b.sub _ _ c⟩
theorem SK.begun_at(h:SR C E M0 M A st)(k:Str×Int):∃ kvs,M A.g=some (.dT kvs)/\((aY kvs (eK k)=none/\aI st.begun k=none)\/∃ p xs,aY kvs (eK k)=some (.ref p)/\aI st.begun k=some xs/\SK C E M0 M A st (some (p,xs.map jW))):=by
 obtain⟨j,f,i,e,g,m,n,a,d,o,l,r⟩:=h.ex
 refine⟨g,d.sub _ _ a.at_,?_⟩
 cases q:aI st.begun k with
 | none=>exact .inl ⟨a.non k (by show(aI _ _).map _=_;rw[q];rfl),rfl⟩
 | some xs=>
  obtain⟨p,c,b⟩:=a.has (k:=k) (ws:=xs.map jW) (by show(aI _ _).map _=_;rw[q];rfl)
  exact .inr ⟨p,xs,c,rfl,j,f,i,e,g,m,n,a,d,o,l,b⟩
theorem SK.eput(h:SR C E M0 M A st){nm:Str}{b:Int}{z:Int×aL}{R:K3}{c:S3}{tk:aW}{t:dZ}(n:c[0]? = some (some (.ref A.s)))(m:∀ a Q,Q (W.tup [.str nm,.int b]) a->tk c a Q)(i:∀ a Q,Q [jV z] a->t c a Q)(e:st.ends.length < 10000000)(hl:((aI st.ends (nm,b)).getD []).length < 10000000)(r:∀ f,SR C E M0 f A {st with ends:=eR st.ends (nm,b) z}->R .non f) :
  dR "list" fE (dR "dict" rE (cI C.s (aA 0) "ends") (aB tk (aB (iZ aF) aF))) t c M R:=by
 obtain⟨kvs,q,u,l⟩:=h.epush e hl r
 refine⟨_,n,A.s,A.d,_,_,rfl,h.os,MJ,rT q,m _ _ ⟨De _,fun p k=>?_⟩⟩
 obtain⟨o,j,g⟩:=l p k
 exact⟨kvs,eK (nm,b),o,rfl,u,fun w hw=>⟨(j w hw).1,i _ _ (j w hw).2⟩,fun e=>⟨(g e).1,i _ _ (g e).2⟩⟩
theorem SK.gput(h:SR C E M0 M A st){nm:Str}{b:Int}{z:bQ}{R:K3}{c:S3}{tk:aW}{t:dZ}(n:c[0]? = some (some (.ref A.s)))(m:∀ a Q,Q (W.tup [.str nm,.int b]) a->tk c a Q)(i:∀ a Q,Q [jW z] a->t c a Q)(e:st.begun.length < 10000000)(hl:((aI st.begun (nm,b)).getD []).length < 10000000)(r:∀ f,SR C E M0 f A {st with begun:=eR st.begun (nm,b) z}->R .non f) :
  dR "list" fE (dR "dict" rE (cI C.s (aA 0) "begun") (aB tk (aB (iZ aF) aF))) t c M R:=by
 obtain⟨kvs,q,u,l⟩:=h.gpush e hl r
 refine⟨_,n,A.s,A.d,_,_,rfl,h.os,MK,rT q,m _ _ ⟨De _,fun p k=>?_⟩⟩
 obtain⟨o,j,g⟩:=l p k
 exact⟨kvs,eK (nm,b),o,rfl,u,fun w hw=>⟨(j w hw).1,i _ _ (j w hw).2⟩,fun e=>⟨(g e).1,i _ _ (g e).2⟩⟩
end
def rW:bL:=fun ws M R=>∃ ts:List Str,ws=[.rl (ts.map W.str)]/\ts.length<=400/\R (.dk ((ts.foldl eC []).map eD)) M
def ownOf(rs:List aG):List (aD×W):=((namesOf rs).foldl eC []).map eD
def uY:bL:=fun ws M R=>∃ a b:aL,ws=[cW a,cW b]/\R (cW (dU a b)) M
structure Sm(st:SS)(k:Nat):Prop where
 q:(a7 st.q).length + k < 10000000
 r:st.reached.length + k < 10000000
def pU(C:Cc):bL:=fun ws M R=>∃ (E:Env) (M0:Mm) (A:Ad) (st:SS) (n:Nat) (cut:List Int) (c:aL) (kp:Option (Addr×List W)),ws=[.ref A.s,.int n,iC cut,cW c]/\SK C E M0 M A st kp/\cut≠[]/\Sm st 1/\∀ a,SK C E M0 a A (reach st n cut c) kp->R .non a
def AX(C:Cc):bL:=fun ws M R=>∃ (E:Env) (M0:Mm) (A:Ad) (st:SS) (n:Nat) (cut:List Int) (c:aL) (part:Str),ws=[.ref A.s,.int n,iC cut,cW c,.tup [.str part,.int (cut.getLastD 0)]]/\SR C E M0 M A st/\cut≠[]/\cut.length < 1000/\Sm st ((aI st.ends (part,cut.getLastD 0)).getD []).length/\st.begun.length < 10000000/\((aI st.begun (part,cut.getLastD 0)).getD []).length < 10000000/\∀ a,SR C E M0 a A (fJ st n cut c part)->R .non a
def AY(C:Cc):bL:=fun ws M R=>∃ (G:Sr) (E:Env) (M0:Mm) (A:Ad) (st:SS) (n:Nat) (cut:List Int) (c:aL),ws=[.ref A.s,.int n,iC cut,cW c]/\SR C E M0 M A st/\G.rs=E.rs/\n < E.rs.length/\cut≠[]/\(∀ key,∀ y∈(aI st.begun key).getD [],y.2.1.length < 1000/\y.2.1≠[])/\Sm st ((aI st.begun (c8 G n,cut.headD 0)).getD []).length/\st.best.length < 10000000/\st.ends.length < 10000000/\((aI st.ends (c8 G n,cut.headD 0)).getD []).length < 10000000/\∀ a,SR C E M0 a A (settle G st n cut c)->R .non a
structure MM(G:Sr)(E:Env):Prop where
 rs:G.rs=E.rs
 own:∀ t,(aY E.own (Sum.inr t:aD)).isSome=G.own t
 stp:∀ t p,(aY E.stp (eK (t,p))=none/\G.steps t p=[])\/aY E.stp (eK (t,p))=some (.rl ((G.steps t p).map fun z=>.tup [.int z.1,.int z.2]))
structure Rm(G:Sr)(st:SS):Prop where
 item:∀ c n cut q',iA st.q=some (c,(n,cut),q')->cut≠[]/\cut.length < 1000/\n < G.rs.length/\∃ d,aI st.reached (bG n cut)=some d
 bg:∀ key,∀ y∈(aI st.begun key).getD [],y.2.1.length < 1000/\y.2.1≠[]
 b:st.best.length < 10000000
 e:st.ends.length < 10000000
 g:st.begun.length < 10000000
 el:∀ key,((aI st.ends key).getD []).length < 10000000/\Sm st ((aI st.ends key).getD []).length
 gl:∀ key,((aI st.begun key).getD []).length < 10000000/\Sm st ((aI st.begun key).getD []).length
 sl:∀ t p,Sm st (G.steps t p).length
def AZ(C:Cc):bL:=fun ws M R=>∃ (G:Sr) (E:Env) (M0:Mm) (A:Ad) (st:SS),ws=[.ref A.s]/\SR C E M0 M A st/\MM G E/\st.q≠[]/\Rm G st/\∀ a,SR C E M0 a A (l9 G st)->R .non a
def A1(C:Cc):bL:=fun ws M R=>∃ (M0:Mm) (s dx:Addr) (rs:List aG) (stp:List (List aD×W)),ws=[.ref s,cE rs,.dt stp]/\rs.length<=100/\M=put M0 s (.ins C.s dx [])/\M0 s=none/\∀ a (A:Ad),A.s=s->SR C ⟨rs,ownOf rs,stp⟩ M0 a A gN->R .non a
def A2(G:Sr):Nat->SS
 | 0=>k9 G
 | n + 1=>l9 G (A2 G n)
def ze9(G:Sr)(B:d7):Prop:=∃ (S a:Nat) (st:SS) (P:List bQ) (cur:aL) (T:Nat),All G S a st P cur T/\st.q=[]/\st.best=B/\st=A2 G T
def A5(C:Cc):bL:=fun ws M R=>∃ (G:Sr) (E:Env) (V:List Int) (L S:Nat),ws=[cE E.rs,.rl (G.places.map W.int),.dt E.stp,.rl ((Cv G.rs.length).map fun n=>.int (G.wt n))]/\E.rs.length<=100/\E.own=ownOf E.rs/\MM G E/\nZ G/\n6 G V G.rs.length L/\L < 1000/\G.places.length<=1000/\(∀ t p,(G.steps t p).length<=S)/\
 (iB G).length + G.rs.length * ((L + 1) * (V.length * V.length)) * (S + V.length) + G.rs.length * ((L + 1) * (V.length * V.length)) + V.length + S + 1 < 10000000/\∀ B,ze9 G B->oU (e9 fK iR B) M R
abbrev zfa:List Str:=["things"]
def zfb:aH:=
   (bR (bN KW (aB (cF (eL (cC cJ (aA 0)) (bC 0) gJ (bO (aB (aA 0) (aB (vC (.bl true)) aF))) [none])) aF)))
abbrev zfc:List Str:=["cost","other"]
def zfd:aH:=
   (bR (bO (aB (aE dS (aE aO (aA 0) (vC (.int 0))) (aE aO (aA 1) (vC (.int 0)))) (aB (aE dS (aE aO (aA 0) (vC (.int 1))) (aE aO (aA 1) (vC (.int 1)))) aF))))
abbrev zfe:List Str:=["self","grammar","steps"]
def zff(C:Cc):aH:=
   (jA C.s (aA 0) "grammar" (aA 1))
def zfg(C:Cc):aH:=
   (jA C.s (aA 0) "own" (bJ rW (aB (cF (bJ nW (aB (aA 1) aF))) aF)))
def zfh(C:Cc):aH:=
   (jA C.s (aA 0) "steps" (aA 2))
def MN(C:Cc):aH:=
   (jA C.s (aA 0) "queue" (pL C.q (AK C) aF))
def zfi(C:Cc):aH:=
   (jA C.s (aA 0) "reached" nU)
def zfj(C:Cc):aH:=
   (jA C.s (aA 0) "best" nU)
def zfk(C:Cc):aH:=
   (jA C.s (aA 0) "ends" nU)
def zfl(C:Cc):aH:=
   (jA C.s (aA 0) "begun" nU)
def zfm(C:Cc):aH:=(aN (zff C) (aN (zfg C) (aN (zfh C) (aN (MN C) (aN (zfi C) (aN (zfj C) (aN (zfk C) (zfl C))))))))
abbrev zfn:List Str:=["self","number","cut","cost","key"]
def zfo(C:Cc):aH:=
   (aN (a9 4 (bO (aB (aA 1) (aB (bN cV (aB (aA 2) aF)) (aB (aE aO (aA 2) (vC (.int 0))) (aB (aE aO (aA 2) (j0 j4 (vC (.int 1)))) aF))))))
   (cG (hJ (bM (aE (rIn true) (aA 4) (cI C.s (aA 0) "reached"))) (bM (aE AH (aA 3) (aE aO (cI C.s (aA 0) "reached") (aA 4)))))
    (aN (hW (aA 3) (j6 (cI C.s (aA 0) "reached") (aA 4)))
   (cX (fR C.q "put" (uR C) (cI C.s (aA 0) "queue") (aB (aA 3) (aB (bO (aB (aA 1) (aB (aA 2) aF))) aF)))))
    c7))
abbrev zfp:List Str:=["self","taken","cost","number","cut","parts","end","price"]
def zfq(C:Cc):aH:=
   (a9 1 (fR C.q "take" (AQ C) (cI C.s (aA 0) "queue") aF))
def zfr(C:Cc):aH:=
   (a9 2 (aE aO (aA 1) (vC (.int 0))))
def zfs(C:Cc):aH:=
   (a9 3 (aE aO (aE aO (aA 1) (vC (.int 1))) (vC (.int 0))))
def zft(C:Cc):aH:=
   (a9 4 (aE aO (aE aO (aA 1) (vC (.int 1))) (vC (.int 1))))
def zfu(C:Cc):aH:=
   (cG (bM (aE AH (aE aO (cI C.s (aA 0) "reached") (bO (aB (aA 3) (aB (bN cV (aB (aA 4) aF)) (aB (aE aO (aA 4) (vC (.int 0))) (aB (aE aO (aA 4) (j0 j4 (vC (.int 1)))) aF)))))) (aA 2)))
    xW
    c7)
def zfv(C:Cc):aH:=
   (a9 5 (aE aO (aE aO (cI C.s (aA 0) "grammar") (aA 3)) (vC (.int 1))))
def zfw(C:Cc):aH:=
   (cG (bM (aE IA (bN cV (aB (aA 4) aF)) (bN cV (aB (aA 5) aF))))
    (cX (fR C.s "settle" (AY C) (aA 0) (aB (aA 3) (aB (aA 4) (aB (aA 2) aF)))))
    (cG (bM (aE (rIn false) (aE aO (aA 5) (aE mQ (bN cV (aB (aA 4) aF)) (vC (.int 1)))) (cI C.s (aA 0) "own")))
    (cX (fR C.s "step_by_name" (AX C) (aA 0) (aB (aA 3) (aB (aA 4) (aB (aA 2) (aB (bO (aB (aE aO (aA 5) (aE mQ (bN cV (aB (aA 4) aF)) (vC (.int 1)))) (aB (aE aO (aA 4) (j0 j4 (vC (.int 1)))) aF))) aF))))))
    (d4 (cC jO (dR "dict" uB (cI C.s (aA 0) "steps") (aB (bO (aB (aE aO (aA 5) (aE mQ (bN cV (aB (aA 4) aF)) (vC (.int 1)))) (aB (aE aO (aA 4) (j0 j4 (vC (.int 1)))) aF))) (aB (gA aF) aF)))) (i6 2 (dX (bC 6) (dX (bC 7) i5)))
    (cX (fR C.s "reach" (pU C) (aA 0) (aB (aA 3) (aB (aE dS (aA 4) (bO (aB (aA 6) aF))) (aB (bO (aB (aE dS (aE aO (aA 2) (vC (.int 0))) (aA 7)) (aB (aE aO (aA 2) (vC (.int 1))) aF))) aF))))))))
def zfx(C:Cc):aH:=(aN (zfq C) (aN (zfr C) (aN (zfs C) (aN (zft C) (aN (zfu C) (aN (zfv C) (zfw C)))))))
abbrev zfy:List Str:=["self","number","cut","cost","key","end","more"]
def zfz(C:Cc):aH:=
   (aN (cX (dR "list" fE (dR "dict" rE (cI C.s (aA 0) "begun") (aB (aA 4) (aB (iZ aF) aF))) (aB (bO (aB (aA 1) (aB (aA 2) (aB (aA 3) aF)))) aF)))
   (d4 (cC jO (dR "dict" uB (cI C.s (aA 0) "ends") (aB (aA 4) (aB (gA aF) aF)))) (i6 2 (dX (bC 5) (dX (bC 6) i5)))
    (cX (fR C.s "reach" (pU C) (aA 0) (aB (aA 1) (aB (aE dS (aA 2) (bO (aB (aA 5) aF))) (aB (bJ uY (aB (aA 3) (aB (aA 6) aF))) aF)))))))
abbrev zfA:List Str:=["self","number","cut","cost","key","fact","other","before","paid"]
def zfB(C:Cc):aH:=
   (a9 4 (bO (aB (aE aO (aE aO (cI C.s (aA 0) "grammar") (aA 1)) (vC (.int 0))) (aB (aE aO (aA 2) (vC (.int 0))) aF))))
def zfC(C:Cc):aH:=
   (a9 5 (aE dS (aA 4) (bO (aB (aE aO (aA 2) (j0 j4 (vC (.int 1)))) aF))))
def zfD(C:Cc):aH:=
   (cG (bM (aE (rIn false) (aA 5) (cI C.s (aA 0) "best")))
    xW
    c7)
def zfE(C:Cc):aH:=
   (hW (bO (aB (aA 3) (aB (aA 1) (aB (aA 2) aF)))) (j6 (cI C.s (aA 0) "best") (aA 5)))
def zfF(C:Cc):aH:=
   (cX (dR "list" fE (dR "dict" rE (cI C.s (aA 0) "ends") (aB (aA 4) (aB (iZ aF) aF))) (aB (bO (aB (aE aO (aA 2) (j0 j4 (vC (.int 1)))) (aB (aA 3) aF))) aF)))
def zfG(C:Cc):aH:=
   (cX (fR C.s "reach" (pU C) (aA 0) (aB (aA 6) (aB (aE dS (aA 7) (bO (aB (aE aO (aA 2) (j0 j4 (vC (.int 1)))) aF))) (aB (bJ uY (aB (aA 8) (aB (aA 3) aF))) aF)))))
def zfH(C:Cc):aH:=
   (d4 (cC jO (dR "dict" uB (cI C.s (aA 0) "begun") (aB (aA 4) (aB (gA aF) aF)))) (i6 3 (dX (bC 6) (dX (bC 7) (dX (bC 8) i5)))) (zfG C))
def zfI(C:Cc):aH:=(aN (zfB C) (aN (zfC C) (aN (zfD C) (aN (zfE C) (aN (zfF C) (zfH C))))))
abbrev zfJ:List Str:=["grammar","places","steps","weights","search","number","place"]
def zfK(C:Cc):aH:=
   (a9 4 (pL C.s (A1 C) (aB (aA 0) (aB (aA 2) aF))))
def zfL(C:Cc):aH:=
   (d4 (cC cJ (aA 1)) (bC 6)
    (cX (fR C.s "reach" (pU C) (aA 4) (aB (aA 5) (aB (bO (aB (aA 6) aF)) (aB (bO (aB (aE aO (aA 3) (aA 5)) (aB (vC (.int 1)) aF))) aF))))))
def zfM(C:Cc):aH:=
   (d4 (qR (aB (bN cV (aB (aA 0) aF)) aF)) (bC 5) (zfL C))
def zfN(C:Cc):aH:=
   (cX (fR C.s "take_next" (AZ C) (aA 4) aF))
def zfO(C:Cc):aH:=
   (tQ (iI (eV (fR C.q "is_done" (AL C) (cI C.s (aA 4) "queue") aF))) (zfN C))
def zfP(C:Cc):aH:=
   (bR (cI C.s (aA 4) "best"))
def zfQ(C:Cc):aH:=(aN (zfK C) (aN (zfM C) (aN (zfO C) (zfP C))))
theorem zfR:∀ ws M R,rW ws M R->ws.length=1:=by rintro ws M R ⟨_,rfl,_⟩;rfl
theorem zfS:∀ ws M R,uY ws M R->ws.length=2:=by rintro ws M R ⟨_,_,rfl,_⟩;rfl
theorem zfT{C:Cc}:∀ ws M R,pU C ws M R->ws.length=4:=by rintro ws M R ⟨_,_,_,_,_,_,_,_,rfl,_⟩;rfl
theorem zfU{C:Cc}:∀ ws M R,AX C ws M R->ws.length=5:=by rintro ws M R ⟨_,_,_,_,_,_,_,_,rfl,_⟩;rfl
theorem zfV{C:Cc}:∀ ws M R,AY C ws M R->ws.length=4:=by rintro ws M R ⟨_,_,_,_,_,_,_,_,rfl,_⟩;rfl
theorem zfW{C:Cc}:∀ ws M R,AZ C ws M R->ws.length=1:=by rintro ws M R ⟨_,_,_,_,_,rfl,_⟩;rfl
theorem zfX{C:Cc}:∀ ws M R,A1 C ws M R->ws.length=3:=by rintro ws M R ⟨_,_,_,_,_,rfl,_⟩;rfl
theorem zfY{C:Cc}:∀ ws M R,A5 C ws M R->ws.length=4:=by rintro ws M R ⟨_,_,_,_,_,rfl,_⟩;rfl
theorem MP:∀ (ts acc:List Str),kY (acc.map eD) (ts.map eD)=(ts.foldl eC acc).map eD
 | [],acc=>rfl
 | t :: r,acc=>by
  show kY (b9 (acc.map eD) (Sum.inr t) (.bl true)) (r.map eD)=_
  rw[zE,MP,Dj]
theorem zfZ{ws:List W}{M:Mm}{R:K3}(h:rW ws M R):zfb (bB R) (bS zfa ws) M:=by
 obtain⟨ts,rfl,hl,r⟩:=h
 have l:(ts.map W.str).length<=Ai:=small (by rw[Ab];exact Bs hl (by decide))
 refine⟨_,rfl,pJ (kX (rest:=[]) (fun w=>.tup [w,.bl true]) l (fun _ _=>trivial) (fun w hw b C sb a=>⟨_,rfl,z2,a⟩) (aV.frz ⟨ts.map eD,?_,by rw[Ab];exact l,_,Sub.refl _,?_⟩))⟩
 ·unfold mY
  rw[Bx,Bx];rfl
 ·rw[show([]:List (aD×W))=([]:List Str).map eD from rfl,MP]
  exact r
theorem zf0{ws:List W}{M:Mm}{R:K3}(h:uY ws M R):zfd (bB R) (bS zfc ws) M:=by
 obtain⟨a,b,rfl,r⟩:=h
 exact⟨_,rfl,_,rfl,_,rfl,_,rfl,_,rfl,_,rfl,_,rfl,_,rfl,z2,_,Sub.refl _,r⟩
variable {α:Type}
theorem A6{cut:List Int}(h:cut≠[]):bI (cut.map W.int) 0=some (.int (cut.headD 0)):=by
 cases cut with
 | nil=>exact absurd rfl h
 | cons a t=>exact mU _ _
theorem oA{cut:List Int}(h:cut≠[]):bI (cut.map W.int) (-1)=some (.int (cut.getLastD 0)):=by
 rcases Fe cut with z | ⟨a,b,z⟩
 ·exact absurd z h
 ·rw[z,Ff,Bi]
  refine(F9 _ _).trans ?_
  simp[Kn]
theorem MQ{n:Nat}{cut:List Int}:W.tup [.int n,.int (cut.map W.int).length,.int (cut.headD 0),.int (cut.getLastD 0)]=.tup ((lA (bG n cut)).map wK):=by
 rw[Ab];rfl
theorem zf1{M:Mm}{a:Addr}{t:List (K4×aL)}{n:Nat}{cut:List Int}{d:aL}{R:K3}(h:M a=some (.dT (e9 lA cW t)))(hd:aI t (bG n cut)=some d)(r:R (cW d) M):L3.aO (.ref a) (.tup [.int n,.int (cut.map W.int).length,.int (cut.headD 0),.int (cut.getLastD 0)]) M R:=by rw[MQ];exact rS h (by rw[pT uS,hd];rfl) r
theorem MR{C:Cc}{E:Env}{M0 M:Mm}{A:Ad}{st:SS}{n:Nat}{cut:List Int}{c:aL}{R:K3}{kp:Option (Addr×List W)}(f:SK C E M0 M A st kp)(sm:Sm st 1)(r:∀ a,SK C E M0 a A {st with reached:=cY st.reached (bG n cut) c,q:=dP c (n,cut) st.q} kp->R .non a) :
  aN (hW (aA 3) (j6 (cI C.s (aA 0) "reached") (aA 4))) (cX (fR C.q "put" (uR C) (cI C.s (aA 0) "queue") (aB (aA 3) (aB (bO (aB (aA 1) (aB (aA 2) aF))) aF)))) (bB R) [some (W.ref A.s),some (W.int n),some (iC cut),some (cW c),some (W.tup (Gh wK (lA (bG n cut))))] M:=by
 have h:=sm.q
 have j:=sm.r
 refine⟨_,rfl,_,rfl,A.s,A.d,_,_,rfl,f.os,uV,_,rfl,yL f.or (gK (by rw[Ab];lia)) ?_⟩
 rw[MH uS]
 have e:=f.rput (cY st.reached (bG n cut) c)
 obtain⟨i,g,b⟩:=e.que
 exact⟨_,rfl,A.s,A.d,_,_,rfl,e.os,AU,A.Q.o,A.Q.d,qf A.Q,rfl,g.ob,zex,_,rfl,_,rfl,_,rfl,z2,i,A.Q,_,c,(n,cut),rfl,g,(by rw[uD];exact h),fun a h'=>⟨a,Sub.refl _,r a (b a _ h')⟩⟩
theorem zf2{C:Cc}{ws:List W}{M:Mm}{R:K3}(h:pU C ws M R):zfo C (bB R) (bS zfn ws) M:=by
 obtain⟨E,M0,A,st,n,cut,c,kp,rfl,b,a,sm,r⟩:=h
 refine⟨_,rfl,_,rfl,_,rfl,_,A6 a,_,rfl,_,oA a,z4,?_⟩
 rw[MQ]
 refine⟨_,rfl,_,rfl,A.s,A.d,_,_,rfl,b.os,uV,.inr ⟨_,.inr ⟨_,_,b.or,rfl,rfl⟩,_,rfl,?_⟩⟩
 rw[pT uS]
 cases hr:aI st.reached (bG n cut) with
 | none=>
  refine fF (fun _=>zc9 (MR b sm fun e h'=>r e ?_)) fun h=>nomatch (show true=false from h)
  unfold reach;rw[hr];exact h'
 | some d=>
  refine fF (fun h=>nomatch (show false=true from h)) fun _=>⟨_,rfl,_,rfl,A.s,A.d,_,_,rfl,b.os,uV,_,rfl,rS b.or (by rw[pT uS,hr];rfl) ⟨c.1,c.2,d.1,d.2,rfl,rfl,_,rfl,fF (fun hl=>MR b sm fun e h'=>r e ?_) fun hl=>⟨M,Sub.refl _,r M ?_⟩⟩⟩
  ·unfold reach;rw[hr];simp only;rw[if_pos (show cL c d=true from hl)];exact h'
  ·unfold reach;rw[hr];simp only;rw[if_neg (ne_true_of_eq_false (show cL c d=false from hl))];exact b
theorem Sm.reach{st:SS}{k:Nat}(h:Sm st (k + 1))(n:Nat)(cut:List Int)(c:aL):Sm (Rg.reach st n cut c) k:=by
 obtain⟨j,a,b,d⟩:=LP st n cut c
 have:=h.q
 have:=h.r
 exact⟨by lia,by lia⟩
theorem Sm.le{st:SS}{k j:Nat}(h:Sm st k)(a:j<=k):Sm st j:=⟨by have:=h.q;lia,by have:=h.r;lia⟩
def eN(f:α->Nat×List Int×aL)(xs:List α)(st:SS):SS:=xs.foldl (fun st x=>reach st (f x).1 (f x).2.1 (f x).2.2) st
theorem uZ{f:α->Nat×List Int×aL}{xs:List α}{st:SS}{i:Nat}{x:α}(h:xs[i]? = some x):eN f (xs.take (i + 1)) st=reach (eN f (xs.take i) st) (f x).1 (f x).2.1 (f x).2.2:=by
 unfold eN
 rw[Dy,h,Ei];rfl
theorem pV{f:α->Nat×List Int×aL}:∀ {xs:List α} {st:SS} {k:Nat},Sm st (xs.length + k)->Sm (eN f xs st) k
 | [],st,k,h=>by simp at h;exact h
 | x :: xs,st,k,h=>by
  show Sm (eN f xs (reach st (f x).1 (f x).2.1 (f x).2.2)) k
  exact pV (Sm.reach (by rw[Bk] at h;exact h.le (by lia)) _ _ _)
theorem rX{f:α->Nat×List Int×aL}:∀ {xs:List α} {st:SS},(eN f xs st).ends=st.ends/\(eN f xs st).begun=st.begun/\(eN f xs st).best=st.best
 | [],st=>⟨rfl,rfl,rfl⟩
 | x :: xs,st=>by
  have a:=rX (f:=f) (xs:=xs) (st:=reach st (f x).1 (f x).2.1 (f x).2.2)
  have g:∀ n cut c,(reach st n cut c).ends=st.ends/\(reach st n cut c).begun=st.begun/\(reach st n cut c).best=st.best:=by
   intro n cut c
   unfold reach
   split
   ·split <;> exact⟨rfl,rfl,rfl⟩
   ·exact⟨rfl,rfl,rfl⟩
  obtain⟨e,b,d⟩:=g (f x).1 (f x).2.1 (f x).2.2
  exact⟨a.1.trans e,a.2.1.trans b,a.2.2.trans d⟩
theorem zf3{C:Cc}{ws:List W}{M:Mm}{R:K3}(h:AX C ws M R):zfz C (bB R) (bS zfy ws) M:=by
 obtain⟨E,M0,A,st,n,cut,c,part,rfl,K,o,x,sm,L,D,r⟩:=h
 refine SK.gput K (z:=(n,cut,c)) rfl (fun u Q h=>⟨_,rfl,h⟩) (fun u Q h=>⟨_,rfl,_,rfl,_,rfl,z3,h⟩) L D fun u k=>?_
 have hf:=k.ends_at (part,cut.getLastD 0)
 obtain⟨kvs,H,hc⟩:=hf
 refine⟨_,rfl,A.s,A.d,_,_,rfl,k.os,MJ,rT H,_,rfl,De _,_,.inr ⟨kvs,eK (part,cut.getLastD 0),H,rfl,rfl⟩,?_⟩
 rcases hc with⟨G,t⟩ | ⟨p,xs,G,t,hk⟩
 ·rw[G]
  refine AR rfl (d5 (fun i l j=>j=u) rfl (fun _ _ _ _ _=>trivial) (fun i w l j hw=>nomatch hw) fun l j e=>⟨_,Sub.refl _,r _ ?_⟩)
  rw[e]
  unfold fJ
  rw[show aI st.ends (part,cut.getLastD 0)=none from t]
  exact k
 ·rw[G]
  obtain⟨f,hf⟩:∃ f:Int×aL->Nat×List Int×aL,f=fun z=>(n,cut ++ [z.1],dU c z.2):=⟨_,rfl⟩
  obtain⟨g,b⟩:∃ g,g = {st with begun:=eR st.begun (part,cut.getLastD 0) (n,cut,c)}:=⟨_,rfl⟩
  rw[<-b] at hk
  have B:Sm g xs.length:=by
   rw[show aI st.ends (part,cut.getLastD 0)=some xs from t] at sm
   rw[b];exact⟨sm.q,sm.r⟩
  refine⟨_,hk.kept,d5 (fun i l j=>∃ y F,l=[some (.ref A.s),some (.int n),some (iC cut),some (cW c),some (.tup [.str part,.int (cut.getLastD 0)]),y,F]/\SK C E M0 j A (eN f (xs.take i) g) (some (p,xs.map jV))) ⟨_,_,rfl,hk⟩ (fun i l j _ ⟨_,_,_,h⟩=>h.kept) ?_ ?_⟩
  ·rintro i w l j hw ⟨y,F,rfl,a⟩
   rw[Aw] at hw
   obtain⟨z,hz,rfl⟩:=Bb.mp hw
   have hi:=(Ak.mp hz).1
   have v:Sm (eN f (xs.take i) g) 1:=pV (B.le (by rw[Cw];lia))
   have I:W.tup (Gh W.int cut ++ [W.int z.1])=iC (cut ++ [z.1]):=by unfold iC;rw[Bi];rfl
   refine⟨rfl,rfl,_,rfl,A.s,A.d,_,rfl,a.os,uW,_,rfl,_,rfl,_,rfl,z1,by simpa using o,by rw[Ab];exact Bs x (small (by decide)),_,rfl,_,rfl,c,z.2,rfl,E,M0,A,_,n,cut ++ [z.1],dU c z.2,_,by rw[I],a,by simp,v,fun J m=>⟨J,Sub.refl _,_,_,rfl,?_⟩⟩
   rw[uZ hz,hf]
   rw[hf] at m
   exact m
  ·rintro l j ⟨y,F,rfl,a⟩
   rw[Ab,Cq] at a
   refine⟨_,Sub.refl _,r _ ?_⟩
   unfold fJ
   rw[show aI st.ends (part,cut.getLastD 0)=some xs from t]
   rw[b,hf] at a
   exact a.free
end Rg
namespace Rg
open PySem PySem.Spec PyProof.Rows L2 L3
theorem u3{rs:List aG}{n:Nat}(h:n < rs.length):∃ r,rs[n]? = some r/\bI (rs.map aX) (n:Int)=some (aX r):=by
 refine⟨rs[n],Bp h,iW ?_⟩
 rw[Aw,Bp h];rfl
theorem zf4{bs:d7}{k:iO}{v:aL×Nat×List Int}(h:aI bs k=none):b9 (e9 fK iR bs) (fK k) (iR v)=e9 fK iR (bs ++ [(k,v)]):=by
 rw[MH uU,rV h]
theorem zf5{C:Cc}{ws:List W}{M:Mm}{R:K3}(h:AY C ws M R):zfI C (bB R) (bS zfA ws) M:=by
 obtain⟨G,E,M0,A,st,n,cut,c,rfl,F,hG,hn,l,hbg,sm,hb,he,L,r⟩:=h
 obtain⟨g,X,S⟩:=u3 hn
 have I:c8 G n=g.name:=by unfold c8;rw[hG,X]
 have t:cZ G n cut=(g.name,cut.headD 0,cut.getLastD 0):=by unfold cZ;rw[I]
 rw[I] at sm L
 refine⟨_,rfl,A.s,A.d,_,_,rfl,F.os,MI,_,rfl,_,S,_,rfl,_,rfl,_,A6 l,z2,_,rfl,_,rfl,_,oA l,z1,(fun h=>nomatch h),z3,_,rfl,_,rfl,A.s,A.d,_,_,rfl,F.os,AW,.inr ⟨_,.inr ⟨_,fK (g.name,cut.headD 0,cut.getLastD 0),F.ob,rfl,rfl⟩,_,rfl,?_⟩⟩
 rw[pT uU]
 cases m:aI st.best (g.name,cut.headD 0,cut.getLastD 0) with
 | some v=>
  refine fF (fun _=>⟨M,Sub.refl _,r M ?_⟩) fun h=>nomatch (show true=false from h)
  unfold settle;rw[t,m];exact F
 | none=>
  refine fF (fun h=>nomatch (show false=true from h)) fun _=>⟨_,rfl,_,rfl,_,rfl,z3,_,rfl,A.s,A.d,_,_,rfl,F.os,AW,_,rfl,yL (k:=fK (g.name,cut.headD 0,cut.getLastD 0)) F.ob (gK (by rw[Ab];exact hb)) ?_⟩
  rw[show b9 (e9 fK iR st.best) _ (W.tup [cW c,W.int n,iC cut])=_ from zf4 (v:=(c,n,cut)) m]
  have O:=F.bput (st.best ++ [((g.name,cut.headD 0,cut.getLastD 0),c,n,cut)])
  refine SK.eput O (nm:=g.name) (b:=cut.headD 0) (z:=(cut.getLastD 0,c)) rfl (fun N Q h=>⟨_,rfl,h⟩) (fun N Q h=>⟨_,rfl,_,oA l,_,rfl,z2,h⟩) he L fun N u=>?_
  obtain⟨a,j⟩:∃ a:SS,a = {st with best:=st.best ++ [((g.name,cut.headD 0,cut.getLastD 0),c,n,cut)],ends:=eR st.ends (g.name,cut.headD 0) (cut.getLastD 0,c)}:=⟨_,rfl⟩
  have u:SR C E M0 N A a:=by rw[j];exact u
  have D:∀ xs,(aI st.begun (g.name,cut.headD 0)).getD []=xs->settle G st n cut c=eN (fun y:bQ=>(y.1,y.2.1 ++ [cut.getLastD 0],dU y.2.2 c)) xs a:=fun xs hx=>by
   unfold settle
   rw[t,m,I,hx,j];rfl
  have x:a.begun=st.begun:=by rw[j]
  obtain⟨kvs,hg,hc⟩:=u.begun_at (g.name,cut.headD 0)
  refine⟨_,rfl,A.s,A.d,_,_,rfl,u.os,MK,rT hg,_,rfl,De _,_,.inr ⟨kvs,eK (g.name,cut.headD 0),hg,rfl,rfl⟩,?_⟩
  rcases hc with⟨V,J⟩ | ⟨p,xs,V,J,hk⟩
  ·rw[V]
   refine AR rfl (d5 (fun i H B=>B=N) rfl (fun _ _ _ _ _=>trivial) (fun i w H B hw=>nomatch hw) fun H B e=>⟨_,Sub.refl _,r _ ?_⟩)
   rw[D [] (by rw[x] at J;rw[J];rfl),e]
   exact u
  ·rw[V]
   rw[x] at J
   obtain⟨f,hf⟩:∃ f:bQ->Nat×List Int×aL,f=fun y=>(y.1,y.2.1 ++ [cut.getLastD 0],dU y.2.2 c):=⟨_,rfl⟩
   have Z:Sm a xs.length:=by
    rw[J] at sm
    rw[j];exact⟨sm.q,sm.r⟩
   refine⟨_,hk.kept,d5 (fun i H B=>∃ o6 Y P,H=[some (.ref A.s),some (.int n),some (iC cut),some (cW c),some (.tup [.str g.name,.int (cut.headD 0)]),some (.tup ([.str g.name,.int (cut.headD 0)] ++ [.int (cut.getLastD 0)])),o6,Y,P]/\SK C E M0 B A (eN f (xs.take i) a) (some (p,xs.map jW))) ⟨_,_,_,rfl,hk⟩ (fun i H B _ ⟨_,_,_,_,h⟩=>h.kept) ?_ ?_⟩
   ·rintro i w H B hw ⟨o6,Y,P,rfl,o⟩
    rw[Aw] at hw
    obtain⟨y,hy,rfl⟩:=Bb.mp hw
    have hi:=(Ak.mp hy).1
    obtain⟨U,T⟩:=hbg (g.name,cut.headD 0) y (by rw[J];exact Av hy)
    refine⟨rfl,rfl,_,rfl,A.s,A.d,_,rfl,o.os,uW,_,rfl,_,rfl,_,rfl,_,oA l,z1,by simpa using T,by rw[Ab];exact small (Bs U (by decide)),_,rfl,_,rfl,y.2.2,c,rfl,E,M0,A,_,y.1,y.2.1 ++ [cut.getLastD 0],dU y.2.2 c,_,by rw[iC,Bi];rfl,o,by simp,pV (Z.le (by rw[Cw];lia)),fun M2 K=>⟨M2,Sub.refl _,_,_,_,rfl,?_⟩⟩
    rw[uZ hy,hf]
    rw[hf] at K
    exact K
   ·rintro H B ⟨o6,Y,P,rfl,o⟩
    rw[Ab,Cq] at o
    refine⟨_,Sub.refl _,r _ ?_⟩
    rw[D xs (by rw[J];rfl),<-hf]
    exact o.free
theorem zf6{C:Cc}{ws:List W}{M:Mm}{R:K3}(h:AZ C ws M R):zfx C (bB R) (bS zfp ws) M:=by
 obtain⟨G,E,S,A,st,rfl,hs,J,hq,t,r⟩:=h
 obtain⟨c,x,y,e1,f1,m1,l1,_,_⟩:=nY hs.fall hq
 obtain⟨n,cut⟩:=x
 obtain⟨f,O,X,d,hd⟩:=t.item c n cut y e1
 obtain⟨M3,hQ,K⟩:=hs.que
 refine⟨_,rfl,A.s,A.d,_,_,rfl,hs.os,AU,A.Q.o,A.Q.d,_,rfl,hQ.ob,zey,M3,A.Q,_,c,(n,cut),y,rfl,hQ,e1,fun Y hQ1=>?_⟩
 have j:=K Y y hQ1
 have u:∀ k,Sm st k->Sm {st with q:=y} k:=fun k h=>⟨by have:=h.q;show(a7 y).length + k < _;lia,h.r⟩
 have ht:l9 G st=if cL d c=true then {st with q:=y} else process G {st with q:=y} n cut c:=by
  unfold l9
  simp only[e1,hd]
 obtain⟨a,m⟩:∃ a:SS,a = {st with q:=y}:=⟨_,rfl⟩
 have T:a.begun=st.begun:=by rw[m]
 have V:a.ends=st.ends:=by rw[m]
 have b3:a.best=st.best:=by rw[m]
 have b4:a.reached=st.reached:=by rw[m]
 rw[<-m] at j u ht
 clear m
 refine⟨_,rfl,_,rfl,_,rfl,_,rfl,_,rfl,_,rfl,_,rfl,_,rfl,_,rfl,A.s,A.d,_,_,rfl,j.os,uV,_,rfl,_,rfl,_,rfl,_,A6 f,_,rfl,_,oA f,z4,zf1 j.or (by rw[b4];exact hd) ⟨_,rfl,d.1,d.2,c.1,c.2,rfl,rfl,_,rfl,fF (fun hl=>?_) fun hl=>?_⟩⟩
 ·rw[ht,if_pos (show cL d c=true from hl)] at r
  exact⟨Y,Sub.refl _,r Y j⟩
 rw[ht,if_neg (ne_true_of_eq_false (show cL d c=false from hl))] at r
 rw[J.rs] at X
 obtain⟨I,U,hr2⟩:=u3 X
 have p:dD G n cut=I.parts[cut.length - 1]?:=by unfold dD;rw[J.rs,U]
 have hpos:=Dg.mpr f
 have v:(Gh W.int cut).length=cut.length:=Ab _
 have N:(Gh W.str I.parts).length=I.parts.length:=Ab _
 refine⟨_,rfl,A.s,A.d,_,_,rfl,j.os,MI,_,rfl,_,hr2,_,rfl,_,rfl,_,rfl,_,rfl,fF (fun l=>?_) fun l=>?_⟩
 ·have l:=of_decide_eq_true l
  rw[v,N] at l
  have P:dD G n cut=none:=by rw[p];exact List.getElem?_eq_none (by lia)
  refine⟨_,rfl,A.s,A.d,_,rfl,j.os,ze8,_,rfl,_,rfl,_,rfl,G,E,S,A,a,n,cut,c,rfl,j,J.rs,X,f,by rw[T];exact t.bg,by rw[T];exact u _ (t.gl _).2,by rw[b3];exact t.b,by rw[V];exact t.e,by rw[V];exact(t.el _).1,fun F B=>⟨F,Sub.refl _,r F ?_⟩⟩
  unfold process;rw[P];exact B
 have l:=of_decide_eq_false l
 rw[v,N] at l
 obtain⟨part,P⟩:∃ part,I.parts[cut.length - 1]? = some part:=⟨_,Bp (by lia)⟩
 rw[P] at p
 have D:bI (I.parts.map W.str) ((Gh W.int cut).length - 1)=some (.str part):=by
  rw[v,show((cut.length:Int) - 1)=((cut.length - 1:Nat):Int) by lia]
  exact iW (by rw[Aw,P];rfl)
 have hpr:process G a n cut c=if G.own part=true then fJ a n cut c part else eN (fun z:Int×Int=>(n,cut ++ [z.1],(c.1 + z.2,c.2))) (G.steps part (cut.getLastD 0)) a:=by
  unfold process;rw[p];rfl
 rw[hpr] at r
 refine⟨_,rfl,_,rfl,_,D,_,rfl,A.s,A.d,_,_,rfl,j.os,ze4,_,⟨Sum.inr part,rfl,rfl⟩,_,rfl,fF (fun ho=>?_) fun ho=>?_⟩
 ·rw[if_pos ((J.own part).symm.trans ho)] at r
  exact⟨_,rfl,A.s,A.d,_,rfl,j.os,ze7,_,rfl,_,rfl,_,rfl,_,rfl,_,rfl,_,D,_,rfl,_,oA f,z2,E,S,A,a,n,cut,c,part,rfl,j,f,O,by rw[V];exact u _ (t.el _).2,by rw[T];exact t.g,by rw[T];exact(t.gl _).1,fun F B=>⟨F,Sub.refl _,r F B⟩⟩
 rw[if_neg (ne_true_of_eq_false ((J.own part).symm.trans ho))] at r
 obtain⟨xs,H⟩:∃ xs,xs=G.steps part (cut.getLastD 0):=⟨_,rfl⟩
 have sm1:Sm a xs.length:=by rw[H];exact u _ (t.sl _ _)
 have L:(aY E.stp (eK (part,cut.getLastD 0))).getD (.rl [])=.rl (xs.map fun z=>.tup [.int z.1,.int z.2]):=by
  rw[H]
  rcases J.stp part (cut.getLastD 0) with⟨h1,h2⟩ | h1
  ·rw[h1,h2];rfl
  ·rw[h1];rfl
 rw[<-H] at r
 refine⟨_,rfl,A.s,A.d,_,_,rfl,j.os,ze5,rfl,_,rfl,_,rfl,_,D,_,rfl,_,oA f,z2,De _,_,⟨eK (part,cut.getLastD 0),rfl,rfl⟩,AR L (d5 (fun i τ M'=>∃ Z o7,τ=[some (.ref A.s),some (.tup [cW c,kB (n,cut)]),some (cW c),some (.int n),some (iC cut),some (.tup (I.parts.map W.str)),Z,o7]/\SR C E S M' A (eN (fun z:Int×Int=>(n,cut ++ [z.1],(c.1 + z.2,c.2))) (xs.take i) a)) ⟨_,_,rfl,j⟩ (fun _ _ _ _ _=>trivial) ?_ ?_)⟩
 ·rintro i w τ M' hw ⟨Z,o7,rfl,hk⟩
  rw[Aw] at hw
  obtain⟨z,hz,rfl⟩:=Bb.mp hw
  have hi:=(Ak.mp hz).1
  exact⟨rfl,rfl,_,rfl,A.s,A.d,_,rfl,hk.os,uW,_,rfl,_,rfl,_,rfl,z1,by simpa using f,by rw[v];exact Bs O (small (by decide)),_,rfl,_,rfl,_,rfl,_,rfl,_,rfl,z2,E,S,A,_,n,cut ++ [z.1],(c.1 + z.2,c.2),_,by rw[iC,Bi];rfl,hk,by simp,pV (sm1.le (by rw[Cw];lia)),fun F hk2=>⟨F,Sub.refl _,_,_,rfl,by rw[uZ hz];exact hk2⟩⟩
 ·rintro τ M' ⟨Z,o7,rfl,hk⟩
  rw[Ab,Cq] at hk
  exact⟨_,Sub.refl _,r _ hk⟩
theorem zf7{E:Env}{A:Ad}:bX "begun" (.ref A.g) (bX "ends" (.ref A.e) (bX "best" (.ref A.b) (bX "reached" (.ref A.r) (bX "queue" (.ref A.Q.o) ([("grammar",(cE E.rs)),("own",(W.dk E.own)),("steps",(W.dt E.stp))]:List (Str×W))))))=sf E A:=by kernel_rfl
theorem u5{C:Cc}{B b:Mm}{A:Aq}{q:Qu}{s dx p:Addr}{fs fs':List (Str×W)}(c:QR C B b A q)(f:B s=some (.ins C.s dx fs))(a:b p=none):p≠s/\B p=none/\put b p (.dT []) s=some (.ins C.s dx fs)/\QR C (put (put B p (.dT [])) s (.ins C.s dx fs')) (put (put b p (.dT [])) s (.ins C.s dx fs')) A q:=by
 have d:=c.sub _ _ f
 have ne:p≠s:=fun e=>by rw[e,d] at a;cases a
 exact⟨ne,c.sub.non a,by rw[aQ (Ca ne)];exact d,(c.lift (.inl a)).lift (.inr ⟨_,by rw[aQ (Ca ne)];exact f⟩)⟩
theorem rY(f:Str)(w:W):∀ fs:List (Str×W),(bX f w fs).length<=fs.length + 1
 | []=>Aj _
 | (k,x) :: r=>by
  rw[bX]
  split
  ·simp
  ·have:=rY f w r
   simp only[Bk];lia
theorem zf8{C:Cc}{ws:List W}{M:Mm}{R:K3}(h:A1 C ws M R):zfm C (bB R) (bS zfe ws) M:=by
 obtain⟨z,s,dx,rs,stp,rfl,hl,rfl,h0,r⟩:=h
 refine⟨_,rfl,_,rfl,s,dx,_,rfl,a5,by decide,?_⟩
 rw[f9]
 have e2:∀ w:W,bX "own" w (bX "grammar" (cE rs) [])=([("grammar",cE rs),("own",w)]:List (Str×W)):=fun w=>by kernel_rfl
 have e3:∀ w:W,bX "steps" w ([("grammar",cE rs),("own",.dk (ownOf rs))]:List (Str×W))=([("grammar",cE rs),("own",.dk (ownOf rs)),("steps",w)]:List (Str×W)):=fun w=>by kernel_rfl
 refine⟨_,rfl,rs,rfl,Bs hl (by decide),aV.frz ⟨namesOf rs,rfl,?_,_,rfl,s,dx,_,rfl,a5,(show(1:Nat) < 1000 by decide),_,rfl,_,rfl,s,dx,_,rfl,a5,?_,?_⟩⟩
 ·have:=t5 (rs.map aG.name) []
  rw[Ab] at this
  unfold namesOf mX
  simp at this
  simp;lia
 ·rw[e2];exact(show(2:Nat) < 1000 by decide)
 rw[f9,f9,e2]
 show MN C _ _ (put z s (.ins C.s dx (bX "steps" (.dt stp) [("grammar",cE rs),("own",.dk (ownOf rs))])))
 rw[e3]
 refine fun a da V hda hne=>?_
 have hsa:s≠a:=fun e=>by rw[<-e,a5] at V;cases V
 obtain⟨U,x⟩:∃ F:List (Str×W),F=([("grammar",cE rs),("own",.dk (ownOf rs)),("steps",.dt stp)]:List (Str×W)):=⟨_,rfl⟩
 rw[<-x] at V hda ⊢
 refine⟨_,a,da,rfl,rfl,V,fun M1 Aq Z hQ=>⟨rfl,_,rfl,s,dx,U,rfl,hQ.sub _ _ a5,by rw[x];exact(show(3:Nat) < 1000 by decide),?_⟩⟩
 have u:=hQ.lift (p:=s) (o:=.ins C.s dx (bX "queue" (.ref a) U)) (.inr ⟨_,a5⟩)
 rw[f9] at u
 obtain⟨i,H⟩:∃ F:List (Str×W),F=bX "queue" (.ref a) U:=⟨_,rfl⟩
 have l4:i.length<=4:=by rw[H];have:=rY "queue" (.ref a) U;rw[x] at this ⊢;exact this
 rw[<-H] at u ⊢
 obtain⟨Mt,hMt⟩:∃ m,m=put M1 s (.ins C.s dx i):=⟨_,rfl⟩
 rw[<-hMt] at u ⊢
 refine fun c hp1=>?_
 obtain⟨t,b1,o1,X⟩:=u5 (fs':=bX "reached" (.ref c) i) u a5 hp1
 refine⟨_,rfl,s,dx,i,rfl,o1,by lia,fun f hp2=>?_⟩
 obtain⟨D,T,o2,Y⟩:=u5 (fs':=bX "best" (.ref f) (bX "reached" (.ref c) i)) X a5 hp2
 have l5:=rY "reached" (.ref c) i
 refine⟨_,rfl,s,dx,_,rfl,o2,by lia,fun d hp3=>?_⟩
 obtain⟨L,J,o3,hQ4⟩:=u5 (fs':=bX "ends" (.ref d) (bX "best" (.ref f) (bX "reached" (.ref c) i))) Y a5 hp3
 have l6:=rY "best" (.ref f) (bX "reached" (.ref c) i)
 refine⟨_,rfl,s,dx,_,rfl,o3,by lia,fun l hp4=>?_⟩
 obtain⟨K,B,o4,y⟩:=u5 (fs':=bX "begun" (.ref l) (bX "ends" (.ref d) (bX "best" (.ref f) (bX "reached" (.ref c) i)))) hQ4 a5 hp4
 have l7:=rY "ends" (.ref d) (bX "best" (.ref f) (bX "reached" (.ref c) i))
 refine⟨_,rfl,s,dx,_,rfl,o4,by lia,_,Sub.refl _,r _ ⟨s,dx,Aq,c,f,d,l⟩ rfl ?_⟩
 obtain⟨A,N⟩:∃ A:Ad,A=⟨s,dx,Aq,c,f,d,l⟩:=⟨_,rfl⟩
 obtain⟨E,hE⟩:∃ E:Env,E=⟨rs,ownOf rs,stp⟩:=⟨_,rfl⟩
 have hsf:bX "begun" (.ref l) (bX "ends" (.ref d) (bX "best" (.ref f) (bX "reached" (.ref c) i)))=sf E A:=by
  rw[<-zf7,H,x,N,hE,<-Z]
 rw[hsf] at y ⊢
 rw[<-N,<-hE]
 have n:f≠c:=fun e=>by rw[e,aQ t,a5] at T;cases T
 have I:d≠c:=fun e=>by rw[e,aQ t,aQ (Ca n),aQ t,a5] at J;cases J
 have G:d≠f:=fun e=>by rw[e,aQ D,a5] at J;cases J
 have O:l≠c:=fun e=>by rw[e,aQ t,aQ (Ca I),aQ t,aQ (Ca n),aQ t,a5] at B;cases B
 have P:l≠f:=fun e=>by rw[e,aQ D,aQ (Ca G),aQ D,a5] at B;cases B
 have S:l≠d:=fun e=>by rw[e,aQ L,a5] at B;cases B
 have z1:z c=none:=by rw[aQ t] at b1;exact b1
 have z2:z f=none:=by rw[aQ D,aQ n,aQ D] at T;exact T
 have z3:z d=none:=by rw[aQ L,aQ G,aQ L,aQ I,aQ L] at J;exact J
 have z4:z l=none:=by rw[aQ K,aQ S,aQ K,aQ P,aQ K,aQ O,aQ K] at B;exact B
 obtain⟨q,v⟩:∃ m,m=put (put (put z s (.ins C.s dx (sf E A))) c (.dT [])) f (.dT []):=⟨_,rfl⟩
 have hB:put (put (put (put (put (put (put (put (put z s (.ins C.s dx i)) c (.dT [])) s (.ins C.s dx (bX "reached" (.ref c) i))) f (.dT [])) s (.ins C.s dx (bX "best" (.ref f) (bX "reached" (.ref c) i)))) d (.dT [])) s (.ins C.s dx (bX "ends" (.ref d) (bX "best" (.ref f) (bX "reached" (.ref c) i))))) l (.dT [])) s (.ins C.s dx (sf E A))=put (put q d (.dT [])) l (.dT []):=by
  rw[v]
  funext b
  unfold put
  by_cases g0:b=s
  ·subst g0;simp[Ca t,Ca D,Ca L,Ca K]
  ·simp only[if_neg g0]
 rw[hB] at y
 have mn:Mn C E z q A [] []:=by
  rw[v,N]
  exact⟨iQ (iQ (iQ (Sub.refl _) h0) z1) z2,h0,z1,z2,Ca t,Ca D,Ca n,by rw[aQ (Ca D),aQ (Ca t),a5],by rw[aQ (Ca n),a5];rfl,by rw[a5];rfl⟩
 have y3:q d=none:=by rw[v,aQ G,aQ I,aQ L];exact z3
 have y4:q l=none:=by rw[v,aQ P,aQ O,aQ K];exact z4
 have t1:d8 eK q (put q d (.dT [])) A.e [] (eG []):=by rw[N];exact⟨Sub.new y3,y3,a5,(fun _ _=>rfl),(fun k ws e=>nomatch e),(fun k j p e=>nomatch e)⟩
 have x4:put q d (.dT []) l=none:=by rw[aQ S];exact y4
 have t2:d8 eK (put q d (.dT [])) (put (put q d (.dT [])) l (.dT [])) A.g [] (gG []):=by rw[N];exact⟨Sub.new x4,x4,a5,(fun _ _=>rfl),(fun k ws e=>nomatch e),(fun k j p e=>nomatch e)⟩
 have hAQ:A.Q=Aq:=by rw[N]
 rw[<-hAQ] at y
 exact⟨q,_,_,[],[],mn,t1,t2,y,Aj _,Aj _,trivial⟩
structure Ln(st:SS)(T:Nat):Prop where
 b:st.best.length<=T
 e:st.ends.length<=T
 g:st.begun.length<=T
theorem Ln.process{G:Sr}{st:SS}{T:Nat}(h:Ln st T)(n:Nat)(cut:List Int)(c:aL):Ln (Rg.process G st n cut c) (T + 1):=by
 have j:=h.b
 have k:=h.e
 have l:=h.g
 have keep:Ln st (T + 1):=⟨by lia,by lia,by lia⟩
 unfold Rg.process
 split
 ·unfold settle
  split
  ·exact keep
  ·obtain⟨d,i,a⟩:=rX (f:=fun y:bQ=>(y.1,y.2.1 ++ [cut.getLastD 0],dU y.2.2 c)) (xs:=(aI st.begun (c8 G n,cut.headD 0)).getD []) (st:={st with best:=st.best ++ [(cZ G n cut,c,n,cut)],ends:=eR st.ends (c8 G n,cut.headD 0) (cut.getLastD 0,c)})
   refine⟨?_,?_,?_⟩
   ·refine Bs (Fj (congrArg Bg a)) ?_
    show(st.best ++ [_]).length<=_
    rw[Am,Bn];lia
   ·refine Bs (Fj (congrArg Bg d)) ?_
    have:=uC st.ends (c8 G n,cut.headD 0) ((aI st.ends (c8 G n,cut.headD 0)).getD [] ++ [(cut.getLastD 0,c)])
    show(cY _ _ _).length<=_
    lia
   ·refine Bs (Fj (congrArg Bg i)) ?_
    exact keep.g
 ·rename_i part _
  split
  ·unfold fJ
   obtain⟨d,i,a⟩:=rX (f:=fun z:Int×aL=>(n,cut ++ [z.1],dU c z.2)) (xs:=(aI st.ends (part,cut.getLastD 0)).getD []) (st:={st with begun:=eR st.begun (part,cut.getLastD 0) (n,cut,c)})
   refine⟨?_,?_,?_⟩
   ·exact Bs (Fj (congrArg Bg a)) keep.b
   ·exact Bs (Fj (congrArg Bg d)) keep.e
   ·refine Bs (Fj (congrArg Bg i)) ?_
    have:=uC st.begun (part,cut.getLastD 0) ((aI st.begun (part,cut.getLastD 0)).getD [] ++ [(n,cut,c)])
    show(cY _ _ _).length<=_
    lia
  ·unfold fS
   obtain⟨d,i,a⟩:=rX (f:=fun z:Int×Int=>(n,cut ++ [z.1],(c.1 + z.2,c.2))) (xs:=G.steps part (cut.getLastD 0)) (st:=st)
   exact⟨Bs (Fj (congrArg Bg a)) keep.b,Bs (Fj (congrArg Bg d)) keep.e,Bs (Fj (congrArg Bg i)) keep.g⟩
theorem Ln.next{G:Sr}{st:SS}{T:Nat}(h:Ln st T):Ln (l9 G st) (T + 1):=by
 have c:=h.b
 have d:=h.e
 have f:=h.g
 have keep:Ln st (T + 1):=⟨by lia,by lia,by lia⟩
 have i:∀ a,Ln {st with q:=a} T:=fun a=>⟨c,d,f⟩
 unfold l9
 split
 ·exact keep
 ·split
  ·split
   ·exact⟨keep.b,keep.e,keep.g⟩
   ·exact(i _).process _ _ _
  ·exact⟨keep.b,keep.e,keep.g⟩
theorem zf9{G:Sr}{V:List Int}{L S r T:Nat}{st:SS}{P:List bQ}{cur:aL}(v:n6 G V G.rs.length L)(R:L < 1000)(A:All G S r st P cur T)(E:∀ t p,(G.steps t p).length<=S)(k:Ln st T)
  (O:r + G.rs.length * ((L + 1) * (V.length * V.length)) * (S + V.length) + G.rs.length * ((L + 1) * (V.length * V.length)) + V.length + S + 1 < 10000000):Rm G st:=by
 obtain⟨M,x,K⟩:=z8 v A
 have a:∀ {n cut c},GI G st.best n cut c->DI G n cut c:=fun {n cut c} g=>z5 (B:=st.best) (fun f m Q u h=>uF A.ob h) g
 have hr:=A.cn.rch
 generalize G.rs.length * ((L + 1) * (V.length * V.length))=X at *
 generalize X * (S + V.length)=Y at *
 have N:=k.b
 have I:=k.e
 have J:=k.g
 have D:∀ key,((aI st.begun key).getD []).length<=X:=fun key=>by
  have:=len_sub (b:=P) (A.cn.bnd key) fun y i=>(A.ob.bgn key y i).1
  lia
 refine⟨fun c n cut H e=>?_,fun key y i=>?_,by lia,by lia,by lia,fun key=>?_,fun key=>?_,fun t p=>?_⟩
 ·have j:st.q≠[]:=fun z=>by rw[z] at e;cases e
  obtain⟨_,_,_,w,_,F,_⟩:=nY A.inv.fall j
  rw[e] at w
  cases w
  have o:(c,(n,cut))∈a7 st.q:=(F _).mpr (.inl rfl)
  have hd:=a (A.inv.item _ o)
  obtain⟨_,s,l⟩:=rO v hd
  obtain⟨d,C,_⟩:=A.inv.ge _ o
  exact⟨hd.ne,by have l:cut.length<=L:=l;lia,s,d,C⟩
 ·have hd:=a (A.inv.pr y (A.ob.bgn key y i).1).2.2
  obtain⟨_,s,l⟩:=rO v hd
  exact⟨by lia,hd.ne⟩
 ·have:=x key
  exact⟨by lia,⟨by lia,by lia⟩⟩
 ·have:=D key
  exact⟨by lia,⟨by lia,by lia⟩⟩
 ·have:=E t p
  exact⟨by lia,by lia⟩
def lC(G:Sr)(i:Nat):List (Nat×Int):=(Cv i).flatMap fun n=>G.places.map fun p=>(n,p)
theorem zga(G:Sr)(i:Nat):lC G (i + 1)=lC G i ++ G.places.map fun p=>(i,p):=by
 unfold lC
 rw[List.range_succ,List.flatMap_append];simp
theorem A7(G:Sr)(i:Nat):(lC G i).length=i * G.places.length:=by
 unfold lC
 rw[rP (k:=G.places.length) fun n _=>by rw[Ab],Je]
abbrev oB(G:Sr):Nat×Int->Nat×List Int×aL:=fun x=>(x.1,[x.2],(G.wt x.1,1))
theorem zgb{a:Type}{f:a->Nat×List Int×aL}{xs ys:List a}{st:SS}:eN f (xs ++ ys) st=eN f ys (eN f xs st):=by
 unfold eN;rw[Ei]
theorem SK.told{C:Cc}{E:Env}{a M:Mm}{A:Ad}{st:SS}{kp:Option (Addr×List W)}(h:SK C E a M A st kp):a A.b=none/\L3.Sub (put a A.b (.dT (e9 fK iR st.best))) M:=by
 obtain⟨n,m,k,e,g,c,f,i,j,o,p,l⟩:=h.ex
 refine⟨c.nb,fun b u e=>?_⟩
 by_cases d:b=A.b
 ·subst d;rw[a5] at e;cases e;exact h.ob
 ·rw[aQ d] at e;exact j.sub _ _ (i.sub _ _ (f.sub _ _ (c.sub _ _ e)))
theorem zgc{n i:Nat}{w:W}(h:(iL 0 n)[i]? = some w):i < n/\w=.int (i:Nat):=by
 unfold iL at h
 rw[Aw] at h
 obtain⟨j,c,rfl⟩:=Bb.mp h
 obtain⟨a,b⟩:=Ak.mp c
 rw[List.getElem_range] at b
 rw[Je] at a
 exact⟨a,by rw[<-b,Int.zero_add]⟩
theorem zgd{lo:Int}{n:Nat}:(iL lo n).length=n:=by unfold iL;simp
theorem zge{C:Cc}{ws:List W}{M:Mm}{R:K3}(h:A5 C ws M R):zfQ C (bB R) (bS zfJ ws) M:=by
 obtain⟨G,E,V,L,S,rfl,hrs,D,ev,ok,v,hL,hpl,hS,hb,r⟩:=h
 refine⟨_,rfl,_,rfl,fun a dx ha hdx hne=>⟨M,a,dx,E.rs,E.stp,rfl,hrs,rfl,ha,fun M1 A hA J=>⟨rfl,?_⟩⟩⟩
 rw[<-D] at J
 have J:SR C E M M1 A gN:=J
 subst hA
 have x:(iB G).length=G.rs.length * G.places.length:=A7 G G.rs.length
 obtain⟨N,hN⟩:∃ N,N=G.rs.length:=⟨_,rfl⟩
 have X:E.rs.length=N:=by rw[hN,ev.rs]
 refine⟨_,rfl,(N:Int),by rw[Ab,X],by lia,by lia,?_⟩
 rw[Du]
 have Y:Sm gN ((iB G).length + 1):=⟨by show 0 + _ < _;lia,by show 0 + _ < _;lia⟩
 refine d5 (fun i k z=>∃ u g,k=[some (cE E.rs),some (.rl (G.places.map W.int)),some (.dt E.stp),some (.rl ((Cv G.rs.length).map fun n=>.int (G.wt n))),some (.ref A.s),u,g]/\SR C E M z A (eN (oB G) (lC G i) gN)) ⟨_,_,rfl,J⟩ (fun _ _ _ _ _=>trivial) ?_ ?_
 ·rintro i w k M2 hw ⟨u,g,rfl,e⟩
  obtain⟨hi,rfl⟩:=zgc hw
  have hmul:(i + 1) * G.places.length<=N * G.places.length:=Nat.mul_le_mul_right _ hi
  rw[<-hN] at x
  refine⟨_,rfl,pJ (d5 (fun j k z=>∃ g,k=[some (cE E.rs),some (.rl (G.places.map W.int)),some (.dt E.stp),some (.rl ((Cv G.rs.length).map fun n=>.int (G.wt n))),some (.ref A.s),some (.int i),g]/\SR C E M z A (eN (oB G) ((G.places.map fun p=>(i,p)).take j) (eN (oB G) (lC G i) gN))) ⟨_,rfl,e⟩ (fun _ _ _ _ _=>trivial) ?_ ?_)⟩
  ·rintro j w k Z hw ⟨g,rfl,c⟩
   rw[Aw] at hw
   obtain⟨pl,t,rfl⟩:=Bb.mp hw
   have hj:=(Ak.mp t).1
   have hx:(G.places.map fun p=>(i,p))[j]? = some (i,pl):=by rw[Aw,t];rfl
   have U:bI ((Cv G.rs.length).map fun n=>W.int (G.wt n)) (i:Int)=some (.int (G.wt i)):=iW (by rw[Aw,List.getElem?_range (by lia)];rfl)
   have smj:Sm (eN (oB G) ((G.places.map fun p=>(i,p)).take j) (eN (oB G) (lC G i) gN)) 1:=by
    refine pV (pV (Y.le ?_))
    rw[A7,Cw,Ab,x,Lw] at *
    lia
   refine⟨_,rfl,A.s,A.d,_,rfl,c.os,uW,_,rfl,_,rfl,z1,_,rfl,_,rfl,_,U,z2,E,M,A,_,i,[pl],(G.wt i,1),none,rfl,c,by simp,smj,fun M4 hs4=>⟨M4,Sub.refl _,_,rfl,?_⟩⟩
   rw[uZ hx]
   exact hs4
  ·rintro k Z ⟨g,rfl,c⟩
   refine⟨Z,Sub.refl _,_,_,rfl,?_⟩
   rw[zga,zgb]
   rw[Ab,Gn (by rw[Ab];exact Aj _)] at c
   exact c
 ·rintro k M2 ⟨u,g,rfl,e⟩
  rw[zgd] at e
  have H:eN (oB G) (lC G N) gN=k9 G:=by rw[hN];rfl
  rw[H] at e
  have ln0:Ln (k9 G) 0:=by
   obtain⟨a1,a2,a3⟩:=rX (f:=oB G) (xs:=lC G N) (st:=gN)
   rw[H] at a1 a2 a3
   exact⟨by rw[a3];exact Aj _,by rw[a1];exact Aj _,by rw[a2];exact Aj _⟩
  obtain⟨y,K⟩:∃ y,y=(iB G).length + G.rs.length * ((L + 1) * (V.length * V.length)) * (S + V.length):=⟨_,rfl⟩
  refine⟨fun m k z=>∃ st P cur T u g,k=[some (cE E.rs),some (.rl (G.places.map W.int)),some (.dt E.stp),some (.rl ((Cv G.rs.length).map fun n=>.int (G.wt n))),some (.ref A.s),u,g]/\SR C E M z A st/\All G S (iB G).length st P cur T/\Ln st T/\m=y - T/\st=A2 G T,⟨_,_,_,_,_,_,_,rfl,e,LS ok S,ln0,rfl,rfl⟩,?_⟩
  rintro m k Z ⟨st,P,cur,T,u,g,rfl,c,A3,F,rfl,l⟩
  obtain⟨M4,hQ,back⟩:=c.que
  refine⟨_,rfl,A.s,A.d,_,_,rfl,c.os,AU,A.Q.o,A.Q.d,_,rfl,hQ.ob,zez,M4,A.Q,st.q,rfl,hQ,fF (b:=!decide (st.q=[])) (fun h=>?_) fun h=>?_⟩
  ·have I:¬ st.q=[]:=of_decide_eq_false (by rw[<-Lp (decide _),h];rfl)
   have rm:=zf9 v hL A3 hS F hb
   obtain⟨_,_,f3⟩:=z8 v A3
   rw[<-K] at f3
   have hpos:=Dg.mpr I
   have hql:=uP c.fall
   obtain⟨P',B,A4⟩:=LR ok A3 hS I
   exact⟨_,rfl,A.s,A.d,_,rfl,c.os,ze6,G,E,M,A,st,rfl,c,ev,I,rm,fun M5 O=>⟨_,M5,(by lia:y - (T + 1) < y - T),Sub.refl _,_,P',B,T + 1,_,_,rfl,O,A4,F.next,rfl,congrArg (l9 G) l⟩⟩
  ·have I:st.q=[]:=of_decide_eq_true (by rw[<-Lp (decide _),h];rfl)
   obtain⟨y1,y2⟩:=c.told
   exact⟨_,rfl,A.s,A.d,_,_,rfl,c.os,AW,_,y2,r st.best ⟨S,_,st,P,cur,T,A3,I,rfl,l⟩ A.b y1⟩
end Rg
namespace L2
open PySem PySem.Spec PyProof.Rows
section
variable {X:Cx}{pins:List (Addr×Obj)}{σ:St}{H:Hp}{s:Ah}{a:Addr}{u:HO}
def IsDict(u:HO):Prop:=(∃ ks,u=.dK ks)\/∃ ks,u=.dT ks
theorem Inv.frzD(I:Inv X pins σ H s)(e:H a=some u)(hd:IsDict u):∃ o,Inv X pins σ (aR H a (.frz o u)) s:=by
 obtain⟨o,k⟩:∃ o,s.heap.get? a=some o:=by
  have:=I.hok a u e
  rcases hd with⟨ks,rfl⟩ | ⟨ks,rfl⟩
  ·obtain⟨_,_,_,_,o,_,_,e,_⟩:=this;exact⟨o,e⟩
  ·obtain⟨_,_,_,_,o,_,_,e,_⟩:=this;exact⟨o,e⟩
 refine⟨o,?_⟩
 have ne:∀ {b:Addr} {v:HO},H b=some v->v≠u->b≠a:=fun {b v} f h z=>by subst z;rw[e] at f;exact h (Cp f).symm
 have p:∀ {b:Addr},H b=none->b≠a:=fun {b} f z=>by subst z;rw[e] at f;cases f
 have g:∀ b xs,H b=some (.tup xs)->aR H a (.frz o u) b=some (.tup xs):=fun b xs d=>by
  rw[bE (ne d (fun z=>by rcases hd with⟨ks,rfl⟩ | ⟨ks,rfl⟩ <;> cases z))];exact d
 have j:∀ b y,H b=some (.own y)->aR H a (.frz o u) b=some (.own y):=fun b y d=>by
  rw[bE (ne d (fun z=>by rcases hd with⟨ks,rfl⟩ | ⟨ks,rfl⟩ <;> cases z))];exact d
 refine I.step (h':=s.heap) (g':=s.gens) (d':=s.drawn) (t':=s.toks) (ch:=[]) (fun _ z=>nomatch z) (fun b o _ _ _ f _=>f) (fun b o _ _ _ f _=>⟨o.slots,f⟩) (fun b o _ _ n=>by rw[bE (p n)];exact n) (fun b o _ f=>⟨o,f⟩) g
  (fun b ob v d=>?_) (fun b ps d=>⟨#[],?_⟩) (fun m l=>l) (fun b v d=>?_) I.bare
 ·rw[bE (ne d (fun z=>by rcases hd with⟨ks,rfl⟩ | ⟨ks,rfl⟩ <;> cases z))];exact d
 ·rw[bE (ne d (fun z=>by rcases hd with⟨ks,rfl⟩ | ⟨ks,rfl⟩ <;> cases z)),d];simp
 ·by_cases i:b=a
  ·subst i
   rw[cM] at d
   cases d
   exact⟨k,(I.hok b u e).stay (fun _ _ _ q=>q) (fun c q=>j c b q) g⟩
  ·rw[bE i] at d
   exact(I.hok b v d).stay (fun _ _ _ q=>q) (fun c q=>j c b q) g
def zgf(Q:VK):VK:=fun v H=>∃ a u,v=.ref a/\H a=some u/\IsDict u/\∀ o,Q v (aR H a (.frz o u))
theorem zgg{e:Expr}{t:TE}(h:PE X e t):PE X e (fun σ H Q=>t σ H (zgf Q)):=fun pins s σ H Q I q=>
 a6 (h pins s σ H _ I q) fun v j ⟨x,l,f,i,a,u,k,c,b,g⟩=>by
  obtain⟨o,d⟩:=f.frzD c b
  exact⟨x,_,d,i,g o⟩
def u6(a:Addr)(o:Obj)(u:HO)(xs:List V):It:=
 ⟨fun i H=>H a=some (.frz o u)/\i < xs.length,fun i H x b=>b=H/\xs[i]? = some x,fun i H=>H a=some (.frz o u)/\xs.length<=i⟩
theorem MS{P:Ay}{w:Bq}{K:Ac}{C:Expr}(a f:Addr)(o:Obj)(u:HO)(xs:List V)(es:Array Dw)(ep:Nat)(hd:o.data=.dict es ep)(O:es.size=xs.length)(L:∀ (i:Nat) (e:Dw),es[i]? = some e->∃ x,xs[i]? = some x/\RelV x e.key) :
  kF P w K C (u6 a o u xs) [f] f (fun i h=>h.IsKeyIter f a i es.size ep) where
 mem:=by simp
 obj:=fun i h st b j=>by
  have e:b=f:=by simpa using j
  subst e
  obtain⟨o,e,c,d⟩:=st
  exact⟨o,e,fun v z=>by rw[d] at z;cases z⟩
 keep:=fun i h h' st k=>st.at fun o e=>k f (by simp) o e
 item:=by
  intro X l hw m hc i pins s σ H E I hf st n
  subst l hw m
  obtain⟨t,hi⟩:=n
  have r:s.heap.get? a=some o:=(show cA X.prog X.w H s.heap a (.frz o u) from I.hok a _ t).1
  have g:i < es.size:=by omega
  obtain⟨x,p,J⟩:=L i es[i] (by simp[g])
  obtain⟨B,D,N,y,F,A⟩:=hf f (by simp)
  refine HE st r hd g fun h' st' sb=>?_
  have G:Inv X pins σ H {s with heap:=h'}:=I.turned (t':=s.toks) (fun b o j e=>(sb.2 b j).trans e) B D y F A
  obtain⟨Q,e,c,d⟩:=id st'
  exact⟨_,rfl,p5 (s:={s with heap:=h'}) e c d (by decide) ⟨x,H,G,J,⟨rfl,p⟩,st',fun b j=>(hf b j).1⟩⟩
 done:=by
  intro X l hw m hc i pins s σ H E I hf st n
  subst l hw m
  obtain⟨t,hi⟩:=n
  have r:s.heap.get? a=some o:=(show cA X.prog X.w H s.heap a (.frz o u) from I.hok a _ t).1
  refine HF (I.ok.hd hc) st r hd (by omega) fun h' hk=>⟨rfl,?_⟩
  exact I.turnedT (tk:=s.toks) hf fun q o M eq=>hk q o (fun z=>M (by simp[z])) eq
 self:=fun _ _ _ _ _ st h=>wpAny_pyIter_keyiter st h
end
end L2
namespace L3
open PySem PySem.Spec PyProof.Rows L2
section
variable {X:Cx}{e:Expr}{te:aW}
def u7(t:aW):aW:=fun b M R=>t b M fun w a=>∃ p,w=.ref p/\((∃ kvs,a p=some (.dK kvs)/\R (.fk kvs) (del a p))\/∃ kvs,a p=some (.dT kvs)/\R (.ft kvs) (del a p))
theorem MT{K:Ac}{H:Hp}{M:Mm}{p:Addr}{o:Obj}{u:HO}{x:MO}(g:AM K H M)(e:M p=some x)(hd:IsDict u)(k:H p=some u):Go H M (aR H p (.frz o u)) (del M p)/\AM K (aR H p (.frz o u)) (del M p)/\Kp H M (aR H p (.frz o u)) (del M p):=by
 have f:∀ {b:Addr},M b=none->b≠p:=fun {b} h z=>by subst z;rw[e] at h;cases h
 have go:Go H M (aR H p (.frz o u)) (del M p):=by
  refine⟨fun b xs d=>?_,fun b ob v d=>?_,fun b v n d=>?_⟩
  ·rw[bE (f (g.noTup d))];exact d
  ·rw[bE (f (g.noFrz d))];exact d
  ·rw[bE (f n),xI (f n)];exact⟨d,n⟩
 refine⟨go,fun a j c=>?_,fun a v n c=>?_,fun a v c=>?_⟩
 ·have ne:a≠p:=fun z=>by rw[z,oS] at c;cases c
  rw[xI ne] at c
  exact(g a j c).go go (bE ne)
 ·rw[bE (f n),xI (f n)];exact⟨c,n⟩
 ·by_cases i:a=p
  ·subst i;exact⟨_,cM⟩
  ·obtain⟨y,q⟩:=(g a v c).has
   exact⟨y,by rw[bE i];exact q⟩
theorem MU(h:E3 X e te):E3 X e (u7 te):=
 (zgg h).weak fun σ H Q j=>j.el fun m M R l i h k=>⟨m,M,_,l,i,h,fun v n w s d a av ⟨p,hw,r⟩=>by
  subst hw
  obtain rfl:=av.inv
  rcases r with⟨kvs,e,r⟩ | ⟨kvs,e,r⟩
  ·obtain⟨ks,f,q⟩:=a _ _ e
   refine⟨p,.dK ks,rfl,f,.inl ⟨_,rfl⟩,fun o=>?_⟩
   obtain⟨g,b,c⟩:=MT (o:=o) a e (.inl ⟨_,rfl⟩) f
   exact k _ _ _ _ (d.trans c) b (.fk cM q.keys (q.vals.go g)) r
  ·obtain⟨ks,f,q⟩:=a _ _ e
   refine⟨p,.dT ks,rfl,f,.inr ⟨_,rfl⟩,fun o=>?_⟩
   obtain⟨g,b,c⟩:=MT (o:=o) a e (.inr ⟨_,rfl⟩) f
   exact k _ _ _ _ (d.trans c) b (.ft cM q.keys (q.vals.go g)) r⟩
def u9:W->Mm->(List W->(Mm->Prop)->Mm->Prop)->Prop
 | .fk kvs,a,R=>R (kvs.map fun p=>wK p.1) (fun _=>True) a
 | .ft kvs,a,R=>R (kvs.map fun p=>.tup (p.1.map wK)) (fun _=>True) a
 | _,_,_=>False
theorem MV{K:Ac}{b:Hp}{f:Mm}{a:Addr}{o:Obj}{u:HO}{xs:List V}{ws:List W}(c:AM K b f)(e:b a=some (.frz o u))(g:aM K b f xs ws):i7 K b f (u6 a o u xs) ws fun _=>True:=by
 have st:∀ H M,Kp b f H M->H a=some (.frz o u):=fun H M k=>(k.fr _ _ (c.noFrz e) e).1
 refine⟨fun i H M k d _ hi=>⟨st H M k,by rw[g.length];exact hi⟩,fun H M k d _=>⟨st H M k,by rw[g.length];exact Aj _⟩,fun i H M x h k d _ hi y=>?_⟩
 obtain⟨rfl,y⟩:=y
 obtain⟨w,hw,av⟩:=(g.kp c k).getV y
 exact⟨w,hw,Kp.refl d,d,av⟩
theorem MW{K:Ac}{H:Hp}{M:Mm}:∀ k:aD,AV K H M (kV k) (wK k)
 | .inl i=>.int i
 | .inr x=>.str x
theorem zgh{P:Ay}{w:Bq}{H:Hp}{h:Heap}{a:Addr}{ks:List (aD×V)}{o:Obj}(ok:cR P w H h)(e:H a=some (.frz o (.dK ks))) :
  ∃ es ep,gR h a es ep/\o.data=.dict es ep/\(a == Eg)=false/\es.size=ks.length/\∀ (i:Nat) (en:Dw),es[i]? = some en->∃ p,ks[i]? = some p/\RelV (kV p.1) en.key/\RelV p.2 en.val:=by
 obtain⟨j,hz,d,vs,c,F,es,ep,l,s,f,C,m,D⟩:=(show cA P w H h a (.frz o (.dK ks)) from ok a _ e)
 rw[j] at l
 cases l
 have G:=c.length
 have u:=m.length
 rw[Fn] at u
 refine⟨es,ep,⟨o,j,s,f⟩,f,d,by omega,fun i en b=>?_⟩
 have hi:=(Kb.mp b).1
 obtain⟨⟨k,x⟩,g⟩:∃ v,vs[i]? = some v:=⟨_,Bp (by omega)⟩
 obtain⟨z1,z2⟩:=m.get? (by rw[Fx];exact b) g
 have:∀ {ks:List (aD×V)} {vs:List (aD×Ae)} {i:Nat},KV ks vs->vs[i]? = some (k,x)->∃ v,ks[i]? = some (k,v)/\RelV v x:=by
  intro ks vs i r
  induction r generalizing i with
  | nil=>intro h;simp at h
  | @cons p q ps qs n t z=>
   intro h
   cases i with
   | zero=>simp at h;subst h;obtain⟨E,y⟩:=p;cases n.1;exact⟨y,rfl,n.2⟩
   | succ i=>rw[Eb] at h ⊢;exact z h
 obtain⟨v,A,B⟩:=this c g
 exact⟨(k,v),A,sZ z1,by rw[z2];exact B⟩
theorem zgi{P:Ay}{w:Bq}{H:Hp}{h:Heap}{a:Addr}{ks:List (List aD×V)}{o:Obj}(ok:cR P w H h)(e:H a=some (.frz o (.dT ks))) :
  ∃ es ep,gR h a es ep/\o.data=.dict es ep/\(a == Eg)=false/\es.size=ks.length/\∃ l:List Addr,l.length=ks.length/\(∀ (i:Nat) (p:List aD×V) (b:Addr),ks[i]? = some p->l[i]? = some b->H b=some (.tup (p.1.map kV)))/\
   ∀ (i:Nat) (en:Dw),es[i]? = some en->∃ p b,ks[i]? = some p/\l[i]? = some b/\en.key=.ref b/\RelV p.2 en.val:=by
 obtain⟨u,hz,j,xs,c,E,es,ep,v,z,n,s,G⟩:=(show cA P w H h a (.frz o (.dT ks)) from ok a _ e)
 rw[u] at v
 cases v
 have F:=Ki s
 have D:=Cu c
 refine⟨es,ep,⟨o,u,z,n⟩,n,j,by omega,xs.map fun x=>x.2.1,by rw[Ab];omega,fun i p b A y=>?_,fun i en d=>?_⟩
 ·rw[Aw] at y
  obtain⟨x,f,rfl⟩:=Bb.mp y
  have:∀ {ks:List (List aD×V)} {xs:List (List aD×Addr×Ae)} {i:Nat},Fm (fun(p:List aD×V) (q:List aD×Addr×Ae)=>p.1=q.1/\H q.2.1=some (.tup (p.1.map kV))/\RelV p.2 q.2.2) ks xs->ks[i]? = some p->xs[i]? = some x->H x.2.1=some (.tup (p.1.map kV)):=by
   intro ks xs i r
   induction r generalizing i with
   | nil=>intro h;simp at h
   | @cons p q ps qs m t k=>
    intro h g
    cases i with
    | zero=>simp at h g;subst h;subst g;exact m.2.1
    | succ i=>rw[Eb] at h g;exact k h g
  exact this c A f
 ·rw[entry_at s i] at d
  obtain⟨x,f,rfl⟩:=Bb.mp d
  have:∀ {ks:List (List aD×V)} {xs:List (List aD×Addr×Ae)} {i:Nat},Fm (fun(p:List aD×V) (q:List aD×Addr×Ae)=>p.1=q.1/\H q.2.1=some (.tup (p.1.map kV))/\RelV p.2 q.2.2) ks xs->xs[i]? = some x->∃ p,ks[i]? = some p/\RelV p.2 x.2.2:=by
   intro ks xs i r
   induction r generalizing i with
   | nil=>intro h;simp at h
   | @cons p q ps qs m t k=>
    intro h
    cases i with
    | zero=>simp at h;subst h;exact⟨p,rfl,m.2.2⟩
    | succ i=>rw[Eb] at h ⊢;exact k h
  obtain⟨p,B,C⟩:=this c f
  exact⟨p,x.2.1,B,by rw[Aw,f];rfl,rfl,C⟩
theorem zgj{A:Expr}:mS X A (tR X.K u9):=by
 rintro pins s σ H x u D I y ⟨E,M,R,C,j,h,k⟩
 cases C <;> first | exact(show False from h).elim | skip
 case fk a o ks kvs e ke q=>
  cases (show u=Value.ref a from y)
  obtain⟨es,ep,hr,hd,g,hsz,f⟩:=zgh I.hok e
  have fp:∀ b∈[s.heap.objs.size],gZ X pins H b:=fun b v=>by
   have e:b=s.heap.objs.size:=by simpa using v
   subst e
   exact I.fpOk (Aj _) (I.hok.fresh (Aj _))
  refine xH g hr ⟨s.heap.objs.size,[s.heap.objs.size],_,u6 a o (.dK ks) (ks.map fun p=>kV p.1),H,rfl,I.kept (t':=s.toks) fun b o e=>Ag _ e,MS a _ o _ _ es ep hd (by rw[Ab];exact hsz) (fun i en t=>?_),⟨_,Ar _ rfl,rfl,rfl⟩,fp,k _ _ _ _ _ (Kp.refl j) j (MV j e ?_) h⟩
  ·obtain⟨p,n,m,_⟩:=f i en t
   exact⟨kV p.1,by rw[Aw,n];rfl,m⟩
  ·have hk:(ks.map fun p=>kV p.1)=(ks.map Ci).map kV:=by rw[Bx];rfl
   have hw:(kvs.map fun p=>wK p.1)=(kvs.map Ci).map wK:=by rw[Bx];rfl
   rw[hk,hw,ke]
   generalize kvs.map Ci=l
   induction l with
   | nil=>exact .nil
   | cons z l w=>exact .cons (MW z) w
 case ft a o ks kvs e ke q=>
  cases (show u=Value.ref a from y)
  obtain⟨es,ep,hr,hd,g,hsz,c,hl,d,f⟩:=zgi I.hok e
  have fp:∀ b∈[s.heap.objs.size],gZ X pins H b:=fun b v=>by
   have e:b=s.heap.objs.size:=by simpa using v
   subst e
   exact I.fpOk (Aj _) (I.hok.fresh (Aj _))
  refine xH g hr ⟨s.heap.objs.size,[s.heap.objs.size],_,u6 a o (.dT ks) (c.map V.ref),H,rfl,I.kept (t':=s.toks) fun b o e=>Ag _ e,MS a _ o _ _ es ep hd (by rw[Ab];omega) (fun i en t=>?_),⟨_,Ar _ rfl,rfl,rfl⟩,fp,k _ _ _ _ _ (Kp.refl j) j (MV j e ?_) h⟩
  ·obtain⟨p,b,n,m,B,_⟩:=f i en t
   exact⟨.ref b,by rw[Aw,m];rfl,by rw[B];rfl⟩
  ·have hw:(kvs.map fun p=>W.tup (p.1.map wK))=(ks.map Ci).map fun z=>W.tup (z.map wK):=by rw[ke,Bx];rfl
   rw[hw]
   have:∀ (ks:List (List aD×V)) (c:List Addr),c.length=ks.length->(∀ (i:Nat) (p:List aD×V) (b:Addr),ks[i]? = some p->c[i]? = some b->H b=some (.tup (p.1.map kV)))->aM X.K H M (c.map V.ref) ((ks.map Ci).map fun z=>W.tup (z.map wK)):=by
    intro ks
    induction ks with
    | nil=>intro c hl _;cases c with
     | nil=>exact .nil
     | cons b r=>simp at hl
    | cons p ks w=>
     intro c hl d
     cases c with
     | nil=>simp at hl
     | cons b r=>
      refine .cons (.tup (d 0 p b rfl rfl) (zL p.1)) (w r (by simpa using hl) fun i p b n m=>d (i + 1) p b (by simpa using n) (by simpa using m))
   exact this ks c hl d
theorem zgk{a l:Expr}{tl:aW}(hl:E3 X l tl):PI X a l (gH X.K (cC u9 tl)):=xZ hl zgj
end
end L3
namespace PySem
namespace Dt
open PyProof.Rows L2 PySem.Spec
open Zd (TK allH LA rG)
section
variable {prog:Ay}{w:Bq}{A:Cr}{E:Ae->Ah->Prop}{s:Ah}
theorem loop{d I l:Addr}{items:Array Ae}{ps:List (List aD×Addr×Ae)}{R:Result->Ah->Prop}(hh:A.handled=none)(hu:(TK prog w).room A.in1)(J:d≠I)(O:d≠l)(E:l≠I)(hn:ps.length=items.size)(hz:items.size<=Ai)(hk:∀ p∈ps,p.2.1≠I/\p.2.1≠d) :
  ∀ (k i:Nat) (s:Ah) (es:List (List aD×Addr×Ae)),items.size - i=k->i<=items.size->es.length<=i->s.heap.IsListIter I l i->s.heap.IsList l items->s.heap.DictOfH (TK prog w) d es->(∀ e∈es,e∈ps\/∃ p∈ps,p.2.1=e.2.1)->
  (∀ p∈ps,(TK prog w).is s.heap p.1 p.2.1)->
  (∀ (j:Nat) (p:List aD×Addr×Ae),ps[j]? = some p->∃ (a:Addr),items[j]? = some (.ref a)/\a≠d/\a≠I/\s.heap.IsTuple a #[.ref p.2.1,p.2.2])->
  (∀ h' tk,(∀ b o,b≠d->b≠I->s.heap.get? b=some o->h'.get? b=some o)->h'.DictOfH (TK prog w) d (allH es (ps.drop i))->R (.ok (.ret .none)) {s with heap:=h',toks:=tk})->
  Kt (Bu prog w) A (.builtin "dict.update.loop" ⟨[.ref d,.ref I,Ii (i:Int),.none],[]⟩) R s:=by
 intro k
 have m:∀ {h h':Heap} {es:List (List aD×Addr×Ae)},h.DictOfH (TK prog w) d es->(∀ e∈es,e∈ps\/∃ p∈ps,p.2.1=e.2.1)->(∀ c o,c≠I->h.get? c=some o->h'.get? c=some o)->h'.DictOfH (TK prog w) d es:=by
  rintro h h' es ⟨o,en,ep,B,hc,hdd,C,Z,hn⟩ f r
  refine⟨o,en,ep,r d o J B,hc,hdd,C,fun x F=>rG (Z x F) fun o' e=>?_,hn⟩
  have:x.2.1≠I:=by
   rcases f x F with q | ⟨p,q,X⟩
   ·exact(hk x q).1
   ·have:=(hk p q).1;rw[X] at this;exact this
  exact r _ _ this e
 induction k with
 | zero=>
  intro i s es r hi hl hit hls hd f u S M
  have hin:i=items.size:=by lia
  refine Ja Dp.entry_loop ?_
  rw[Fz Dp.plain_loop _]
  show Bf _ A.in1 (Gp (.ref I) >>= _) _ _ s
  have W:=Ld (prog:=prog) (w:=w) (A:=A.in1) hh I l E items
  refine Aa (W.done s _ _ (by rw[<-hin];exact⟨hit,hls⟩) fun h' tk r=>?_)
  show Bf _ A.in1 (Builtin.Dict.addKeywords d [] >>= _) _ _ _
  refine Aa (Af (Af (M h' tk (fun b o _ hb e=>r b o (by simp[hb]) e) ?_)))
  rw[List.drop_of_length_le (by lia)]
  exact m hd f fun c o hc e=>r c o (by simp[hc]) e
 | succ k ih=>
  intro i s es r hi hl hit hls hd f u S M
  have H:i < items.size:=by lia
  refine Ja Dp.entry_loop ?_
  rw[Fz Dp.plain_loop _]
  show Bf _ A.in1 (Gp (.ref I) >>= _) _ _ s
  have W:=Ld (prog:=prog) (w:=w) (A:=A.in1) hh I l E items
  refine Aa (W.item i s _ _ H ⟨hit,hls⟩ fun v h' tk hv K r=>?_)
  obtain⟨p,y⟩:∃ p,ps[i]? = some p:=⟨_,Bp (by lia)⟩
  have D:p∈ps:=Av y
  obtain⟨a,ha,had,haI,Q⟩:=S i p y
  rw[ha] at hv
  cases hv
  have hd':=m hd f fun c o hc e=>r c o (by simp[hc]) e
  have g:∀ q∈ps,(TK prog w).is h' q.1 q.2.1:=fun q z=>rG (u q z) fun o e=>r _ o (by simp[(hk q z).1]) e
  have G:h'.IsTuple a #[.ref p.2.1,p.2.2]:=by
   obtain⟨o,B,rest⟩:=Q
   exact⟨o,r a o (by simp[haI]) B,rest⟩
  show Bf _ A.in1 (Hr [Value.ref a] _ >>= _) _ _ _
  refine Aa (Cy (Aa (wpAny_tryCatch ?_)))
  unfold Builtin.Dict.pairItems
  obtain⟨o,B,hc,n,P⟩:=G
  refine Aa (Kr (T:="tuple") ⟨o,B,hc⟩ ?_)
  rw[if_pos (by decide)]
  refine Aa (Mv B P (Af ?_))
  show Bf _ _ (Hr [Value.ref p.2.1,p.2.2] (dictSet d (.ref p.2.1) p.2.2)) _ _ _
  refine Cy (wpAny_dictSet_heap (knd:=TK prog w) hu (g p D) hd' (hsz:=by lia) fun N Y t=>?_)
  have e1:ps.drop i=p :: ps.drop (i + 1):=by rw[Kq (by lia)];congr 1;exact(Ak.mp y).2
  refine Af ⟨Lr Dp.plain_loop _,?_⟩
  refine ih (i + 1) _ (Ll es p.1 p.2.1 p.2.2) (by lia) H (by have:=LA es p.1 p.2.1 p.2.2;lia) (K.1.at fun o e=>(t.2 I (Ca J)).trans e) (K.2.at fun o e=>(t.2 l (Ca O)).trans e) Y (fun e C=>?_) (fun q z=>rG (g q z) fun o e=>(t.2 _ (hk q z).2).trans e) (fun j q z=>?_) fun h3 tk3 V U=>?_
  ·unfold Ll at C
   split at C
   ·obtain⟨L,he0,rfl⟩:=Ao.mp C
    have:(putAt p.1 p.2.2 L).2.1=L.2.1:=by unfold putAt;split <;> rfl
    rw[this]
    rcases f L he0 with q | ⟨p',q,X⟩
    ·exact .inr ⟨L,q,rfl⟩
    ·exact .inr ⟨p',q,X⟩
   ·rcases Bh.mp C with q | q
    ·exact f e q
    ·obtain rfl:=Ax.mp q
     exact .inl D
  ·obtain⟨a,g1,g2,g3,⟨o,g4,g5⟩⟩:=S j q z
   exact⟨a,g1,g2,g3,⟨o,(t.2 a g2).trans (r a o (by simp[g3]) g4),g5⟩⟩
  ·refine M h3 tk3 (fun b o h1 N e=>V b o h1 N ((t.2 b h1).trans (r b o (by simp[N]) e))) ?_
   rw[e1];exact U
theorem call_pairs{l:Addr}{items:Array Ae}{c:Nat}{ps:List (List aD×Addr×Ae)}{Q:Ae->Ah->Prop}(hh:A.handled=none)(R:A.units + 2 < Es)(t:s.heap.get? l=some {cls:=.type "list",data:=.seq items c})(U:ps.length=items.size)(hz:items.size<=Ai)
  (f:∀ p∈ps,(TK prog w).is s.heap p.1 p.2.1)
  (g:∀ (j:Nat) (p:List aD×Addr×Ae),ps[j]? = some p->∃ (a:Addr),items[j]? = some (.ref a)/\s.heap.IsTuple a #[.ref p.2.1,p.2.2])
  (h:∀ h' tk,(∀ b o,s.heap.get? b=some o->h'.get? b=some o)->h'.DictOfH (TK prog w) s.heap.objs.size (allH [] ps)->Q (.ref s.heap.objs.size) {s with heap:=h',toks:=tk}) :
  Bf (Bu prog w) A (call (.type "dict") [.ref l]) Q E s:=by
 refine callType_codes (Q₁:=fun obj k=>obj=.ref s.heap.objs.size/\k = {s with heap:=s.heap.push {cls:=.type "dict",data:=.dict #[]}}) F.kt_called_dict (F.kt_typeCall_dict_1 _) F.entry_dict_init (kt_code_dict_new _ ⟨rfl,rfl⟩) ?_
 rintro obj k ⟨rfl,rfl⟩
 have lt:l < s.heap.objs.size:=Bc t
 have i:(s.heap.push {cls:=.type "dict",data:=.dict #[]}).DictOfH (TK prog w) s.heap.objs.size []:=Heap.DictOfH.new s.heap
 have m:(s.heap.push {cls:=.type "dict",data:=.dict #[]}).get? l=some {cls:=.type "list",data:=.seq items c}:=Ag _ t
 have v:({s with heap:=s.heap.push {cls:=.type "dict",data:=.dict #[]}}:Ah).TypeIs (.ref s.heap.objs.size) "dict":=i.typeIs
 refine⟨v,F.args_dict_init_2 _ _,?_⟩
 unfold Ih.«dict.__init__»
 refine Aa ?_
 unfold Builtin.Dict.selfAndRest
 refine Aa (Fi v ?_)
 show Bf _ _ (pure (s.heap.objs.size,[Value.ref l])) _ _ _
 refine Af ?_
 show Bf _ _ (Ho "dict.__init__" s.heap.objs.size (.ref l) [] .none) _ _ _
 unfold Ho
 refine Aa (Kr (T:="list") ⟨_,m,rfl⟩ ?_)
 rw[if_pos (by decide)]
 refine Aa (Dp.keys_miss m hh fun r tk1 q=>?_)
 rw[if_pos (by decide)]
 have y:=q _ _ m
 have u:r.DictOfH (TK prog w) s.heap.objs.size []:=by
  obtain⟨o,es,ep,z,H,C,G,S,K⟩:=i
  exact⟨o,es,ep,q _ o z,H,C,G,(fun x t=>nomatch t),K⟩
 refine Aa (Gz (Aa (Hq (items:=items) ⟨_,y,rfl,c,rfl⟩ ?_)))
 have V:(r.push {cls:=.type "list_iterator",data:=.fields #[.ref l,.int 0 0]}).IsListIter r.objs.size l 0:=⟨_,Ar _ rfl,rfl,rfl⟩
 have up:∀ b o,s.heap.get? b=some o->(r.push {cls:=.type "list_iterator",data:=.fields #[.ref l,.int 0 0]}).get? b=some o:=fun b o e=>Ag _ (q b o (Ag _ e))
 have B:s.heap.objs.size < r.objs.size:=by
  obtain⟨o,es,ep,z,rest⟩:=u
  exact Bc z
 have O:∀ p∈ps,@LT.lt Nat _ p.2.1 s.heap.objs.size:=fun p g=>by
  obtain⟨o,items,n,e,_⟩:=f p g
  exact Bc e
 refine Af ⟨Lr Dp.plain_loop _,?_⟩
 refine loop (A:=A.in1) (d:=s.heap.objs.size) (I:=r.objs.size) (l:=l) (items:=items) (ps:=ps) hh (Et (A:=A.in1) (show(A.units + 1) + 1 < Es from R)) (Bj B) (Gq lt) (Bj (Hu lt B)) U hz (fun p g=>⟨Bj (Hu (O p g) B),Bj (O p g)⟩) items.size 0 _ [] rfl (De _) (Aj _) V ⟨_,Ag _ y,rfl,c,rfl⟩ (by
  obtain⟨o,es,ep,z,H,C,G,S,K⟩:=u
  exact⟨o,es,ep,Ag _ z,H,C,G,(fun x t=>nomatch t),K⟩) (fun e Z=>nomatch Z) (fun p g=>rG (f p g) (up _)) (fun j p X=>?_) fun P J L D=>?_
 ·obtain⟨a,W,⟨o,N,Y⟩⟩:=g j p X
  have M:=Bc N
  exact⟨a,W,Bj M,Bj (Hu M B),⟨o,up a o N,Y⟩⟩
 ·exact⟨rfl,h P J (fun b o e=>L b o (Bj (Bc e)) (Bj (Hu (Bc e) B)) (up b o e)) D⟩
end
end Dt
end PySem
namespace L3
open PySem PySem.Spec PyProof.Rows L2
section
variable {X:Cx}
def vA(ps:List (List aD×W)):List W:=ps.map fun p=>.tup [.tup (p.1.map wK),p.2]
theorem MX{c:List (Addr×Obj)}{F:L2.St}{H:Hp}{M:Mm}{s:Ah}(I:L2.Inv X c F H s):∀ {ps:List (List aD×W)} {vs:List V} {its:List Ae},aM X.K H M vs (vA ps)->aZ vs its->
  ∃ (qs:List (List aD×Addr×V)) (rs:List (List aD×Addr×Ae)),bK X.K H M (List aD) (qs.map fun q=>(q.1,q.2.2)) ps/\(∀ q∈qs,H q.2.1=some (.tup (q.1.map kV)))/\Fm (fun(q:List aD×Addr×V) (p:List aD×Addr×Ae)=>q.1=p.1/\q.2.1=p.2.1/\RelV q.2.2 p.2.2) qs rs/\rs.length=its.length/\
   (∀ z∈rs,H z.2.1=some (.tup (z.1.map kV)))/\∀ (j:Nat) (p:List aD×Addr×Ae),rs[j]? = some p->∃ (a:Addr),its[j]? = some (.ref a)/\s.heap.IsTuple a #[.ref p.2.1,p.2.2]
 | [],_,_,.nil,.nil=>⟨[],[],.nil,(fun q g=>nomatch g),.nil,rfl,(fun q g=>nomatch g),fun j p h=>by simp at h⟩
 | (k,w) :: ps,_,_,.cons av i,.cons o d=>by
  obtain⟨qs,rs,x,J,A,D,r,B⟩:=MX I i d
  obtain⟨a,xs,v,e,q⟩:=av.inv
  rw[v] at o
  obtain⟨P,u,ex,E,y⟩:=q.two
  obtain⟨b,O,N,f,C⟩:=E.inv
  rw[C.keys] at f
  obtain⟨l,n,pl,_⟩:=I.tuple (bV.of e)
  rw[ex,N] at n
  obtain⟨L,G,t,x1,x2⟩:=vals2 n
  rw[t,show L=.ref b from x1] at pl
  refine⟨(k,b,u) :: qs,(k,b,G) :: rs,.cons ⟨rfl,y⟩ x,List.forall_mem_cons.mpr ⟨f,J⟩,.cons ⟨rfl,rfl,x2⟩ A,congrArg (· + 1) D,List.forall_mem_cons.mpr ⟨f,r⟩,fun j p m=>?_⟩
  cases j with
  | zero=>rw[<-Cp m];exact⟨a,congrArg some o,pl⟩
  | succ j=>exact B j p m
def A8:List W->Mm->K3->Prop
 | [.rl ws],M,R=>∃ ps:List (List aD×W),ws=vA ps/\ws.length<=Ai/\oU (pM [] ps) M R
 | _,_,_=>False
theorem zgl(hc:X.calm=true)(hu:X.A.units + 2 < Es):cN X (.type "dict") (fG X.K A8):=by
 rintro w s σ H xs us Q I rs ⟨ws,M,R,B,i,h,k⟩
 match ws,h with
 | [.rl ws],h=>
  obtain⟨v,rfl,av⟩:=i.one
  obtain⟨ps,rfl,hz,r⟩:=h
  obtain⟨u,rfl,P⟩:=vals1 rs
  cases av with
  | rl f n q=>
   cases P
   obtain⟨z,its,c,Z,hl,e⟩:=I.lstM f
   obtain⟨qs,m,x,Y,J,T,D,L⟩:=MX I q Z
   have O:ps.length<=Ai:=by simpa [vA] using hz
   have N:qs.length=ps.length:=by have:=Cu x;rwa [Ab] at this
   refine Dt.call_pairs (items:=its.toArray) (ps:=m) (I.ok.hd hc) hu e (by simpa using T) (by rw[Az];lia) (fun p F=>jZ I.hok (D p F)) (fun j p G=>by simpa using L j p G) fun h' tk hk U=>?_
   have a:=I.hok.fresh (Aj _)
   have len:=LB (qs.map fun q=>(q.1,q.2.2)) []
   rw[Ab] at len
   have b:∀ {ps:List (List aD×W)} {qs:List (List aD×V)} {ks:List (List aD×V)} {kvs:List (List aD×W)},bK X.K H M (List aD) qs ps->bK X.K H M (List aD) ks kvs->bK X.K H M (List aD) (nX ks qs) (pM kvs ps):=by
    intro ps qs ks kvs h
    induction h generalizing ks kvs with
    | nil=>intro h;exact h
    | @cons q p qs ps r t C=>
     intro h
     obtain⟨q1,q2⟩:=q
     obtain⟨p1,p2⟩:=p
     obtain⟨rfl,l⟩:=r
     exact C (tL h q1 l)
   have g:=b (ks:=[]) (kvs:=[]) x .nil
   refine⟨.ref s.heap.objs.size,aR H s.heap.objs.size (.dT (nX [] (qs.map fun q=>(q.1,q.2.2)))),I.laid (o:=.dT (nX [] (qs.map fun q=>(q.1,q.2.2)))) (t':=tk) hk (Aj _) ⟨by simp at len;lia,beq_eq_false_iff_ne.mpr (Ca (Bj I.big)),_,(zdQ J Y .nil).keeps fun c ys y=>?_,?_⟩,rfl,?_⟩
   ·rw[bE (eT y a)];exact y
   ·obtain⟨o,en,ep,r1,l,E,S,_,r5⟩:=U
    exact⟨o,en,ep,r1,l,E,S,r5⟩
   ·obtain⟨d,k2⟩:=B.laid (o:=.dT (pM [] ps)) (u:=.dT (nX [] (qs.map fun q=>(q.1,q.2.2)))) a ⟨_,cM,nK g.keys (g.vals.newL a)⟩
    exact k _ _ _ _ k2 d (.ref _) (r _ (B.nonM a))
end
end L3
namespace Rg
open PySem PySem.Spec PyProof.Rows L2 L3
theorem zgm{G:Sr}{V:List Int}{N L S:Nat}(ok:nZ G)(v:n6 G V N L)(d:∀ t p,(G.steps t p).length<=S):∃ st P cur T,All G S (iB G).length st P cur T/\st.q=[]:=by
 have:∀ (k:Nat) (st:SS) (P:List bQ) (cur:aL) (T:Nat),All G S (iB G).length st P cur T->(iB G).length + N * ((L + 1) * (V.length * V.length)) * (S + V.length) - T=k->∃ st P cur T,All G S (iB G).length st P cur T/\st.q=[]:=by
  intro k
  induction k with
  | zero=>
   intro st P cur T A hk
   refine⟨st,P,cur,T,A,?_⟩
   obtain⟨_,_,g⟩:=z8 v A
   have hl:=uP A.inv.fall
   exact Im.mp (by omega)
  | succ k c=>
   intro st P cur T A hk
   by_cases b:st.q=[]
   ·exact⟨st,P,cur,T,A,b⟩
   ·obtain⟨f,a,e⟩:=LR ok A d b
    exact c _ _ _ _ e (by omega)
 exact this _ _ _ _ _ (LS ok S) rfl
structure GL(rs:List aG):Prop where
 few:rs.length<=61
 prt:∀ r∈rs,r.parts.length<=4
 wds:∃ U:List Str,U.length < 64/\mB rs U
theorem MY{acc:List Str}{t:Str}(h:acc.Nodup):(eC acc t).Nodup:=by
 unfold eC
 split
 ·exact h
 ·rename_i c
  rw[Dz]
  refine⟨h,by simp,fun a d b f e=>c ?_⟩
  have:b=t:=by simpa using f
  rw[<-this,<-e];exact d
theorem zgn(rs:List aG):(namesOf rs).Nodup:=by
 have:∀ (ts acc:List Str),acc.Nodup->(ts.foldl eC acc).Nodup:=by
  intro ts
  induction ts with
  | nil=>intro acc h;exact h
  | cons t ts a=>intro acc h;exact a _ (MY h)
 exact this _ _ Fw
theorem MZ(rs:List aG)(ws:List Str):nZ (c9 rs ws):=⟨fun _=>Ky _,fun t p e c h=>by
 have h:(e,c)∈(if p=0/\t∈ws then [((0:Int),(1:Int))] else []):=h
 split at h
 ·simp at h;omega
 ·cases h⟩
theorem M8{rs:List aG}(ws:List Str){k:Nat}(hk:∀ r∈rs,r.parts.length<=k):n6 (c9 rs ws) [0] (c9 rs ws).rs.length (k + 1):=by
 refine⟨fun p b=>b,fun t p e c b a=>?_,Aj _,fun r hr=>by have:=hk r hr;omega⟩
 have a:(e,c)∈(if p=0/\t∈ws then [((0:Int),(1:Int))] else []):=a
 split at a
 ·simp at a;simp[a.1]
 ·cases a
theorem M9(rs:List aG)(ws:List Str)(t:Str)(p:Int):((c9 rs ws).steps t p).length<=1:=by
 show(if p=0/\t∈ws then [((0:Int),(1:Int))] else []).length<=1
 split <;> simp
abbrev vB(rs:List aG):Str->Option Int:=fun X=>aI (uJ rs) X
theorem NA{κ:Type}:∀ {ps acc:List (aD×W)},((acc ++ ps).map (·.1)).Nodup->kY acc ps=acc ++ ps
 | [],acc,_=>by simp[kY]
 | p :: ps,acc,h=>by
  have b:aY acc p.1=none:=by
   rw[Bi,Dz] at h
   exact rR fun e c z=>h.2.2 _ (Ao.mpr ⟨e,c,rfl⟩) p.1 (by simp) z
  have e:b9 acc p.1 p.2=acc ++ [p]:=by
   unfold b9
   rw[if_neg (by rw[show(acc.any fun a=>decide (a.1=p.1))=(aY acc p.1).isSome from m8 acc p.1,b];decide)]
  show kY (b9 acc p.1 p.2) ps=_
  rw[e,NA (κ:=κ) (by rw[Hc];exact h),Hc];rfl
def oC(B:d7):List (aD×W):=B.map fun e=>(Sum.inr e.1.1,W.int e.2.1.1)
theorem zgo{rs:List aG}{ws:List Str}{S I0 T:Nat}{st:SS}{P:List bQ}{cur:aL}(A:All (c9 rs ws) S I0 st P cur T)(X:Str):aY (kY [] (oC st.best)) (Sum.inr X:aD)=(m9 st.best X).map W.int:=by
 have nd:((oC st.best).map (·.1)).Nodup:=by
  have h1:=AF A
  have h2:∀ e∈st.best,e.1=(e.1.1,0,0):=fun e he=>by
   obtain⟨r,hr,e1⟩:=uL A he
   rw[e1]
  unfold oC
  rw[Bx]
  have:∀ {B:d7},(∀ e∈B,e.1=(e.1.1,0,0))->(B.map (·.1)).Nodup->(B.map ((fun x:aD×W=>x.1) ∘ fun e=>(Sum.inr e.1.1,W.int e.2.1.1))).Nodup:=by
   intro B
   induction B with
   | nil=>intro _ _;simp
   | cons b B ih=>
    intro hf nd
    rw[Au,Dh] at nd ⊢
    refine⟨fun hm=>?_,ih (fun e he=>hf e (An _ he)) nd.2⟩
    obtain⟨e,he,e1⟩:=Ao.mp hm
    apply nd.1
    have e1:e.1.1=b.1.1:=by simpa using e1
    rw[hf b Ba,<-e1,<-hf e (An _ he)]
    exact Ao.mpr ⟨e,he,rfl⟩
  exact this h2 h1
 rw[NA (κ:=aD) (by simpa using nd),Ie]
 unfold m9 oC
 have:∀ {B:d7},(∀ e∈B,e.1=(e.1.1,0,0))->aY (B.map fun e=>((Sum.inr e.1.1:aD),W.int e.2.1.1)) (Sum.inr X)=((aI B (X,0,0)).map fun v=>v.1.1).map W.int:=by
  intro B
  induction B with
  | nil=>intro _;rfl
  | cons b B ih=>
   intro hf
   rw[Au,n9,dJ,ih fun e he=>hf e (An _ he)]
   have hb:=hf b Ba
   by_cases h:b.1.1=X
   ·rw[if_pos (by rw[h]),if_pos (by rw[hb,h])];rfl
   ·rw[if_neg (fun z=>h (Sum.inr.inj z)),if_neg (fun z=>h (by rw[hb] at z;exact congrArg Ci z))]
 exact this fun e he=>by
  obtain⟨r,hr,e1⟩:=uL A he
  rw[e1]
def gB(rs:List aG)(t:Str):Bool:=(vB rs t).isSome
def fU(rs:List aG)(t:Str):Bool:=gB rs t || !ownB rs t
def sglB(rs:List aG)(r:aG):Bool:=match r.parts with
 | [t]=>ownB rs t
 | _=>false
def vD(rs:List aG):List Str:=rs.flatMap aG.parts
theorem NB(rs:List aG):mB rs (vD rs):=fun r hr t ht _=>Ds.mpr ⟨r,hr,ht⟩
theorem zgp{rs:List aG}{X:Str}{l:Int}(h:LD rs X l):gB rs X=true:=by
 have hk:∀ r∈rs,r.parts.length<=(rs.map fun r=>r.parts.length).sum:=by
  intro r hr
  induction rs with
  | nil=>cases hr
  | cons q rs c=>
   clear h
   rw[Au,Jn]
   rcases Be.mp hr with rfl | z
   ·omega
   ·have:∀ (qs:List aG),r∈qs->r.parts.length<=(qs.map fun r=>r.parts.length).sum:=by
     intro qs
     induction qs with
     | nil=>intro h;cases h
     | cons a b c=>
      intro h
      rw[Au,Jn]
      rcases Be.mp h with rfl | z
      ·omega
      ·have:=c z;omega
    have:=this rs z
    omega
 obtain⟨st,P,cur,T,A,d⟩:=zgm (MZ rs (vD rs)) (M8 (vD rs) hk) (M9 rs (vD rs))
 obtain⟨f,e,_⟩:=LY (NB rs) A d h
 unfold gB vB
 rw[LZ (NB rs) A d,e];rfl
theorem zgq{rs:List aG}{X:Str}(h:gB rs X=true):∃ l,LD rs X l:=by
 obtain⟨l,e⟩:=Gg.mp h
 exact⟨l,(gO.rounds rs (rs.length + 1)).ld X l e⟩
theorem vE{rs:List aG}:∀ {ps:List Str} {l:Int},e8 rs ps l->∀ t∈ps,fU rs t=true
 | [],_,.nil,_,h=>nomatch h
 | x :: ps,_,.word b a,t,h=>by
  rcases Be.mp h with rfl | z
  ·unfold fU;rw[b];simp
  ·exact vE a t z
 | x :: ps,_,.name b c a,t,h=>by
  rcases Be.mp h with rfl | z
  ·unfold fU;rw[zgp c];rfl
  ·exact vE a t z
mutual
theorem NC{rs:List aG}{K:Str->Prop}(cl:∀ r∈rs,K r.name->sglB rs r=true->K (r.parts.headD "")):∀ {X:Str} {l:Int},LD rs X l->K X->∃ r∈rs,K r.name/\sglB rs r=false/\∀ t∈r.parts,fU rs t=true
 | _,_,.mk (r:=r) hr d,k=>zgr cl d r hr rfl k
theorem zgr{rs:List aG}{K:Str->Prop}(cl:∀ r∈rs,K r.name->sglB rs r=true->K (r.parts.headD "")):∀ {ps:List Str} {l:Int},e8 rs ps l->∀ (r:aG),r∈rs->r.parts=ps->K r.name->∃ r∈rs,K r.name/\sglB rs r=false/\∀ t∈r.parts,fU rs t=true
 | _,_,.nil,r,hr,e,k=>⟨r,hr,k,by unfold sglB;rw[e],by rw[e];exact fun t h=>nomatch h⟩
 | _,_,.word (t:=t) (ts:=ts) h1 h2,r,hr,e,k=>by
  refine⟨r,hr,k,?_,by rw[e];exact vE (.word h1 h2)⟩
  unfold sglB;rw[e]
  cases ts with
  | nil=>exact h1
  | cons _ _=>rfl
 | _,_,.name (t:=t) (ts:=ts) h1 h3 h2,r,hr,e,k=>by
  cases hs:sglB rs r with
  | false=>exact⟨r,hr,k,hs,by rw[e];exact vE (.name h1 h3 h2)⟩
  | true=>
   have:=cl r hr k hs
   rw[e] at this
   exact NC cl h3 this
end
abbrev CT:=List (Str×List Int)
def numsOf(rs:List aG)(X:Str):List Nat:=(rs.zipIdx.filter fun x=>decide (x.1.name=X)).map (·.2)
theorem rZ{rs:List aG}{X:Str}{n:Nat}:n∈numsOf rs X↔∃ r,rs[n]? = some r/\r.name=X:=by
 unfold numsOf
 rw[Ao]
 constructor
 ·rintro⟨⟨r,k⟩,h,rfl⟩
  rw[Ge,decide_eq_true_eq] at h
  exact⟨r,(List.mem_zipIdx_iff_getElem?.mp h.1),h.2⟩
 ·rintro⟨r,h,e⟩
  exact⟨(r,n),by rw[Ge,decide_eq_true_eq];exact⟨List.mem_zipIdx_iff_getElem?.mpr h,e⟩,rfl⟩
def eO(rs:List aG)(here:Str)(n:Nat):Str:=match rs[n]? with
 | some r=>if sglB rs r=true then r.parts.headD "" else here
 | none=>here
def fA(rs:List aG)(here:Str)(s:CT×List Str)(n:Nat):CT×List Str:=if (aI s.1 (eO rs here n)).isSome=true then s else(cY s.1 (eO rs here n) ((aI s.1 here).getD [] ++ [(n:Int)]),s.2 ++ [eO rs here n])
def vF(rs:List aG)(here:Str)(s:CT×List Str):CT×List Str:=(numsOf rs here).foldl (fA rs here) s
def mC(rs:List aG):Nat->CT×List Str->CT×List Str
 | 0,s=>s
 | _ + 1,(ch,[])=>(ch,[])
 | k + 1,(ch,h :: wt)=>mC rs k (vF rs h (ch,wt))
theorem ND(rs:List aG):∀ (k:Nat) (ch:CT),mC rs k (ch,[])=(ch,[])
 | 0,_=>rfl
 | _ + 1,_=>rfl
def fV(rs:List aG)(X:Str):CT:=(mC rs (rs.length + 1) ([(X,[])],[X])).1
abbrev bZ(c:CT):List Str:=c.map (·.1)
theorem A9{c:CT}{Z:Str}:(aI c Z).isSome=true↔Z∈bZ c:=by
 constructor
 ·intro h
  obtain⟨v,d⟩:=Gg.mp h
  obtain⟨a,b,e⟩:=n5 d
  rw[e];simp
 ·intro h
  obtain⟨e,f,rfl⟩:=Ao.mp h
  obtain⟨v,d⟩:=zep f
  rw[d];rfl
structure fL(rs:List aG)(X:Str)(m:Nat)(s:CT×List Str):Prop where
 nd:(bZ s.1).Nodup
 own:∀ Z∈bZ s.1,ownB rs Z=true
 wt:∀ Z∈s.2,Z∈bZ s.1
 top:X∈bZ s.1
 rch:∀ Z∈bZ s.1,Z=X\/∃ r∈rs,Z∈r.parts
 len:∀ e∈s.1,e.2.length<=s.1.length
 ms:s.2.length + (namesOf rs).length=s.1.length + m
theorem zgs{rs:List aG}{here:Str}{n:Nat}(h:ownB rs here=true):ownB rs (eO rs here n)=true/\(eO rs here n=here\/∃ r∈rs,eO rs here n∈r.parts):=by
 unfold eO
 cases e:rs[n]? with
 | none=>exact⟨h,.inl rfl⟩
 | some r=>
  show ownB rs (if sglB rs r=true then r.parts.headD "" else here)=true/\_
  by_cases c:sglB rs r=true
  ·have b:=c
   unfold sglB at b
   split at b
   ·rename_i t d
    have a:(if sglB rs r=true then r.parts.headD "" else here)=t:=by rw[if_pos c,d];rfl
    rw[a]
    exact⟨b,.inr ⟨r,Av e,by show(if sglB rs r=true then r.parts.headD "" else here)∈r.parts;rw[a,d];simp⟩⟩
   ·cases b
  ·have a:(if sglB rs r=true then r.parts.headD "" else here)=here:=if_neg c
   rw[a]
   exact⟨h,.inl a⟩
theorem fL.step{rs:List aG}{X:Str}{m:Nat}{s:CT×List Str}(I:fL rs X m s){here:Str}(hh:here∈bZ s.1)(n:Nat):fL rs X m (fA rs here s n)/\(∀ Z∈bZ s.1,Z∈bZ (fA rs here s n).1)/\(∀ Z∈s.2,Z∈(fA rs here s n).2)/\eO rs here n∈bZ (fA rs here s n).1/\∀ Z∈bZ (fA rs here s n).1,Z∈bZ s.1\/Z∈(fA rs here s n).2:=by
 unfold fA
 split
 ·rename_i h
  exact⟨I,fun _ h=>h,fun _ h=>h,A9.mp h,fun _ h=>.inl h⟩
 ·rename_i h
  have j:aI s.1 (eO rs here n)=none:=by
   cases e:aI s.1 (eO rs here n) with
   | none=>rfl
   | some v=>rw[e] at h;exact absurd rfl h
  have hk:eO rs here n∉bZ s.1:=fun z=>h (A9.mpr z)
  obtain⟨g,i⟩:=zgs (n:=n) (I.own here hh)
  rw[rV j]
  have d:bZ (s.1 ++ [(eO rs here n,(aI s.1 here).getD [] ++ [(n:Int)])])=bZ s.1 ++ [eO rs here n]:=by simp
  refine⟨⟨?_,?_,?_,?_,?_,?_,?_⟩,?_,?_,?_,?_⟩
  ·show(bZ (s.1 ++ _)).Nodup
   rw[d,Dz]
   refine⟨I.nd,by simp,fun a f b l z=>hk ?_⟩
   rw[<-Ax.mp l,<-z];exact f
  ·show ∀ Z∈bZ (s.1 ++ _),_
   rw[d];intro Z c
   rcases Bh.mp c with z | z
   ·exact I.own Z z
   ·rw[Ax.mp z];exact g
  ·show ∀ Z∈s.2 ++ [_],Z∈bZ (s.1 ++ _)
   rw[d];intro Z c
   rcases Bh.mp c with z | z
   ·exact Co _ (I.wt Z z)
   ·exact Ck _ z
  ·show X∈bZ (s.1 ++ _)
   rw[d];exact Co _ I.top
  ·show ∀ Z∈bZ (s.1 ++ _),_
   rw[d];intro Z c
   rcases Bh.mp c with z | z
   ·exact I.rch Z z
   ·rw[Ax.mp z]
    rcases i with q | q
    ·rw[q];exact I.rch here hh
    ·exact .inr q
  ·intro e p
   show e.2.length<=(s.1 ++ [(eO rs here n,(aI s.1 here).getD [] ++ [(n:Int)])]).length
   rw[Am,Bn]
   rcases Bh.mp p with z | z
   ·have:=I.len e z;omega
   ·rw[Ax.mp z]
    show((aI s.1 here).getD [] ++ [(n:Int)]).length<=_
    rw[Am,Bn]
    cases o:aI s.1 here with
    | none=>simp
    | some v=>
     obtain⟨a,b,k⟩:=n5 o
     have:=I.len (here,v) (by rw[k];simp)
     simpa using this
  ·show(s.2 ++ [_]).length + _=(s.1 ++ [_]).length + m
   rw[Am,Am,Bn,Bn]
   have:=I.ms;omega
  ·show ∀ Z∈bZ s.1,Z∈bZ (s.1 ++ _)
   rw[d];exact fun Z c=>Co _ c
  ·exact fun Z c=>Co _ c
  ·show eO rs here n∈bZ (s.1 ++ _)
   rw[d];simp
  ·show ∀ Z∈bZ (s.1 ++ _),Z∈bZ s.1\/Z∈s.2 ++ [eO rs here n]
   rw[d];intro Z c
   rcases Bh.mp c with z | z
   ·exact .inl z
   ·exact .inr (Ck _ z)
theorem fL.fold{rs:List aG}{X:Str}{m:Nat}{here:Str}:∀ {ns:List Nat} {s:CT×List Str},fL rs X m s->here∈bZ s.1->fL rs X m (ns.foldl (fA rs here) s)/\(∀ Z∈bZ s.1,Z∈bZ (ns.foldl (fA rs here) s).1)/\(∀ Z∈s.2,Z∈(ns.foldl (fA rs here) s).2)/\(∀ n∈ns,eO rs here n∈bZ (ns.foldl (fA rs here) s).1)/\∀ Z∈bZ (ns.foldl (fA rs here) s).1,Z∈bZ s.1\/Z∈(ns.foldl (fA rs here) s).2
 | [],s,I,hh=>⟨I,fun _ h=>h,fun _ h=>h,(fun _ h=>nomatch h),fun _ h=>.inl h⟩
 | n :: ns,s,I,hh=>by
  obtain⟨k,a,e,g,d⟩:=I.step hh n
  obtain⟨i,b,c,o,l⟩:=fL.fold (ns:=ns) k (a _ hh)
  refine⟨i,fun Z h=>b Z (a Z h),fun Z h=>c Z (e Z h),fun j f=>?_,fun Z h=>?_⟩
  ·rcases Be.mp f with rfl | z
   ·exact b _ g
   ·exact o j z
  ·rcases l Z h with z | z
   ·rcases d Z z with q | q
    ·exact .inl q
    ·exact .inr (c Z q)
   ·exact .inr z
def r6(rs:List aG)(s:CT×List Str):Prop:=∀ Z∈bZ s.1,Z∈s.2\/∀ r∈rs,r.name=Z->sglB rs r=true->r.parts.headD ""∈bZ s.1
theorem zgt{rs:List aG}{X:Str}{m:Nat}{ch:CT}{h:Str}{wt:List Str}(I:fL rs X (m + 1) (ch,h :: wt))(D:r6 rs (ch,h :: wt)):fL rs X m (vF rs h (ch,wt))/\r6 rs (vF rs h (ch,wt)):=by
 have hh:h∈bZ ch:=I.wt h Ba
 have d:fL rs X m (ch,wt):=⟨I.nd,I.own,fun Z z=>I.wt Z (An _ z),I.top,I.rch,I.len,by
  have:=I.ms
  show wt.length + _=ch.length + m
  have e:(h :: wt).length + (namesOf rs).length=ch.length + (m + 1):=this
  rw[Bk] at e;omega⟩
 obtain⟨j,i,f,g,c⟩:=fL.fold (here:=h) (ns:=numsOf rs h) d hh
 refine⟨j,fun Z k=>?_⟩
 rcases c Z k with q | q
 ·by_cases e:Z=h
  ·subst e
   right
   intro r hr en a
   obtain⟨n,b⟩:=Hj hr
   have:=g n (rZ.mpr ⟨r,b,en⟩)
   unfold eO at this
   rw[b] at this
   have this:(if sglB rs r=true then r.parts.headD "" else Z)∈bZ (vF rs Z (ch,wt)).1:=this
   rwa [if_pos a] at this
  ·rcases D Z q with z | z
   ·rcases Be.mp z with z | z
    ·exact absurd z e
    ·exact .inl (f Z z)
   ·exact .inr fun r hr en a=>i _ (z r hr en a)
 ·exact .inl q
theorem vG{rs:List aG}{X:Str}{m:Nat}{s:CT×List Str}(I:fL rs X m s):s.1.length<=(namesOf rs).length:=by
 have:=len_sub I.nd fun x a=>of_decide_eq_true (I.own x a)
 simpa using this
theorem NF{rs:List aG}{X:Str}:∀ {k m:Nat} {s:CT×List Str},fL rs X m s->r6 rs s->m<=k->∃ c,fL rs X c (mC rs k s)/\r6 rs (mC rs k s)/\(mC rs k s).2=[]
 | k,m,(ch,[]),I,D,h=>by rw[ND];exact⟨m,I,D,rfl⟩
 | 0,m,(ch,z :: wt),I,D,h=>by
  have:=vG I
  have e:(z :: wt).length + (namesOf rs).length=ch.length + m:=I.ms
  rw[Bk] at e
  have:ch.length<=(namesOf rs).length:=this
  omega
 | k + 1,0,(ch,z :: wt),I,D,h=>by
  have:=vG I
  have e:(z :: wt).length + (namesOf rs).length=ch.length + 0:=I.ms
  rw[Bk] at e
  have:ch.length<=(namesOf rs).length:=this
  omega
 | k + 1,m + 1,(ch,z :: wt),I,D,h=>by
  obtain⟨a,b⟩:=zgt I D
  exact NF (k:=k) a b (by omega)
theorem NG{rs:List aG}{X:Str}(h:ownB rs X=true):fL rs X (namesOf rs).length ([(X,[])],[X])/\r6 rs ([(X,[])],[X]):=by
 refine⟨⟨by simp,?_,?_,by simp,?_,?_,?_⟩,?_⟩
 ·intro Z a;rw[show Z=X by simpa using a];exact h
 ·intro Z a;exact a
 ·intro Z a;left;simpa using a
 ·intro e b;rw[show e=(X,[]) by simpa using b];simp
 ·show 1 + _=1 + _;rfl
 ·intro Z a;left;exact a
theorem BA{rs:List aG}{X:Str}(h:ownB rs X=true):∃ m,fL rs X m (fV rs X,[])/\∀ r∈rs,r.name∈bZ (fV rs X)->sglB rs r=true->r.parts.headD ""∈bZ (fV rs X):=by
 obtain⟨I,D⟩:=NG h
 obtain⟨m,a,b,e⟩:=NF (k:=rs.length + 1) I D (by have:=LF rs;omega)
 have c:mC rs (rs.length + 1) ([(X,[])],[X])=(fV rs X,[]):=Kd rfl e
 rw[c] at a b
 refine⟨m,a,fun r hr hk d=>?_⟩
 rcases b _ hk with z | z
 ·cases z
 ·exact z r hr rfl d
theorem zgu{rs:List aG}{X:Str}(h:ownB rs X=true)(f:gB rs X=true):∃ r∈rs,r.name∈bZ (fV rs X)/\sglB rs r=false/\∀ t∈r.parts,fU rs t=true:=by
 obtain⟨m,I,cl⟩:=BA h
 obtain⟨l,d⟩:=zgq f
 exact NC (K:=fun Z=>Z∈bZ (fV rs X)) cl d I.top
def b5(rs:List aG):Str:=match rs with
 | r :: _=>r.name
 | []=>""
structure eE(rs:List aG):Prop where
 ne:rs≠[]
 few:rs.length<=61
 nam:(namesOf rs).length<=4
 prt:∀ r∈rs,r.parts.length<=4
 hd:∀ r∈rs,lZ r.name/\0<=r.cost
 wds:∃ U:List Str,U.length < 64/\mB rs U
 txt:∀ r∈rs,∀ t∈r.parts,iM t\/∃ q∈rs,q.name=t
 emp:∀ r∈rs,r.parts=[]->r.name=b5 rs/\∀ q∈rs,b5 rs∉q.parts
theorem eE.gl{rs:List aG}(g:eE rs):GL rs:=⟨g.few,g.prt,g.wds⟩
theorem NH:∀ (ts acc:List Str),∃ q,ts.foldl eC acc=acc ++ q
 | [],acc=>⟨[],by simp⟩
 | t :: ts,acc=>by
  obtain⟨q,a⟩:=NH ts (eC acc t)
  rw[Dj,a]
  unfold eC
  split
  ·exact⟨q,rfl⟩
  ·exact⟨t :: q,by simp⟩
theorem NI{rs:List aG}(h:rs≠[]):∃ q,namesOf rs=b5 rs :: q:=by
 cases rs with
 | nil=>exact absurd rfl h
 | cons r l=>exact NH (l.map aG.name) [r.name]
theorem vH{rs:List aG}(h:rs≠[]):b5 rs∈namesOf rs:=by obtain⟨q,e⟩:=NI h;rw[e];simp
def iS(rs:List aG)(r:aG):Bool:=r.parts.all (fU rs) && !sglB rs r
def oE(c:List Int)(n:Nat)(ps:List Str):W:=c.reverse.foldl (fun p s=>.tup [.tup [.int s,p]]) (.tup [.tup [.int n,zS ps]])
def oF(rs:List aG)(X:Str)(c:List Int)(n:Nat):List (NP×W):=match rs[n]? with
 | some r=>if iS rs r=true then [((X,r.parts),oE c n r.parts)] else []
 | none=>[]
def putN(rs:List aG)(X:Str)(c:List Int)(l:List (NP×W))(n:Nat):List (NP×W):=(oF rs X c n).foldl eM l
def mD(rs:List aG)(X:Str)(l:List (NP×W))(e:Str×List Int):List (NP×W):=(numsOf rs e.1).foldl (putN rs X e.2) l
def pW(rs:List aG)(l:List (NP×W))(X:Str):List (NP×W):=(fV rs X).foldl (mD rs X) l
def pX(rs:List aG):List (NP×W):=(namesOf rs).foldl (pW rs) []
theorem vI{d c b:Type}(f:b->c->b)(g:d->List c):∀ (l:List d) (acc:b),l.foldl (fun a x=>(g x).foldl f a) acc=(l.flatMap g).foldl f acc
 | [],acc=>rfl
 | x :: l,acc=>by rw[Dj,vI f g l,Kw,Ei]
def vJ(rs:List aG)(X:Str)(e:Str×List Int):List (NP×W):=(numsOf rs e.1).flatMap (oF rs X e.2)
def lD(rs:List aG)(X:Str):List (NP×W):=(fV rs X).flatMap (vJ rs X)
theorem zgv(rs:List aG)(X:Str)(l:List (NP×W))(e:Str×List Int):mD rs X l e=(vJ rs X e).foldl eM l:=vI eM (oF rs X e.2) (numsOf rs e.1) l
theorem zgw(rs:List aG)(X:Str)(l:List (NP×W)):pW rs l X=(lD rs X).foldl eM l:=by
 unfold pW lD
 rw[<-vI eM (vJ rs X)]
 congr 1
 funext a e
 exact zgv rs X a e
theorem NJ(rs:List aG):pX rs=((namesOf rs).flatMap (lD rs)).foldl eM []:=by
 unfold pX
 rw[<-vI eM (lD rs)]
 congr 1
 funext a X
 exact zgw rs X a
theorem vK{rs:List aG}{X:Str}{x:NP}:x∈(lD rs X).map Ci↔∃ r∈rs,r.name∈bZ (fV rs X)/\iS rs r=true/\x=(X,r.parts):=by
 unfold lD vJ
 constructor
 ·intro h
  obtain⟨y,a,rfl⟩:=Ao.mp h
  obtain⟨e,d,a⟩:=Ds.mp a
  obtain⟨n,b,a⟩:=Ds.mp a
  obtain⟨r,hr,en⟩:=rZ.mp b
  unfold oF at a
  rw[hr] at a
  have a:y∈(if iS rs r=true then [((X,r.parts),oE e.2 n r.parts)] else []):=a
  split at a
  ·rename_i c
   exact⟨r,Av hr,by rw[en];exact Ao.mpr ⟨e,d,rfl⟩,c,by rw[Ax.mp a]⟩
  ·cases a
 ·rintro⟨r,hr,hk,c,rfl⟩
  obtain⟨e,d,f⟩:=Ao.mp hk
  obtain⟨n,b⟩:=Hj hr
  refine Ao.mpr ⟨((X,r.parts),oE e.2 n r.parts),Ds.mpr ⟨e,d,Ds.mpr ⟨n,rZ.mpr ⟨r,b,f.symm⟩,?_⟩⟩,rfl⟩
  unfold oF
  rw[b]
  show _∈(if iS rs r=true then _ else _)
  rw[if_pos c];simp
theorem NK{rs:List aG}{x:NP}:x∈(pX rs).map Ci↔∃ X∈namesOf rs,∃ r∈rs,r.name∈bZ (fV rs X)/\iS rs r=true/\x=(X,r.parts):=by
 rw[NJ,LH]
 constructor
 ·rintro(h | h)
  ·cases h
  ·obtain⟨y,a,rfl⟩:=Ao.mp h
   obtain⟨X,b,a⟩:=Ds.mp a
   exact⟨X,b,vK.mp (Ao.mpr ⟨y,a,rfl⟩)⟩
 ·rintro⟨X,b,h⟩
  obtain⟨y,a,e⟩:=Ao.mp (vK.mpr h)
  exact .inr (Ao.mpr ⟨y,Ds.mpr ⟨X,b,a⟩,e⟩)
theorem NL{rs:List aG}{X:Str}(h:ownB rs X=true)(f:gB rs X=true):∃ r∈rs,r.name∈bZ (fV rs X)/\iS rs r=true:=by
 obtain⟨r,hr,hk,a,hf⟩:=zgu h f
 exact⟨r,hr,hk,by unfold iS;rw[Er.mpr hf,a];rfl⟩
structure Bd(rs:List aG)(l:List (NP×W)):Prop where
 nd:(l.map Ci).Nodup
 sub:∀ x∈l.map Ci,x.1∈namesOf rs/\∃ r∈rs,x.2=r.parts
theorem Bd.nil(rs:List aG):Bd rs []:=⟨Fw,fun x h=>nomatch h⟩
theorem Bd.add{rs:List aG}{l:List (NP×W)}(b:Bd rs l){X:Str}{r:aG}(d:X∈namesOf rs)(hr:r∈rs)(v:W):Bd rs (eM l ((X,r.parts),v)):=by
 refine⟨?_,fun x a=>?_⟩
 ·unfold eM
  split
  ·exact b.nd
  ·rename_i h
   rw[Bi,Dz]
   refine⟨b.nd,by simp,fun x a y c e=>h ?_⟩
   have:y=(X,r.parts):=by simpa using c
   rw[<-this,<-e];exact a
 ·rcases LG.mp a with z | z
  ·exact b.sub x z
  ·rw[z];exact⟨d,r,hr,rfl⟩
theorem NM{a b:Type}(g:a->List b)(k:Nat)(h:∀ x,(g x).length=k):∀ l:List a,(l.flatMap g).length=l.length * k
 | []=>by simp
 | x :: l=>by rw[Kw,Am,h x,NM g k h l,Bk,Lw,Nat.add_comm]
theorem Bd.len{rs:List aG}{l:List (NP×W)}(b:Bd rs l):l.length<=(namesOf rs).length * rs.length:=by
 have:=len_sub (b:=(namesOf rs).flatMap fun X=>rs.map fun r=>(X,r.parts)) b.nd fun x a=>by
  obtain⟨c,r,hr,e⟩:=b.sub x a
  exact Ds.mpr ⟨x.1,c,Ao.mpr ⟨r,hr,Kd rfl e.symm⟩⟩
 rw[NM _ rs.length (fun X=>by rw[Ab])] at this
 simpa using this
theorem Bd.few{rs:List aG}{l:List (NP×W)}(b:Bd rs l)(g:eE rs):l.length<=244:=by
 have c:=b.len
 have a:(namesOf rs).length * rs.length<=4 * 61:=Nat.mul_le_mul g.nam g.few
 omega
theorem Bd.putN{rs:List aG}{l:List (NP×W)}(b:Bd rs l){X:Str}(a:X∈namesOf rs)(c:List Int)(n:Nat):Bd rs (putN rs X c l n):=by
 unfold Rg.putN oF
 cases e:rs[n]? with
 | none=>exact b
 | some r=>
  show Bd rs ((if iS rs r=true then [((X,r.parts),oE c n r.parts)] else []).foldl eM l)
  split
  ·exact b.add a (Av e) _
  ·exact b
theorem Bd.putNs{rs:List aG}{X:Str}(a:X∈namesOf rs)(c:List Int):∀ (ns:List Nat) {l:List (NP×W)},Bd rs l->Bd rs (ns.foldl (Rg.putN rs X c) l)
 | [],l,b=>b
 | n :: ns,l,b=>Bd.putNs a c ns (b.putN a c n)
theorem Bd.putEs{rs:List aG}{X:Str}(a:X∈namesOf rs):∀ (es:CT) {l:List (NP×W)},Bd rs l->Bd rs (es.foldl (Rg.mD rs X) l)
 | [],l,b=>b
 | e :: es,l,b=>Bd.putEs a es (Bd.putNs a e.2 _ b)
theorem Bd.putXs{rs:List aG}:∀ (a:List Str) {l:List (NP×W)},(∀ X∈a,X∈namesOf rs)->Bd rs l->Bd rs (a.foldl (Rg.pW rs) l)
 | [],l,_,b=>b
 | X :: a,l,h,b=>Bd.putXs a (fun Y c=>h Y (An _ c)) (Bd.putEs (h X Ba) _ b)
theorem zgx(rs:List aG):Bd rs (pX rs):=Bd.putXs (namesOf rs) (fun _ h=>h) (Bd.nil rs)
theorem zgy{rs:List aG}(d:rs≠[])(f:gB rs (b5 rs)=true):∃ ps v q,pX rs=((b5 rs,ps),v) :: q:=by
 obtain⟨q,e⟩:=NI d
 obtain⟨r,hr,hk,l⟩:=NL (decide_eq_true (vH d)) f
 have h:(b5 rs,r.parts)∈(lD rs (b5 rs)).map Ci:=vK.mpr ⟨r,hr,hk,l,rfl⟩
 rw[NJ,e,Kw,Ei]
 cases hi:lD rs (b5 rs) with
 | nil=>rw[hi] at h;cases h
 | cons y ys=>
  have n:y.1∈(lD rs (b5 rs)).map Ci:=by rw[hi];simp
  obtain⟨o,_,_,_,m⟩:=vK.mp n
  rw[Dj]
  obtain⟨g,i⟩:=zT (its:=ys) (acc:=eM [] y)
  obtain⟨c,j⟩:=zT (its:=q.flatMap (lD rs)) (acc:=ys.foldl eM (eM [] y))
  rw[j,i]
  obtain⟨⟨a,b⟩,v⟩:=y
  have k:a=b5 rs:=congrArg Ci m
  subst k
  exact⟨b,v,g ++ c,by show([((b5 rs,b),v)] ++ g) ++ c=_;simp⟩
def NN(rs:List aG):List (NP×W):=[((b5 rs,[b5 rs,b5 rs]),.tup [.tup [.int 0,.tup [.int 0,.int 1]]])]
def iT(rs:List aG):List (NP×W):=if gB rs (b5 rs)=true then pX rs else NN rs
def dN(rs:List aG):List aG:=(iT rs).map fun p=>iN p.1
theorem pY{rs:List aG}{t:aG}(h:t∈dN rs):t.cost=0/\((gB rs (b5 rs)=true/\∃ X∈namesOf rs,∃ r∈rs,r.name∈bZ (fV rs X)/\iS rs r=true/\t.name=X/\t.parts=r.parts)\/(gB rs (b5 rs)=false/\t.name=b5 rs/\t.parts=[b5 rs,b5 rs])):=by
 unfold dN at h
 obtain⟨p,a,rfl⟩:=Ao.mp h
 refine⟨rfl,?_⟩
 unfold iT at a
 split at a
 ·rename_i f
  obtain⟨X,b,r,hr,hk,c,e⟩:=NK.mp (Ao.mpr ⟨p,a,rfl⟩)
  exact .inl ⟨f,X,b,r,hr,hk,c,by show p.1.1=X;rw[e],by show p.1.2=r.parts;rw[e]⟩
 ·rename_i f
  rw[Ax.mp a]
  exact .inr ⟨by simpa using f,rfl,rfl⟩
theorem zgz{rs:List aG}(f:gB rs (b5 rs)=true){X:Str}(a:X∈namesOf rs)(b:gB rs X=true):∃ t∈dN rs,t.name=X:=by
 obtain⟨r,hr,hk,d⟩:=NL (decide_eq_true a) b
 have:=NK.mpr ⟨X,a,r,hr,hk,d,rfl⟩
 obtain⟨p,c,e⟩:=Ao.mp this
 refine⟨iN p.1,Ao.mpr ⟨p,by unfold iT;rw[if_pos f];exact c,rfl⟩,?_⟩
 show p.1.1=X
 rw[e]
theorem NO{rs:List aG}(a:rs≠[]):∃ ps v q,iT rs=((b5 rs,ps),v) :: q:=by
 unfold iT
 split
 ·rename_i f;exact zgy a f
 ·exact⟨_,_,_,rfl⟩
theorem NQ{rs:List aG}(g:eE rs):(iT rs).length<=244:=by
 unfold iT
 split
 ·exact(zgx rs).few g
 ·show 1<=244;omega
theorem vL{rs:List aG}(g:eE rs){X:Str}(h:X∈namesOf rs):lZ X:=by
 obtain⟨r,hr,rfl⟩:=l3.mp h
 exact(g.hd r hr).1
theorem BB{rs:List aG}(g:eE rs){t:aG}(ht:t∈dN rs):∀ p∈t.parts,iM p\/(lZ p/\∃ t'∈dN rs,t'.name=p):=by
 intro p a
 obtain⟨_,⟨f,X,j,r,hr,hk,c,_,e⟩ | ⟨f,i,d⟩⟩:=pY ht
 ·rw[e] at a
  rcases g.txt r hr p a with z | ⟨q,h,z⟩
  ·exact .inl z
  ·have b:p∈namesOf rs:=l3.mpr ⟨q,h,z⟩
   unfold iS at c
   rw[Ce] at c
   have:=Er.mp c.1 p a
   unfold fU at this
   rw[show ownB rs p=true from decide_eq_true b] at this
   exact .inr ⟨vL g b,zgz f b (by simpa using this)⟩
 ·have:p=b5 rs:=by rw[d] at a;simpa using a
  rw[this]
  exact .inr ⟨vL g (vH g.ne),t,ht,i⟩
theorem NR{rs:List aG}(g:eE rs){t:aG}(ht:t∈dN rs):t.name∈namesOf rs:=by
 obtain⟨_,⟨f,X,b,r,hr,hk,c,e,_⟩ | ⟨f,a,d⟩⟩:=pY ht
 ·rw[e];exact b
 ·rw[a];exact vH g.ne
theorem zgA{rs:List aG}(g:eE rs){t:aG}(ht:t∈dN rs){p:Str}(h:t.parts=[p]):m7 p=false:=by
 obtain⟨_,⟨f,X,j,r,hr,hk,b,_,e⟩ | ⟨f,i,c⟩⟩:=pY ht
 ·rw[e] at h
  unfold iS at b
  rw[Ce,Bool.not_eq_true'] at b
  have a:=b.2
  unfold sglB at a
  rw[h] at a
  have a:ownB rs p=false:=a
  rcases g.txt r hr p (by rw[h];simp) with z | ⟨q,d,z⟩
  ·exact LK z
  ·rw[<-z,z9 d] at a;cases a
 ·rw[c] at h;simp at h
theorem zgB{rs:List aG}(g:eE rs){t:aG}(ht:t∈dN rs)(h:t.parts=[]):t.name=b5 rs/\∃ r∈rs,r.parts=[]:=by
 obtain⟨_,⟨f,X,j,r,hr,hk,k,c,e⟩ | ⟨f,l,d⟩⟩:=pY ht
 ·rw[e] at h
  obtain⟨a,b⟩:=g.emp r hr h
  refine⟨?_,r,hr,h⟩
  obtain⟨m,I,_⟩:=BA (X:=X) (decide_eq_true j)
  rcases I.rch _ hk with z | ⟨q,i,z⟩
  ·rw[c,<-z,a]
  ·rw[a] at z;exact absurd z (b q i)
 ·rw[d] at h;cases h
theorem zgC{rs:List aG}(g:eE rs):zU (dN rs):=by
 refine⟨?_,?_,fun t ht=>⟨by rw[(pY ht).1];exact Ky _,fun p b=>?_⟩⟩
 ·obtain⟨ps,v,q,e⟩:=NO g.ne
  unfold dN
  rw[e];simp
 ·unfold dN
  rw[Ab]
  have:=NQ g
  omega
 ·rcases BB g ht p b with z | ⟨z,t',a,e⟩
  ·exact⟨by have:=z.len;omega,fun n=>by rw[z.nm] at n;cases n⟩
  ·exact⟨by have:=z.len;omega,fun _=>l3.mpr ⟨t',a,e⟩⟩
def eP(alt:List Str)(r:aG):aG:=if r.parts=[] then⟨r.name,alt,r.cost⟩ else r
theorem BC(alt:List Str)(r:aG):(eP alt r).name=r.name/\(eP alt r).cost=r.cost:=by unfold eP;split <;> exact⟨rfl,rfl⟩
theorem zgD:iM "zoe":=⟨by decide +kernel,by decide +kernel,by decide +kernel⟩
structure Dr(old:List aG)(hs wds alt:List Str):Prop where
 ne:old≠[]
 few:old.length<=60
 hl:hs.length<=4
 wl:wds.length=3
 hh:∀ t∈hs,lZ t
 hw:∀ t∈wds,iM t
 hr:∀ r∈old,mW hs wds r
 cov:∀ t∈hs,∃ r∈old,r.name=t
 alt:(∃ q∈old,alt=[q.name])\/alt=[("zoe" : Str)]
theorem Dr.part{a:List aG}{b wds alt:List Str}(d:Dr a b wds alt){r:aG}(hr:r∈a.map (eP alt)):r.name∈b/\0<=r.cost/\r.parts.length<=4/\r.parts≠[]/\∀ t∈r.parts,t∈wds\/t = "zoe"\/t∈b:=by
 obtain⟨q,c,rfl⟩:=Ao.mp hr
 have o:=d.hr q c
 rw[(BC alt q).1,(BC alt q).2]
 refine⟨o.name,o.lo,?_⟩
 unfold eP
 split
 ·show alt.length<=4/\alt≠[]/\∀ t∈alt,_
  rcases d.alt with⟨z,hz,e⟩ | e
  ·rw[e]
   refine⟨by simp,by simp,fun t ht=>.inr (.inr ?_)⟩
   rw[Ax.mp ht];exact(d.hr z hz).name
  ·rw[e]
   exact⟨by simp,by simp,fun t ht=>.inr (.inl (Ax.mp ht))⟩
 ·rename_i h
  refine⟨o.few,h,fun t ht=>?_⟩
  rcases o.parts t ht with z | z
  ·exact .inl z
  ·exact .inr (.inr z)
theorem zgE{a b:List aG}(h:a≠[]):b5 (a ++ b)=b5 a:=by
 cases a with
 | nil=>exact absurd rfl h
 | cons r l=>rfl
theorem Dr.g61{f:List aG}{g wds alt:List Str}(d:Dr f g wds alt){ts:List aG}(ht:ts=[]\/(ts=[⟨b5 (f.map (eP alt)),[],7⟩]/\∀ q∈f.map (eP alt),b5 (f.map (eP alt))∉q.parts)):eE (f.map (eP alt) ++ ts):=by
 have j:f.map (eP alt)≠[]:=by rw[Ne,Gm];exact d.ne
 have n:b5 (f.map (eP alt))∈g:=by
  obtain⟨r,hr,e⟩:=l3.mp (vH j)
  rw[<-e];exact(d.part hr).1
 have all:∀ r∈f.map (eP alt) ++ ts,r.name∈g/\0<=r.cost/\r.parts.length<=4/\∀ t∈r.parts,t∈wds\/t = "zoe"\/t∈g:=by
  intro r hr
  rcases Bh.mp hr with z | z
  ·obtain⟨a,b,c,_,e⟩:=d.part z;exact⟨a,b,c,e⟩
  ·rcases ht with e | ⟨e,_⟩
   ·rw[e] at z;cases z
   ·rw[e] at z
    rw[Ax.mp z]
    exact⟨n,(show(0:Int)<=7 by decide),by simp,fun t h=>nomatch h⟩
 have own:∀ t∈g,∃ q∈f.map (eP alt) ++ ts,q.name=t:=by
  intro t h
  obtain⟨r,hr,e⟩:=d.cov t h
  exact⟨eP alt r,Co _ (Ao.mpr ⟨r,hr,rfl⟩),by rw[(BC alt r).1];exact e⟩
 refine⟨fun e=>j (List.append_eq_nil_iff.mp e).1,?_,?_,fun r hr=>(all r hr).2.2.1,fun r hr=>⟨d.hh _ (all r hr).1,(all r hr).2.1⟩,⟨("zoe" : Str) :: wds,?_,?_⟩,?_,?_⟩
 ·have p:=d.few
  rw[Am,Ab]
  rcases ht with e | ⟨e,_⟩
  ·rw[e,Js];omega
  ·rw[e,Bn];omega
 ·have:=len_sub (zgn (f.map (eP alt) ++ ts)) (b:=g) fun x o=>by
   obtain⟨r,hr,e⟩:=l3.mp o
   rw[<-e];exact(all r hr).1
  have l:=d.hl
  omega
 ·rw[Bk,d.wl];decide
 ·intro r hr t h m
  rcases(all r hr).2.2.2 t h with z | z | z
  ·exact An _ z
  ·rw[z];exact Ba
  ·obtain⟨q,k,e⟩:=own t z
   rw[<-e,z9 k] at m;cases m
 ·intro r hr t h
  rcases(all r hr).2.2.2 t h with z | z | z
  ·exact .inl (d.hw t z)
  ·rw[z];exact .inl zgD
  ·exact .inr (own t z)
 ·intro r hr e
  rcases Bh.mp hr with z | z
  ·exact absurd e (d.part z).2.2.2.1
  ·rcases ht with i | ⟨i,l⟩
   ·rw[i] at z;cases z
   ·rw[zgE j]
    rw[i] at z
    refine⟨by rw[Ax.mp z],fun q k=>?_⟩
    rcases Bh.mp k with y | y
    ·exact l q y
    ·rw[i] at y
     rw[Ax.mp y];exact fun h=>nomatch h
def vM:bL:=fun ws M R=>∃ rs:List aG,ws=[.rl (rs.map aX)]/\zU rs/\aV (rs.map aX) M R
def BD:bL:=fun ws M R=>∃ ps:List Str,ws=[.tup (ps.map W.str)]/\ps.length<=1000/\R (zS ps) M
structure oG(P:Ay)(w:Bq)(C:Addr)(M:Mm)(a d dx:Addr)(l:List (NP×W)):Prop where
 ob:M a=some (.ins C dx [("backs",.ref d)])
 di:M d=some (.dn P w [0] (kvsOf l))
def vN(P:Ay)(w:Bq)(C:Addr):bL:=fun ws M R=>∃ a dx,ws=[.ref a]/\M a=some (.ins C dx [])/\∀ d,M d=none->R .non (put (put M d (.dn P w [0] [])) a (.ins C dx [("backs",.ref d)]))
def vO(P:Ay)(w:Bq)(C:Addr):bL:=fun ws M R=>∃ a d dx l,∃ (x:NP) (v:W),ws=[.ref a,.str x.1,.tup (x.2.map W.str),v]/\oG P w C M a d dx l/\l.length<=400/\R .non (put M d (.dn P w [0] (kvsOf (eM l (x,v)))))
def vP(P:Ay)(w:Bq)(C:Addr):bL:=fun ws M R=>∃ a d dx l,ws=[.ref a]/\oG P w C M a d dx l/\∀ p q,M p=none->M q=none->p≠q->R (.tup [.ref p,.ref q]) (put (put M p (.lst ((kvsOf l).map fun z=>h9 [0] z.1))) q (.lst ((kvsOf l).map fun z=>z.2)))
def vQ:bL:=fun ws M R=>∃ z:Str,ws=[.str z]/\Sh z/\R (.bl (m7 z)) M
def BE:bL:=fun ws M R=>∃ (p:Addr) (ts:List aG),ws=[.ref p]/\M p=some (.lst (ts.map aX))/\ts.length<=400/\(∀ t∈ts,t.cost=0/\∀ q∈t.parts,Sh q/\(m7 q=true->∃ t'∈ts,t'.name=q))/\R (.bl true) M
def BF:bL:=fun ws M R=>∃ (rs:List aG) (p:Addr) (ts:List aG),ws=[.rl (rs.map aX),.ref p]/\M p=some (.lst (ts.map aX))/\rs.length<=400/\ts.length<=400/\(∀ t∈ts,t.name.length<=60/\((∃ r∈rs,r.name=t.name)\/∃ i,i < 180/\t.name=pN i))/\R (.bl true) M
def r9(rs:List aG):Prop:=∀ r∈rs,mV r.name/\∀ t∈r.parts,Sh t
abbrev zgF:List Str:=["rules","known","rule"]
def NS:aH:=
   (cG (bM (aE (rEq false) (bN cV (aB (aA 0) aF)) (vC (.int 0))))
    qU
    c7)
def NT:aH:=
   (a9 1 (cF (bJ nW (aB (aA 0) aF))))
def NU:aH:=
   (cX (bJ yS (aB (aA 2) (aB (aA 1) aF))))
def NV:aH:=
   (d4 (cC cJ (aA 0)) (bC 2) NU)
def NW:aH:=
   (bR (bN lV (aB (aA 0) aF)))
def BG:aH:=(aN NS (aN NT (aN NV NW)))
abbrev zgG:List Str:=["parts"]
def BH:aH:=
   (bR (zR (bN cV (aB (aA 0) aF))))
abbrev zgH:List Str:=["self"]
def BI(P:Ay)(w:Bq)(C:Addr):aH:=
   (jA C (aA 0) "backs" (zM P w [0]))
abbrev zgI:List Str:=["self","name","parts","pieces"]
def BJ(P:Ay)(w:Bq)(C:Addr):aH:=
   (cX (zN P w [0] (cI C (aA 0) "backs") (bO (aB (aA 1) (aB (aA 2) (aB (vC (.int 0)) aF)))) (aA 3)))
abbrev zgJ:List Str:=["self"]
def BK(P:Ay)(w:Bq)(C:Addr):aH:=
   (bR (bO (aB (bN (zQ P w [0]) (aB (cI C (aA 0) "backs") aF)) (aB (bN (zQ P w [0]) (aB (zP P w [0] (cI C (aA 0) "backs")) aF)) aF))))
abbrev zgK:List Str:=["part"]
def BL:aH:=
   (bR (aE (rIn false) (aE aO (aA 0) (vC (.int 0))) (vC (.str "ABCDEFGHIJKLMNOPQRSTUVWXYZ"))))
abbrev zgL:List Str:=["rules","heads","rule","part"]
def NY:aH:=
   (a9 1 (cF (eL (cC cJ (aA 0)) (bC 0) gJ (aE aO (aA 0) (vC (.int 0))) [none])))
def NZ:aH:=
   (aN (cG (hJ (iI (eV (bN cH (aB (aA 2) (aB (vC (.ty "tuple")) aF))))) (hJ (bM (aE (rEq true) (bN cV (aB (aA 2) aF)) (vC (.int 3)))) (iI (eV (bN cH (aB (aE aO (aA 2) (vC (.int 1))) (aB (vC (.ty "tuple")) aF)))))))
    (bR (vC (.bl false)))
    c7)
   (aN (cG (hJ (eV (bN cH (aB (aE aO (aA 2) (vC (.int 2))) (aB (vC (.ty "bool")) aF)))) (bM (aE (rEq true) (aE aO (aA 2) (vC (.int 2))) (vC (.int 0)))))
    (bR (vC (.bl false)))
    c7)
   (d4 (cC cJ (aE aO (aA 2) (vC (.int 1)))) (bC 3)
    (cG (iH (eV (bJ vQ (aB (aA 3) aF))) (bM (aE (rIn true) (aA 3) (aA 1))))
    (bR (vC (.bl false)))
    c7))))
def N0:aH:=
   (d4 (cC cJ (aA 0)) (bC 2) NZ)
def N2:aH:=
   (bR (vC (.bl true)))
def BM:aH:=(aN NY (aN N0 N2))
abbrev zgM:List Str:=["rules","told","heads","name","letters","line","figures"]
def N3:aH:=
   (a9 2 (cF (eL (cC cJ (aA 0)) (bC 0) gJ (aE aO (aA 0) (vC (.int 0))) [none])))
def N4:aH:=
   (aN (hW (dR "str" tU (aA 3) (aB (vC (.str "_")) aF)) (i6 3 (dX (bC 4) (dX (bC 5) (dX (bC 6) i5)))))
   (aN (cG (iH (bM (aE (rIn true) (aA 3) (aA 2))) (hJ (bM (aE (rEq false) (aA 5) (vC (.str "")))) (hJ (iI (bM (qT qL qL (vC (.int 1)) (bN cV (aB (aA 6) aF)) (vC (.int 4))))) (iI (bM (qT qL qL (vC (.int 1)) (bN cV (aB (aA 4) aF)) (vC (.int 8))))))))
    (bR (vC (.bl false)))
    c7)
   (cG (iH (bM (aE (rIn true) (aA 3) (aA 2))) (bM (aE (rEq true) (cF (eL (cC cJ (aA 6)) (bC 0) (bM (aE (rIn true) (aA 0) (vC (.str "0123456789")))) (aA 0) [none])) (gA aF))))
    (bR (vC (.bl false)))
    c7)))
def N5:aH:=
   (d4 (cC cJ (cF (eL (cC cJ (aA 1)) (bC 0) gJ (aE aO (aA 0) (vC (.int 0))) [none]))) (bC 3) N4)
def N6:aH:=
   (bR (vC (.bl true)))
def BN:aH:=(aN N3 (aN N5 N6))
theorem zgN:∀ ws M R,vM ws M R->ws.length=1:=by rintro ws M R ⟨_,rfl,_⟩;rfl
theorem zgO:∀ ws M R,BD ws M R->ws.length=1:=by rintro ws M R ⟨_,rfl,_⟩;rfl
theorem zgP{P:Ay}{w:Bq}{C:Addr}:∀ ws M R,vN P w C ws M R->ws.length=1:=by rintro ws M R ⟨_,_,rfl,_⟩;rfl
theorem zgQ{P:Ay}{w:Bq}{C:Addr}:∀ ws M R,vO P w C ws M R->ws.length=4:=by rintro ws M R ⟨_,_,_,_,_,_,rfl,_⟩;rfl
theorem zgR{P:Ay}{w:Bq}{C:Addr}:∀ ws M R,vP P w C ws M R->ws.length=1:=by rintro ws M R ⟨_,_,_,_,rfl,_⟩;rfl
theorem zgS{ws:List W}{M:Mm}{R:K3}(h:vM ws M R):BG (bB R) (bS zgF ws) M:=by
 obtain⟨rs,rfl,g,r⟩:=h
 show BG (bB R) [some (.rl (rs.map aX)),none,none] M
 simp? only[BG,NS,NT]
 rw[if_neg (by rw[Ab];have:=g.ne;cases rs;exact absurd rfl this;simp;omega)]
 refine⟨rs,rfl,g.few,aV.frz ?_⟩
 simp? only[NV]
 refine d5 (fun i a b=>∃ o,a=[some (.rl (rs.map aX)),some (.rl ((namesOf rs).map W.str)),o]/\b=M) ⟨_,rfl,rfl⟩ (fun _ _ _ _ _=>trivial) ?_ ?_
 ·rintro i w a b hw ⟨o,rfl,rfl⟩
  obtain⟨t,ht,rfl⟩:=Ao.mp (Av hw)
  obtain⟨e,c⟩:=g.ok t ht
  simp? only[NU]
  exact⟨t,_,rfl,e,c,_,Sub.refl _,_,rfl,rfl⟩
 ·rintro a b ⟨o,rfl,rfl⟩
  simp? only[NW]
  exact fun q d=>⟨_,Sub.refl _,r q d⟩
theorem look_nkw(ts:List Str)(n:Str):(aY (ts.map eD) (Sum.inr n:aD)).isSome=decide (n∈ts):=by
 induction ts with
 | nil=>rfl
 | cons t ts ih=>
  unfold aY at ih ⊢
  rw[Au,Cs]
  by_cases h:t=n
  ·subst h;simp[eD]
  ·rw[show decide ((eD t).1=(Sum.inr n:aD))=false by simp[eD,h]]
   rw[ih]
   have h2:¬ n=t:=fun e=>h e.symm
   simp[h2]
theorem BO{d:Addr}:Bz ("backs" : Str) [(("backs" : Str),W.ref d)]=some (.ref d):=by rw[Ep,beq_self_eq_true]
theorem zgT{ws:List W}{M:Mm}{R:K3}(h:BD ws M R):BH (bB R) (bS zgG ws) M:=by
 obtain⟨ps,rfl,hl,r⟩:=h
 show BH (bB R) [some (.tup (ps.map W.str))] M
 simp? only[BH,L3.zR]
 refine⟨ps.length,by rw[Ab],hl,_,Sub.refl _,r⟩
theorem zgU{P:Ay}{w:Bq}{C:Addr}{ws:List W}{M:Mm}{R:K3}(h:vN P w C ws M R):BI P w C (bB R) (bS zgH ws) M:=by
 obtain⟨a,dx,rfl,c,r⟩:=h
 show BI P w C (bB R) [some (.ref a)] M
 simp? only[BI,L3.jA,L3.zM]
 intro d hd
 have b:a≠d:=fun e=>by subst e;rw[c] at hd;cases hd
 exact⟨a,dx,[],rfl,by rw[aQ b];exact c,by decide,_,Sub.refl _,r d hd⟩
theorem zgV{P:Ay}{w:Bq}{C:Addr}{ws:List W}{M:Mm}{R:K3}(h:vO P w C ws M R):BJ P w C (bB R) (bS zgI ws) M:=by
 obtain⟨a,d,dx,l,x,v,rfl,i,hl,r⟩:=h
 show BJ P w C (bB R) [some (.ref a),some (.str x.1),some (.tup (x.2.map W.str)),some v] M
 simp? only[BJ,L3.zN,L3.cI]
 refine⟨a,dx,_,.ref d,rfl,i.ob,BO,⟨d,_,rfl,i.di⟩,d,_,k7 x,rfl,i.di,?_,by unfold kvsOf;rw[Ab];exact gK (by omega),?_,?_⟩
 ·unfold h9 k7
  simp[wK,Jh]
 ·intro f e
  rcases LI l x with⟨c,_⟩ | ⟨_,b⟩
  ·rw[c] at e;cases e
  ·unfold eM at r
   rw[if_pos b,HN i.di] at r
   exact⟨_,Sub.refl _,r⟩
 ·intro e
  rcases LI l x with⟨_,b⟩ | ⟨⟨f,c⟩,_⟩
  ·unfold eM at r
   rw[if_neg b] at r
   unfold kvsOf at r
   rw[Bi] at r
   exact⟨_,Sub.refl _,r⟩
  ·rw[c] at e;cases e
theorem zgW{P:Ay}{w:Bq}{C:Addr}{ws:List W}{M:Mm}{R:K3}(h:vP P w C ws M R):BK P w C (bB R) (bS zgJ ws) M:=by
 obtain⟨a,d,dx,l,rfl,i,r⟩:=h
 show BK P w C (bB R) [some (.ref a)] M
 simp? only[BK,L3.cI,L3.zP]
 refine⟨a,dx,_,.ref d,rfl,i.ob,BO,.inl ⟨_,i.di,fun p n=>?_⟩⟩
 have j:∀ {c:Addr} {o:MO},M c=some o->c≠p:=fun hc e=>by rw[e,n] at hc;cases hc
 refine⟨a,dx,_,.ref d,rfl,by rw[aQ (j i.ob)];exact i.ob,BO,d,_,rfl,by rw[aQ (j i.di)];exact i.di,fun v g=>?_⟩
 have k:v≠p:=fun e=>by rw[e,a5] at g;cases g
 rw[aQ k] at g
 have s:∀ {c:Addr} {o:MO},M c=some o->c≠v:=fun hc e=>by rw[e,g] at hc;cases hc
 refine .inr ⟨d,_,a5,by rw[aQ (s i.di),aQ (j i.di)];exact i.di,fun q b=>?_⟩
 have qv:q≠v:=fun e=>by rw[e,a5] at b;cases b
 rw[aQ qv] at b
 have m:q≠p:=fun e=>by rw[e,a5] at b;cases b
 have f:=b
 rw[aQ m] at f
 exact⟨_,Sub.put (Sub.new (by rw[aQ k];exact g)),r p q n f (Ca m)⟩
def Bt(P:Ay)(w:Bq)(C:Addr)(M:Mm)(a d dx:Addr)(l:List (NP×W)):Mm:=put (put M a (.ins C dx [("backs",.ref d)])) d (.dn P w [0] (kvsOf l))
theorem Bt.pl{P:Ay}{w:Bq}{C:Addr}{M:Mm}{a d dx:Addr}{l:List (NP×W)}(h:a≠d):oG P w C (Bt P w C M a d dx l) a d dx l:=⟨by unfold Bt;rw[aQ h,a5],a5⟩
theorem Bt.sub{P:Ay}{w:Bq}{C:Addr}{M:Mm}{a d dx:Addr}{l:List (NP×W)}(b:M a=none)(hd:M d=none)(h:a≠d):Sub M (Bt P w C M a d dx l):=(Sub.new b).trans (Sub.new (by rw[aQ (Ca h)];exact hd))
theorem Bt.put{P:Ay}{w:Bq}{C:Addr}{M:Mm}{a d dx:Addr}{l b:List (NP×W)}:L3.put (Bt P w C M a d dx l) d (.dn P w [0] (kvsOf b))=Bt P w C M a d dx b:=f9
theorem Bt.first{P:Ay}{w:Bq}{C:Addr}{M:Mm}{a d dx:Addr}{o:MO}(h:a≠d):L3.put (L3.put (L3.put M a o) d (.dn P w [0] [])) a (.ins C dx [("backs",.ref d)])=Bt P w C M a d dx []:=by
 unfold Bt kvsOf
 rw[xJ (Ca h),f9];rfl
theorem N7{d:Addr}:Bz ("put_rule" : Str) [(("backs" : Str),W.ref d)]=none:=by
 rw[Ep,show(("put_rule" : Str) == ("backs" : Str))=false by decide +kernel];rfl
theorem N8{d:Addr}:Bz ("grammar_and_backs" : Str) [(("backs" : Str),W.ref d)]=none:=by
 rw[Ep,show(("grammar_and_backs" : Str) == ("backs" : Str))=false by decide +kernel];rfl
theorem zgX:∀ ws M R,vQ ws M R->ws.length=1:=by rintro ws M R ⟨_,rfl,_⟩;rfl
theorem zgY:∀ ws M R,BE ws M R->ws.length=1:=by rintro ws M R ⟨_,_,rfl,_⟩;rfl
theorem zgZ:∀ ws M R,BF ws M R->ws.length=2:=by rintro ws M R ⟨_,_,_,rfl,_⟩;rfl
theorem zg0{ws:List W}{M:Mm}{R:K3}(h:vQ ws M R):BL (bB R) (bS zgK ws) M:=by
 obtain⟨z,rfl,sh,r⟩:=h
 show BL (bB R) [some (.str z)] M
 obtain⟨c,l,e⟩:=sh.cons
 have hl:=sh.len
 simp? only[BL]
 have a:bI z.cps.toList 0=some c:=by
  show bI (cs z) 0=some c
  rw[e,mU]
 refine⟨by omega,c,a,?_⟩
 simp? only[L3.rIn]
 rw[zD]
 unfold m7 at r
 rw[e] at r
 exact⟨_,Sub.refl _,r⟩
theorem zg1{ws:List W}{M:Mm}{R:K3}(h:BE ws M R):BM (bB R) (bS zgL ws) M:=by
 obtain⟨p,ts,rfl,d,hl,hok,r⟩:=h
 show BM (bB R) [some (.ref p),none,none,none] M
 simp? only[BM,NY]
 refine⟨_,d,?_⟩
 refine kX (rest:=[]) (fun w=>match w with | .tup (n :: _)=>n | _=>.non) (small (by rw[Ab];omega)) (fun c sb=>sb _ _ d) (fun w hw c C sb u=>?_) (aV.frz ?_)
 ·obtain⟨t,_,rfl⟩:=Ao.mp hw
  simp? only[aX]
  exact u
 ·rw[show((ts.map aX).map fun w=>match w with | .tup (n :: _)=>n | _=>W.non)=ts.map fun t=>W.str t.name by rw[Bx];rfl]
  simp? only[N0]
  refine⟨_,d,?_⟩
  refine d5 (fun i a c=>∃ k b,a=[some (.ref p),some (.rl (ts.map fun t=>W.str t.name)),k,b]/\c=M) ⟨_,_,rfl,rfl⟩ (fun i a c _ ⟨_,_,_,e⟩=>by rw[e];exact d) ?_ ?_
  ·rintro i w a c hw ⟨k,b,rfl,rfl⟩
   obtain⟨t,ht,rfl⟩:=Ao.mp (Av hw)
   obtain⟨hc,v⟩:=hok t ht
   simp? only[NZ,aX,hc]
   refine d5 (fun j a g=>∃ b,a=[some (.ref p),some (.rl (ts.map fun t=>W.str t.name)),some (aX t),b]/\g=c) ⟨_,by rw[aX,hc],rfl⟩ (fun _ _ _ _ _=>trivial) ?_ ?_
   ·rintro j w a g hw ⟨b,rfl,rfl⟩
    obtain⟨q,l,rfl⟩:=Ao.mp (Av hw)
    obtain⟨sh,s⟩:=v q l
    simp? only[]
    refine⟨q,rfl,sh,?_⟩
    simp? only[]
    split
    ·rename_i x
     obtain⟨t',o,e⟩:=s x
     have m:inW (.str q) (ts.map fun t=>W.str t.name)=true:=by
      rw[show(ts.map fun t=>W.str t.name)=(ts.map aG.name).map W.str by rw[Bx];rfl,pK]
      exact decide_eq_true (Ao.mpr ⟨t',o,e⟩)
     have f:(ts.map fun t=>W.str t.name).all eF=true:=by rw[Lo,Er];intro t _;rfl
     simp? only[L3.rIn,m,f,eF]
     exact⟨_,Sub.refl _,_,rfl,rfl⟩
    ·exact⟨_,Sub.refl _,_,rfl,rfl⟩
   ·rintro a g ⟨b,rfl,rfl⟩
    exact⟨_,Sub.refl _,_,_,rfl,rfl⟩
  ·rintro a c ⟨k,b,rfl,rfl⟩
   simp? only[N2]
   exact⟨_,Sub.refl _,r⟩
theorem zg2{ws:List W}{M:Mm}{R:K3}(h:BF ws M R):BN (bB R) (bS zgM ws) M:=by
 obtain⟨rs,p,ts,rfl,u,hl,x,hok,r⟩:=h
 show BN (bB R) [some (.rl (rs.map aX)),some (.ref p),none,none,none,none,none] M
 have first:∀ l:List aG,((l.map aX).map fun w=>match w with | .tup (n :: _)=>n | _=>W.non)=(l.map aG.name).map W.str:=fun l=>by rw[Bx,Bx];rfl
 simp? only[BN,N3]
 refine kX (rest:=[]) (fun w=>match w with | .tup (n :: _)=>n | _=>.non) (small (by rw[Ab];omega)) (fun _ _=>trivial) (fun w hw d C sb f=>?_) (aV.frz ?_)
 ·obtain⟨t,_,rfl⟩:=Ao.mp hw
  simp? only[aX]
  exact f
 rw[first]
 simp? only[N5]
 refine⟨_,u,?_⟩
 refine kX (rest:=[]) (fun w=>match w with | .tup (n :: _)=>n | _=>.non) (small (by rw[Ab];omega)) (fun d sb=>sb _ _ u) (fun w hw d C sb f=>?_) (aV.frz ?_)
 ·obtain⟨t,_,rfl⟩:=Ao.mp hw
  simp? only[aX]
  exact f
 rw[first]
 simp? only[]
 refine d5 (fun i k d=>∃ s o j g,k=[some (.rl (rs.map aX)),some (.ref p),some (.rl ((rs.map aG.name).map W.str)),s,o,j,g]/\d=M) ⟨_,_,_,_,rfl,rfl⟩ (fun _ _ _ _ _=>trivial) ?_ ?_
 ·rintro i w k d hw ⟨s,o,j,g,rfl,rfl⟩
  obtain⟨z,hz,rfl⟩:=Ao.mp (Av hw)
  obtain⟨t,ht,rfl⟩:=Ao.mp hz
  obtain⟨A,a⟩:=hok t ht
  simp? only[N4,L3.tU,L3.rIn,pK,rC,eF]
  refine⟨by decide +kernel,by omega,?_⟩
  by_cases b:t.name∈rs.map aG.name
  ·rw[if_neg (fun h=>h b),if_neg (fun h=>h b)]
   exact⟨_,Sub.refl _,_,_,_,_,rfl,rfl⟩
  ·rw[if_pos b]
   obtain⟨i,hi,e⟩:∃ i,i < 180/\t.name=pN i:=by
    rcases a with⟨q,B,e⟩ | h
    ·exact absurd (Ao.mpr ⟨q,B,e⟩) b
    ·exact h
   rw[e] at b ⊢
   rw[zdV]
   have F:=zdU hi
   have y:(("M" : Str).length:Int)=1:=by decide +kernel
   dsimp only
   rw[if_neg (show ¬ (("_" : Str) = "") by decide +kernel)]
   simp? only[L3.qT,y]
   refine⟨by omega,?_⟩
   rw[if_pos (by omega),if_neg (by omega)]
   refine⟨by decide +kernel,?_⟩
   rw[if_neg (fun h=>h trivial),if_pos b]
   refine yI (rest:=[]) (fun _=>none) (small ?_) (fun _ _=>trivial) (fun w hw E C D sb f v=>?_) (aV.frz ?_)
   ·rw[Ab]
    have:=nG (mZ i)
    unfold cs at this
    omega
   ·obtain⟨c,hc,rfl⟩:=Ao.mp hw
    simp? only[L3.rIn]
    rw[zD,decide_eq_true ((xD (m:=i)).1 c hc)]
    exact v rfl
   ·rw[show(Gh (fun c=>W.str {cps:=#[c]}) (mZ i).cps.toList).filterMap (fun _=>(none:Option W))=[] by simp]
    refine qW 1 (by decide) (fun w hw=>nomatch hw) rfl ⟨_,rfl,?_⟩
    rw[if_neg (by decide)]
    exact⟨_,Sub.refl _,_,_,_,_,rfl,rfl⟩
 ·rintro k d ⟨s,o,j,g,rfl,rfl⟩
  simp? only[N6]
  exact⟨_,Sub.refl _,r⟩
theorem kD{ps:List Str}{M:Mm}(h:∀ t∈ps,Sh t):Pl 2 (cQ M (.tup (ps.map W.str))):=fun w hw=>by
 obtain⟨t,ht,rfl⟩:=Ao.mp hw
 exact yO (h t ht).asc
theorem zg3{q:aG}(h:mV q.name/\∀ t∈q.parts,Sh t):Pl 3 (aX q):=fun w hw=>by
 simp only[Be,List.not_mem_nil,or_false] at hw
 rcases hw with rfl | rfl | rfl
 ·exact yO h.1
 ·exact fun w hw=>by
   obtain⟨t,ht,rfl⟩:=Ao.mp hw
   exact yO (h.2 t ht).asc
 ·trivial
theorem mE{l:List aG}{M:Mm}(h:r9 l):Pl 4 (cQ M (.rl (l.map aX))):=fun w hw=>by
 obtain⟨q,a,rfl⟩:=Ao.mp hw
 exact zg3 (h q a)
theorem vR(g:aG->Bool)(f:W->Option W)(hf:∀ q:aG,f (aX q)=if g q then some (aX q) else none):∀ l:List aG,(l.map aX).filterMap f=(l.filter g).map aX
 | []=>rfl
 | q :: l=>by
  rw[Au,Fo,hf,Fg]
  cases g q
  ·simp only[Cz,if_false];exact vR g f hf l
  ·simp only[if_true,Au];rw[vR g f hf l]
theorem BP{l:List W}:(W.rl l=W.rl [])↔l=[]:=by constructor;intro h;injection h;intro h;rw[h]
theorem zg4{rs:List aG}(g:tZ rs):r9 rs:=fun q a=>by
 refine⟨(g.asc a).1,fun t ht=>?_⟩
 obtain⟨b,ws,_,hh,hw,hr,_⟩:=g.ex
 rcases(hr q a).parts t ht with h | h
 ·exact(hw t h).sh
 ·exact(hh t h).sh
def BQ:bL:=fun ws M R=>∃ rs:List aG,ws=[cE rs]/\rs.length<=100/\aV (rs.map fun _=>W.int 0) M R
def BR:bL:=fun ws M R=>∃ (rs:List aG) (U:List Str),ws=[cE rs]/\rs.length<=100/\U.length < 64/\mB rs U/\∀ a:List Str,mB rs a->a.Nodup->(∀ t∈a,t∈U)->R (.rl (a.map W.str)) M
def BS:bL:=fun ws M R=>∃ rs:List aG,ws=[cE rs]/\GL rs/\∀ kvs:List (aD×W),(∀ X:Str,aY kvs (Sum.inr X:aD)=(vB rs X).map W.int)->nM kvs M R
abbrev zg5:List Str:=["grammar"]
def BU:aH:=
   (bR (eL (cC cJ (aA 0)) (bC 0) gJ (vC (.int 0)) [none]))
abbrev zg6:List Str:=["grammar","own","found","rule","part"]
def N9:aH:=
   (a9 1 (bJ rW (aB (cF (bJ nW (aB (aA 0) aF))) aF)))
def OA:aH:=
   (a9 2 tO)
def OB:aH:=
   (d4 (cC cJ (aE aO (aA 3) (vC (.int 1)))) (bC 4)
    (cG (bM (aE (rIn true) (aA 4) (aA 1)))
    (hW (vC (.bl true)) (j6 (aA 2) (aA 4)))
    c7))
def OC:aH:=
   (d4 (cC cJ (aA 0)) (bC 3) OB)
def OD:aH:=
   (bR (bN yM (aB (cF (aA 2)) aF)))
def BV:aH:=(aN N9 (aN OA (aN OC OD)))
abbrev zg7:List Str:=["grammar","steps","best"]
def OE(C:Cc):aH:=
   (a9 1 (cF (bN A8 (aB (cF (eL (cC cJ (bJ BR (aB (aA 0) aF))) (bC 0) gJ (bO (aB (bO (aB (aA 0) (aB (vC (.int 0)) aF))) (aB (gA (aB (bO (aB (vC (.int 0)) (aB (vC (.int 1)) aF))) aF)) aF))) [none])) aF))))
def OF(C:Cc):aH:=
   (a9 2 (u7 (bJ (A5 C) (aB (aA 0) (aB (gA (aB (vC (.int 0)) aF)) (aB (aA 1) (aB (cF (bJ BQ (aB (aA 0) aF))) aF)))))))
def OG(C:Cc):aH:=
   (bR (bN zF (aB (cF (eL (cC u9 (aA 2)) (bC 0) gJ (bO (aB (aE aO (aA 0) (vC (.int 0))) (aB (aE aO (aE aO (aE aO (aA 1) (aA 0)) (vC (.int 0))) (vC (.int 0))) aF))) [none,some 2])) aF)))
def BW(C:Cc):aH:=(aN (OE C) (aN (OF C) (OG C)))
theorem zg8:∀ ws M R,BQ ws M R->ws.length=1:=by rintro ws M R ⟨_,rfl,_⟩;rfl
theorem zg9:∀ ws M R,BR ws M R->ws.length=1:=by rintro ws M R ⟨_,_,rfl,_⟩;rfl
theorem zha:∀ ws M R,BS ws M R->ws.length=1:=by rintro ws M R ⟨_,rfl,_⟩;rfl
theorem zhb{ws:List W}{M:Mm}{R:K3}(h:BQ ws M R):BU (bB R) (bS zg5 ws) M:=by
 obtain⟨rs,rfl,hl,r⟩:=h
 show BU (bB R) [some (cE rs)] M
 simp? only[BU,cE]
 refine kX (rest:=[]) (fun _=>.int 0) (small (by rw[Ab];omega)) (fun _ _=>trivial) (fun w hw c C sb b=>?_) ?_
 ·simp? only[];exact b
 ·intro p a
  refine⟨_,Sub.refl _,?_⟩
  have e:(rs.map aX).map (fun _=>W.int 0)=rs.map fun _=>W.int 0:=by rw[Bx];rfl
  rw[e]
  exact r p a
theorem vS(rs:List aG)(t:Str):(aY (ownOf rs) (Sum.inr t:aD)).isSome=ownB rs t:=by
 unfold ownOf ownB
 rw[look_nkw,Ef]
 simp only[decide_eq_true_eq]
 rw[yN];simp
theorem zhc{ws:List W}{M:Mm}{R:K3}(h:BR ws M R):BV (bB R) (bS zg6 ws) M:=by
 obtain⟨rs,U,rfl,hl,hU,aU,r⟩:=h
 show BV (bB R) [some (cE rs),none,none,none,none] M
 simp? only[BV,N9,cE]
 refine⟨rs,rfl,Bs hl (by decide),aV.frz ?_⟩
 refine⟨namesOf rs,rfl,by have:=AG rs;omega,?_⟩
 obtain⟨ow,how⟩:∃ ow,ow=(((namesOf rs).foldl eC []).map eD):=⟨_,rfl⟩
 have lo:∀ t,(aY ow (Sum.inr t:aD)).isSome=ownB rs t:=fun t=>by rw[how];exact vS rs t
 rw[<-how]
 simp? only[OA]
 intro p hp
 simp? only[OC]
 refine d5 (fun i τ M'=>∃ (ss:List Str) (o3 o4:Option W),τ=[some (.rl (rs.map aX)),some (.dk ow),some (.ref p),o3,o4]/\M'=put M p (.dK (ss.map eD))/\ss.Nodup/\(∀ t∈ss,t∈U)/\∀ q∈rs.take i,∀ t∈q.parts,ownB rs t=false->t∈ss) ⟨[],_,_,rfl,rfl,Fw,by simp,by simp⟩ (fun _ _ _ _ _=>trivial) ?_ ?_
 ·rintro i w τ M' hw ⟨ss,o3,o4,rfl,rfl,nd,hsU,hin⟩
  rw[Aw] at hw
  obtain⟨q,hq,rfl⟩:=Bb.mp hw
  simp? only[OB,aX]
  refine d5 (fun j τ M'=>∃ (s2:List Str) (o4:Option W),τ=[some (.rl (rs.map aX)),some (.dk ow),some (.ref p),some (aX q),o4]/\M'=put M p (.dK (s2.map eD))/\s2.Nodup/\(∀ t∈s2,t∈U)/\(∀ t∈ss,t∈s2)/\∀ t∈q.parts.take j,ownB rs t=false->t∈s2) ⟨ss,_,rfl,rfl,nd,hsU,fun _ h=>h,by simp⟩ (fun _ _ _ _ _=>trivial) ?_ ?_
  ·rintro j w τ M' hw ⟨s2,o4,rfl,rfl,nd2,hsU2,hs2,hin2⟩
   rw[Aw] at hw
   obtain⟨t,ht,rfl⟩:=Bb.mp hw
   simp? only[L3.rIn]
   refine⟨_,⟨Sum.inr t,rfl,rfl⟩,?_⟩
   rw[lo t]
   cases ho:ownB rs t with
   | true=>
    simp? only[]
    refine⟨_,Sub.refl _,s2,_,rfl,rfl,nd2,hsU2,hs2,fun x hx hox=>?_⟩
    rw[take_snoc ht] at hx
    rcases Bh.mp hx with z | z
    ·exact hin2 x z hox
    ·rw[Ax.mp z,ho] at hox;cases hox
   | false=>
    simp? only[]
    have hl2:s2.length<=U.length:=len_sub nd2 hsU2
    refine yK a5 (by rw[Ab];exact gK (by omega)) ⟨_,Sub.refl _,eC s2 t,_,rfl,by rw[f9,zE],MY nd2,fun x hx=>?_,fun x hx=>qX.mpr (.inl (hs2 x hx)),fun x hx hox=>?_⟩
    ·rcases qX.mp hx with z | z
     ·exact hsU2 x z
     ·rw[z];exact aU q (Av hq) t (Av ht) ho
    ·rw[take_snoc ht] at hx
     rcases Bh.mp hx with z | z
     ·exact qX.mpr (.inl (hin2 x z hox))
     ·exact qX.mpr (.inr (by simpa using z))
  ·rintro τ M' ⟨s2,o4,rfl,rfl,nd2,hsU2,hs2,hin2⟩
   rw[Ab,Cq] at hin2
   refine⟨_,Sub.refl _,s2,_,_,rfl,rfl,nd2,hsU2,fun x hx t ht ho=>?_⟩
   rw[take_snoc hq] at hx
   rcases Bh.mp hx with z | z
   ·exact hs2 t (hin x z t ht ho)
   ·rw[Ax.mp z] at ht
    exact hin2 t ht ho
 ·rintro τ M' ⟨ss,o3,o4,rfl,rfl,nd,hsU,hin⟩
  rw[Ab,Cq] at hin
  simp? only[OD]
  refine HS hp ?_
  simp? only[yM]
  have hl2:ss.length<=U.length:=len_sub nd hsU
  refine⟨ss,by rw[Bx];rfl,by omega,fun s3 hperm=>⟨_,Sub.refl _,r s3 (fun q hq t ht ho=>hperm.mem_iff.mpr (hin q hq t ht ho)) (hperm.nodup_iff.mpr nd) fun t ht=>hsU t (hperm.mem_iff.mp ht)⟩⟩
def mF(a:List Str):List (List aD×W):=a.map fun t=>([Sum.inr t,Sum.inl 0],.rl [.tup [.int 0,.int 1]])
theorem OH:∀ {ps acc:List (List aD×W)},((acc ++ ps).map (·.1)).Nodup->pM acc ps=acc ++ ps
 | [],acc,_=>by simp[pM]
 | p :: ps,acc,h=>by
  have a:aY acc p.1=none:=by
   rw[Bi,Dz] at h
   exact rR fun e c z=>h.2.2 _ (Ao.mpr ⟨e,c,rfl⟩) p.1 (by simp) z
  have e:b9 acc p.1 p.2=acc ++ [p]:=by
   unfold b9
   rw[if_neg (by rw[show(acc.any fun b=>decide (b.1=p.1))=(aY acc p.1).isSome from m8 acc p.1,a];decide)]
  show pM (b9 acc p.1 p.2) ps=_
  rw[e,OH (by rw[Hc];exact h),Hc];rfl
theorem zhd{a:List Str}(h:a.Nodup):((mF a).map (·.1)).Nodup:=by
 unfold mF
 rw[Bx]
 induction a with
 | nil=>simp
 | cons t a d=>
  rw[Dh] at h
  rw[Au,Dh]
  refine⟨fun b=>?_,d h.2⟩
  obtain⟨x,c,e⟩:=Ao.mp b
  have:x=t:=by simpa using e
  exact h.1 (by rw[<-this];exact c)
theorem zhe(a:List Str)(t:Str)(p:Int):aY (mF a) (eK (t,p))=if p=0/\t∈a then some (.rl [.tup [.int 0,.int 1]]) else none:=by
 unfold mF eK
 induction a with
 | nil=>simp[aY]
 | cons x a e=>
  rw[Au,n9,e]
  by_cases c:p=0
  ·subst c
   by_cases d:x=t
   ·subst d;rw[if_pos rfl,if_pos ⟨rfl,by simp⟩]
   ·rw[if_neg (fun z=>d (by simpa using z))]
    by_cases b:t∈a
    ·rw[if_pos ⟨rfl,b⟩,if_pos ⟨rfl,An _ b⟩]
    ·rw[if_neg (fun z=>b z.2),if_neg (fun z=>by rcases Be.mp z.2 with q | q;exact d q.symm;exact b q)]
  ·rw[if_neg (fun z=>c (by simp at z;exact z.2.symm)),if_neg (fun z=>c z.1),if_neg (fun z=>c z.1)]
theorem zhf{C:Cc}{ws:List W}{M:Mm}{R:K3}(h:BS ws M R):BW C (bB R) (bS zg7 ws) M:=by
 obtain⟨rs,rfl,g,r⟩:=h
 show BW C (bB R) [some (cE rs),none,none] M
 have hf:=g.few
 simp? only[BW,OE]
 obtain⟨U,O,E⟩:=g.wds
 refine⟨rs,U,rfl,by omega,O,E,fun a Q nd l=>?_⟩
 have hsl:a.length<=U.length:=len_sub nd l
 simp? only[]
 refine kX (rest:=[]) (fun w=>.tup [.tup [w,.int 0],.rl [.tup [.int 0,.int 1]]]) (small (by rw[Ab];omega)) (fun _ _=>trivial) (fun w hw M' C sb d=>?_) (aV.frz ?_)
 ·simp? only[];exact d
 simp? only[A8]
 refine⟨mF a,?_,small (by rw[Ab,Ab];omega),?_⟩
 ·unfold vA mF
  rw[Bx,Bx];rfl
 rw[OH (by simpa using zhd nd),Ie]
 refine oU.frz ?_
 obtain⟨F,c⟩:∃ w,w=cE rs:=⟨_,rfl⟩
 rw[<-c]
 simp? only[OF,L3.u7]
 refine⟨rs,c ▸ rfl,by omega,aV.frz ?_⟩
 have I:(rs.map fun _=>W.int 0)=(Cv (c9 rs a).rs.length).map fun n=>W.int ((c9 rs a).wt n):=by
  show(rs.map fun _=>W.int 0)=(Cv rs.length).map fun n=>W.int 0
  rw[List.map_const',List.map_const',Je]
 have N:=AG rs
 refine⟨c9 rs a,⟨rs,ownOf rs,mF a⟩,[0],5,1,by rw[I,c];rfl,by show rs.length<=100;omega,rfl,⟨rfl,fun t=>vS rs t,fun t p=>?_⟩,MZ rs a,M8 a g.prt,by decide,by show 1<=1000;decide,M9 rs a,?_,fun B k=>?_⟩
 ·show(aY (mF a) (eK (t,p))=none/\(if p=0/\t∈a then [((0:Int),(1:Int))] else [])=[])\/aY (mF a) (eK (t,p))=some (.rl ((if p=0/\t∈a then [((0:Int),(1:Int))] else []).map fun z=>.tup [.int z.1,.int z.2]))
  rw[zhe]
  by_cases h:p=0/\t∈a
  ·right;rw[if_pos h,if_pos h];rfl
  ·left;rw[if_neg h,if_neg h];exact⟨rfl,rfl⟩
 ·have Y:(iB (c9 rs a)).length=rs.length * 1:=A7 (c9 rs a) rs.length
  rw[Y]
  show rs.length * 1 + rs.length * ((5 + 1) * (1 * 1)) * (1 + 1) + rs.length * ((5 + 1) * (1 * 1)) + 1 + 1 + 1 < 10000000
  omega
 ·obtain⟨S,I0,st,P,cur,T,A,hq,rfl,_⟩:=k
  intro G q
  refine⟨G,rfl,.inr ⟨_,a5,?_⟩⟩
  rw[nJ q]
  have Z:=LX A
  simp? only[OG,L3.u9]
  refine JH (rest:=[some (.ft (e9 fK iR st.best))]) (fun w y=>∃ e∈st.best,w=.tup ((fK e.1).map wK)/\y=.tup [.str e.1.1,.int e.2.1.1]) (small (by rw[Ab,Ab];omega)) (fun _ _=>trivial) (fun w hw M' C sb d=>?_) fun ys f=>aV.frz ?_
  ·rw[Bx] at hw
   obtain⟨e,v,rfl⟩:=Ao.mp hw
   obtain⟨⟨nm,b,z⟩,m,n,cut⟩:=e
   have H:aI st.best (nm,b,z)=some (m,n,cut):=rQ A v
   simp? only[Jh,fK,wK,Au,Jd]
   refine⟨iR (m,n,cut),⟨fK (nm,b,z),rfl,?_⟩,?_⟩
   ·rw[pT uU,H];rfl
   ·simp? only[iR,cW]
    exact d _ ⟨_,v,rfl,rfl⟩
  ·simp? only[zF]
   have hy:ys=mY (oC st.best):=by
    have:∀ {B:d7} {ys:List W},(∀ e∈B,e∈st.best)->Fm (fun w y=>∃ e∈st.best,w=W.tup ((fK e.1).map wK)/\y=W.tup [.str e.1.1,.int e.2.1.1]) ((e9 fK iR B).map fun p=>W.tup (p.1.map wK)) ys->ys=mY (oC B):=by
     intro B
     induction B with
     | nil=>intro ys _ h;cases h;rfl
     | cons e B V=>
      intro ys k h
      cases h with
      | cons h t=>
       obtain⟨j,o,d,J⟩:=h
       have hk:fK e.1=fK j.1:=by
        have d:W.tup ((fK e.1).map wK)=W.tup ((fK j.1).map wK):=d
        have:=W.tup.inj d
        unfold fK at this ⊢
        simp[wK] at this
        rw[this.1,this.2.1,this.2.2]
       have i:e.1=j.1:=uU _ _ hk
       have u:=rQ A (k e Ba)
       have K:=rQ A o
       rw[i,K] at u
       have D:j.2=e.2:=Cp u
       rw[V (fun x L=>k x (An _ L)) t,J,<-i,D]
       rfl
    exact this (fun _ h=>h) f
   have s:=Cu f
   rw[Ab,Ab] at s
   refine⟨oC st.best,hy,small (by omega),fun p hp=>⟨_,Sub.refl _,r _ (fun X=>?_) p hp⟩⟩
   rw[zgo A,<-LZ Q A hq]
end Rg
namespace L3
open PySem PySem.Spec PyProof.Rows L2
section
variable {X:Cx}
def BX:W->List W->Mm->K3->Prop:=fun x vs M R=>∃ l ws,x=.ref l/\vs=[]/\M l=some (.lst ws)/\R .non (put M l (.lst []))
theorem OI:fD X "list.clear" (jI X.K BX):=by
 rintro a s g H x xs v us Q I d rs ⟨i,ws,M,R,c,h,b,⟨l,j,rfl,rfl,e,r⟩,k⟩
 obtain⟨vs,f,q⟩:=c.lst e
 exact V7 a s g H _ _ v us Q I d rs ⟨l,vs,h.inv,b.nil_,f,tF c k e .nil .non r⟩
end
section
variable {X:Cx}{pos:Pos}{a b:Expr}{ta tb te:aW}
theorem cD{i:Nat}{x:Str}(b:X.N.Nodup)(hi:X.N[i]? = some x:=by rfl)(a:Loc X.env.scope x:=by first | exact Or.inl rfl | exact Or.inr rfl)(hf:X.fn x=true\/X.env.scope.names.lookup x=some .local:=by first | exact .inl rfl | exact .inr rfl | assumption):PG X (.Name x pos) (gF X.K (bC i)):=IT b hi a hf
theorem gC{i:Nat}{x:Str}(hi:X.N[i]? = some x:=by rfl)(a:Loc X.env.scope x:=by first | exact Or.inl rfl | exact Or.inr rfl)(b:X.N.Nodup:=by exact of_decide_eq_true (by kernel_rfl))(hf:X.fn x=true\/X.env.scope.names.lookup x=some .local:=by first | exact .inl rfl | exact .inr rfl | assumption):PG X (.Name x pos) (gF X.K (bC i)):=IT b hi a hf
theorem bD{i:Nat}{x:Str}{e:Expr}{a:Pos}(d:X.N.Nodup)(f:E3 X e te)(hi:X.N[i]? = some x:=by rfl)(b:Loc X.env.scope x:=by first | exact Or.inl rfl | exact Or.inr rfl)(c:Hg e (some (.Name x a)) pos.line X.env=pure false:=by rfl)(hf:X.fn x=true\/X.env.scope.names.lookup x=some .local:=by first | exact .inl rfl | exact .inr rfl | assumption) :
  P3 X (.Assign [.Name x a] e pos) (a9 i te):=ZP d hi b f c hf
theorem iU{op:CmpOp}{r:R3}(d:a8 X (Cf op) (cB X.K r))(e:E3 X a ta)(f:E3 X b tb)(c:Hh op b=false:=by first | exact FL _ | with_unfolding_all rfl):E3 X (.Compare a [op] [b] pos) (aE r ta tb):=YL d e f c
theorem bY{op:CmpOp}{r:R3}(d:a8 X (Cf op) (cB X.K r))(e:E3 X a ta)(f:E3 X b tb)(c:Hh op b=false:=by first | exact FL _ | with_unfolding_all rfl):T3 X (.Compare a [op] [b] pos) (bM (aE r ta tb)):=YM d e f c
variable {tg iter elt:Expr}{ifs:List Expr}{sc:Iw}{wi:h8}{g:eX}{tt:dQ}
theorem zhg{i:Nat}{x:Str}{e a:Pos}(j:X.N.Nodup)(b:List Str)(js:List (Option Nat))(hi:PI X tg iter (gH X.K wi))
  (n:∀ B,PG (cU X sc b B) tg (gF X.K g)) (ht:∀ B,g9 (cU X sc b B) ifs (jH X.K tt)) (m:∀ B,PE (cU X sc b B) elt (up X.K te)) (d:X.N[i]? = some x:=by rfl) (f:Loc X.env.scope x:=by first | exact Or.inl rfl | exact Or.inr rfl)
  (l:lH b sc X.env.scope=true:=by kernel_rfl) (k:eU b X.N sc js b=true:=by kernel_rfl) (hc:X.calm=true:=by rfl) (c:Hg (.ListComp elt [⟨tg,iter,ifs,0⟩] sc pos) (some (.Name x e)) a.line X.env=pure true:=by rfl)
  (hf:X.fn x=true\/X.env.scope.names.lookup x=some .local:=by first | exact .inl rfl | exact .inr rfl | assumption)
  (h:∀ x,Fd iter X.env x=pure x:=by intro _;rfl):P3 X (.Assign [.Name x e] (.ListComp elt [⟨tg,iter,ifs,0⟩] sc pos) a) (a9 i (eL wi g tt te js)):=Z2 j d f b js hi n ht m l k hc c hf h
theorem BY{i:Nat}{x:Str}{e a:Pos}(j:X.N.Nodup)(b:List Str)(js:List (Option Nat))(hi:PI X tg iter (gH X.K wi))
  (n:∀ B,PG (cU X sc b B) tg (gF X.K g)) (ht:∀ B,g9 (cU X sc b B) ifs (jH X.K tt)) (m:∀ B,PE (cU X sc b B) elt (up X.K te)) (d:X.N[i]? = some x:=by rfl) (f:Loc X.env.scope x:=by first | exact Or.inl rfl | exact Or.inr rfl)
  (l:lH b sc X.env.scope=true:=by kernel_rfl) (k:eU b X.N sc js b=true:=by kernel_rfl) (hc:X.calm=true:=by rfl) (c:Hg (.ListComp elt [⟨tg,iter,ifs,0⟩] sc pos) (some (.Name x e)) a.line X.env=pure true:=by rfl)
  (hf:X.fn x=true\/X.env.scope.names.lookup x=some .local:=by first | exact .inl rfl | exact .inr rfl | assumption)
  (h:∀ x,Fd iter X.env x=pure x:=by intro _;rfl):P3 X (.Assign [.Name x e] (.ListComp elt [⟨tg,iter,ifs,0⟩] sc pos) a) (a9 i (cF (eL wi g tt te js))):=Z9 j d f b js hi n ht m l k hc c hf h
end
theorem b7{N ps:List Str}{sc:Iw}(a:sc.kind=.function:=by rfl)(b:sc.isCoroutine=false:=by rfl)(c:sc.isGenerator=false:=by rfl)(d:N.Nodup:=by decide +kernel)(e:N.take ps.length=ps:=by rfl)(f:∀ x∈ps,sc.names.lookup x=some .local\/sc.names.lookup x=some .cell:=by decide +kernel)(g:∀ y∈sc.names,y.2≠.free:=by decide +kernel):oK N ps sc:=⟨a,b,c,d,e,f,g⟩
theorem zhh{C:List Ae->Prop}(h:C [])(us:List Ae)(e:us.length=0):C us:=by rw[Im.mp e];exact h
theorem sA{C:List Ae->Prop}{n:Nat}(k:∀ a us,us.length=n->C (a :: us)):∀ us:List Ae,us.length=n + 1->C us
 | a :: l,e=>k a l (Nat.succ.inj e)
theorem vT{C:List Ae->Prop}(h:∀ a,C [a]):∀ us:List Ae,us.length=1->C us:=sA fun a=>zhh (h a)
theorem vU{C:List Ae->Prop}(h:∀ a b,C [a,b]):∀ us:List Ae,us.length=2->C us:=sA fun a=>vT (h a)
theorem vV{C:List Ae->Prop}(h:∀ a b c,C [a,b,c]):∀ us:List Ae,us.length=3->C us:=sA fun a=>vU (h a)
theorem vW{C:List Ae->Prop}(h:∀ a b c d,C [a,b,c,d]):∀ us:List Ae,us.length=4->C us:=sA fun a=>vV (h a)
theorem BZ{C:List Ae->Prop}(h:∀ a b c d e,C [a,b,c,d,e]):∀ us:List Ae,us.length=5->C us:=sA fun a=>vW (h a)
def B0(x q:Str)(st:Stmt)(ps:List Str):Prop:=∀ (kV doc pm:Ae) (an:Option Addr) (cdv ct:Ae) (us:List Ae),us.length=ps.length->bindArgs (Ek x q (jC st) (gY st) (eS st) .none kV doc pm an cdv ct) ⟨us,[]⟩=pure (ps.zip us)
section
variable {K:Ac}{mg:Str->Option Ae}{h:Heap}{x q:Str}{st:Stmt}{C f:Addr}{ps:List Str}{an:Option Addr}{kV doc pm cdv ct:Ae}
theorem dF(X:K.In h)(G:h.Ns Ea mg)(a:B0 x x st ps:=by first | exact fun _ _ _ _ _ _=>vT fun _=>rfl | exact fun _ _ _ _ _ _=>vU fun _ _=>rfl | exact fun _ _ _ _ _ _=>vV fun _ _ _=>rfl | exact fun _ _ _ _ _ _=>vW fun _ _ _ _=>rfl | exact fun _ _ _ _ _ _=>BZ fun _ _ _ _ _=>rfl | exact fun _ _ _ _ _ _=>ar6 fun _ _ _ _ _ _=>rfl)(n:PySem.W.nsIn K Ea x=some (some (.ref f)):=by kernel_rfl)(l:K.lookup f=some ⟨.type "function",none,.func (Ek x x (jC st) (gY st) (eS st) .none kV doc pm an cdv ct),#[]⟩:=by kernel_rfl)(c:Ik K cdv x=true:=by kernel_rfl)(k:Fh K (.ref f)=true:=by kernel_rfl):Df K mg x st ps f (Ek x x (jC st) (gY st) (eS st) .none kV doc pm an cdv ct):=⟨oO l c k,Ht X G n,(oO l c k).binds a⟩
theorem dM(b:B0 x q st ps:=by first | exact fun _ _ _ _ _ _=>vT fun _=>rfl | exact fun _ _ _ _ _ _=>vU fun _ _=>rfl | exact fun _ _ _ _ _ _=>vV fun _ _ _=>rfl | exact fun _ _ _ _ _ _=>vW fun _ _ _ _=>rfl | exact fun _ _ _ _ _ _=>BZ fun _ _ _ _ _=>rfl)(a:Cd K (.ref C) x=some (some (.ref f)):=by kernel_rfl)(n:Kz K (.ref f)=true:=by kernel_rfl)(l:K.lookup f=some ⟨.type "function",none,.func (Ek x q (jC st) (gY st) (eS st) .none kV doc pm an cdv ct),#[]⟩:=by kernel_rfl)(c:Ik K cdv q=true:=by kernel_rfl)(k:Fh K (.ref f)=true:=by kernel_rfl):Dm K C x q st ps f (Ek x q (jC st) (gY st) (eS st) .none kV doc pm an cdv ct):=⟨oO l c k,⟨a,n,k⟩,(oO l c k).binds b⟩
theorem dI(b:B0 x q st ps:=by first | exact fun _ _ _ _ _ _=>vT fun _=>rfl | exact fun _ _ _ _ _ _=>vU fun _ _=>rfl | exact fun _ _ _ _ _ _=>vV fun _ _ _=>rfl | exact fun _ _ _ _ _ _=>vW fun _ _ _ _=>rfl | exact fun _ _ _ _ _ _=>BZ fun _ _ _ _ _=>rfl)(m:PySem.W.makesIn K C=true:=by kernel_rfl)(a:Cd K (.ref C) "__init__" = some (some (.ref f)):=by kernel_rfl)(n:Kz K (.ref f)=true:=by kernel_rfl)(d:Fh K (.ref C)=true:=by kernel_rfl)(l:K.lookup f=some ⟨.type "function",none,.func (Ek x q (jC st) (gY st) (eS st) .none kV doc pm an cdv ct),#[]⟩:=by kernel_rfl)(c:Ik K cdv q=true:=by kernel_rfl)(k:Fh K (.ref f)=true:=by kernel_rfl):Di K C x q st ps f (Ek x q (jC st) (gY st) (eS st) .none kV doc pm an cdv ct):=⟨oO l c k,⟨m,a,n,d⟩,(oO l c k).binds b⟩
variable {P:Ay}{w:Bq}{base:Heap}{fd:Bo}{N:List Str}{k:Nat}{sp:bL}{rd:aH}
theorem b8(P:Ay)(w:Bq)(mg:Str->Option Ae)(base:Heap)(k:Nat)(F:kK K x q st f fd)(_:Binds K fd ps [])(S:oK N ps (eS st))(len:∀ ws M R,sp ws M R->ws.length=ps.length)(a:∀ {ws M R},sp ws M R->rd (bB R) (bS N ws) M)
  (b:∀ {cdv:Ae} {A:Cr} {outer:List Env} {s:Ah} {H:Hp} {E:XK},cT k (A.deeper (Ls q (eS st) s.heap.objs.size f cdv))->(A.deeper (Ls q (eS st) s.heap.objs.size f cdv)).units + 1 < Es->N.Nodup->kS (mJ gP P w K mg base N q (eS st) f cdv A outer s H E).nox (gY st) rd):fB P w K mg base gP (k + 1) f fd ps (hV K sp):=
 Z3 F S len fun _ _ _ _ _ _ _ _ _ hr h=>⟨rd,b hr (W0 hr) S.nd,a h⟩
end
section
variable {X:Cx}{pos p:Pos}{x:Str}{st:Stmt}{e:Expr}{es:List Expr}{t:dZ}{k j:Nat}{f:Addr}{fd:Bo}{ps:List Str}{sp:bL}
theorem bP(F:fB X.prog X.w X.K X.mg X.base gP k f fd ps (hV X.K sp))(D:Df X.K X.mg x st ps f fd)(hr:cT j X.A)(c:A3 X (e :: es) t)(d:k<=j:=by decide)(h:Gl X x:=by rfl)(b:(x == ("__debug__" : Str))=false:=by decide)(g:Bl (e :: es) X.env=(false,eval e X.env) :: Bl es X.env:=by rfl)(a:(Fs pos (Bl es X.env)).any (·.1)=false:=by rfl) :
  E3 X (.Call (.Name x p) (e :: es) [] pos) (bJ sp t):=YR F (hr.mono d) h D.at_ D.fn.kp D.bi c b g a
end
end L3
namespace L2
open PySem PySem.Spec PyProof.Rows
section
variable {X:Cx}
theorem vX{P:Ay}{w:Bq}{H:Hp}{h:Heap}{a:Addr}{ks:List (aD×V)}{o:Obj}(ok:cR P w H h)(e:H a=some (.frz o (.dK ks))):∃ vs es ep,KV ks vs/\o.data=.dict es ep/\h.DictAt (bH P w) a vs ep/\(a == Eg)=false:=by
 obtain⟨d,hz,b,vs,c,g,es,ep,f,r⟩:=(show cA P w H h a (.frz o (.dK ks)) from ok a _ e)
 rw[d] at f
 cases f
 exact⟨vs,es,ep,c,r.2.1,⟨o,es,d,r⟩,b⟩
def vY(a:Addr)(o:Obj)(ks:List (aD×V)):It:=
 ⟨fun i H=>H a=some (.frz o (.dK ks))/\i < ks.length,
   fun i H x b=>∃ p z,ks[i]? = some z/\H p=none/\x=.ref p/\b=aR H p (.tup [kV z.1,z.2]),
   fun i H=>H a=some (.frz o (.dK ks))/\i=ks.length⟩
theorem zhi{ks:List (aD×V)}{vs:List (aD×Ae)}(r:KV ks vs){i:Nat}{z:aD×V}(h:ks[i]? = some z):∃ x,vs[i]? = some (z.1,x)/\RelV z.2 x:=by
 induction r generalizing i with
 | nil=>cases h
 | @cons p q ps qs a t c=>
  cases i with
  | zero=>cases h;obtain⟨d,b⟩:=q;cases a.1;exact⟨b,rfl,a.2⟩
  | succ i=>rw[Eb] at h ⊢;exact c h
theorem zhj{P:Ay}{w:Bq}{K:Ac}{es:List Expr}{T:Nat}{Z:Pos}(a d:Addr)(o:Obj)(ks:List (aD×V))(en:Array Dw)(ep:Nat)(hd:o.data=.dict en ep)(U:a≠d) :
  kF P w K (.Tuple es T Z) (vY a o ks) [d] d (fun i h=>∃ ok p,IsItemIter h d a i ks.length ep ok p) where
 mem:=by simp
 obj:=fun i h st b Q=>by
  cases (by simpa using Q:b=d)
  obtain⟨ok,p,e⟩:=st
  exact⟨_,e,fun v z=>by cases z⟩
 keep:=fun i h h' st k=>by
  obtain⟨ok,p,e⟩:=st
  exact⟨ok,p,k d (by simp) _ e⟩
 item:=by
  intro X J hw A hc i g s L H E I hf st G
  subst J hw A
  obtain⟨ok,p,r⟩:=st
  obtain⟨D,hi⟩:=G
  obtain⟨vs,C,F,c,l,m,_⟩:=vX I.hok D
  cases hd.symm.trans l
  obtain⟨z,hz⟩:∃ z,ks[i]? = some z:=⟨_,Bp hi⟩
  obtain⟨x,R,O⟩:=zhi c hz
  rw[c.length] at r
  refine wpAny_pyNext_items_item r m R fun key h' t Y M hsz hk=>?_
  refine⟨_,rfl,wpAny_letOwnedTupleGo_items Y fun n N sb=>?_⟩
  have B:H s.heap.objs.size=none:=I.hok.fresh (Aj _)
  have u:d < s.heap.objs.size:=Bc r
  have j:∀ q o,q∉[d]->s.heap.get? q=some o->n.get? q=some o:=fun q o f eq=>by
   have f:q≠d:=by simpa using f
   exact(sb.2 q f).trans (hk q o f eq)
  have y:n.get? s.heap.objs.size=some {cls:=.type "tuple",data:=.seq [key,x].toArray}:=(sb.2 _ (Gq u)).trans M
  have S:Inv X g L (aR H s.heap.objs.size (.tup [kV z.1,z.2])) {s with heap:=n,toks:=s.toks}:=I.laidT (its:=[key,x]) hf j (by show 2<=Ai;decide) (.cons (sZ t) (.cons O .nil)) y
  refine⟨.ref s.heap.objs.size,_,S,rfl,⟨s.heap.objs.size,z,hz,B,rfl,rfl⟩,⟨key,x,by rw[c.length];exact N⟩,fun q f=>?_⟩
  rw[bE]
  ·exact(hf q f).1
  ·cases (by simpa using f:q=d);exact Bj u
 done:=by
  intro X J hw A hc i g s L H E I hf st G
  subst J hw A
  obtain⟨ok,p,r⟩:=st
  obtain⟨D,rfl⟩:=G
  obtain⟨vs,C,F,c,l,m,_⟩:=vX I.hok D
  cases hd.symm.trans l
  rw[c.length] at r
  refine wpAny_pyNext_items_end (I.ok.hd hc) r m (by simp) fun h' hk=>⟨rfl,?_⟩
  exact I.turnedT (tk:=s.toks) hf fun q o f eq=>hk q o (fun z=>f (by simp[z])) eq
 self:=fun _ _ _ _ _ st h=>by
  obtain⟨ok,p,e⟩:=st
  exact PySem.W.kcp_self e h
abbrev rItems:V->List V->Hp->VK->Prop:=fun x vs H Q=>∃ a o ks,x=.ref a/\vs=[]/\H a=some (.frz o (.dK ks))/\∀ p,H p=none->Q (.ref p) (aR H p (.ext fun h=>h.IsItemsView p a))
theorem zhk:fD X "dict.items" rItems:=by
 rintro d s l H x vs v us Q I i rs ⟨a,o,ks,rfl,rfl,e,q⟩
 cases (show v=Value.ref a from i)
 cases rs
 obtain⟨vs,es,ep,g,hd,b,c⟩:=vX I.hok e
 refine Hb PySem.F.slot_dict_items b.dictOf.typeIs PySem.F.entry_dict_items (PySem.F.args_dict_items_1 _) (meets_dict_items (bH X.prog X.w) a c) ⟨⟨vs,b.dictOf⟩,?_⟩
 have hf:=I.hok.fresh (Aj s.heap.objs.size)
 exact⟨.ref s.heap.objs.size,_,I.laid (a:=s.heap.objs.size) (o:=.ext fun h=>h.IsItemsView s.heap.objs.size a) (t':=s.toks) (fun _ _ z=>Ag _ z) (Aj _) ⟨⟨_,Ar _ rfl,rfl,rfl⟩,⟨_,Ar _ rfl⟩,fun m k ⟨o,j,r⟩ f=>⟨o,f o j,r⟩⟩,rfl,q _ hf⟩
end
end L2
namespace L3
open PySem PySem.Spec PyProof.Rows L2
section
variable {X:Cx}
def OJ(c:aW):h8:=fun a M R=>c a M fun d b=>∃ kvs,d=.fk kvs/\R (kvs.map fun p=>.tup [wK p.1,p.2]) (fun _=>True) b
theorem zhl{K:Ac}{b:Hp}{c:Mm}{a:Addr}{o:Obj}{ks:List (aD×V)}{kvs:List (aD×W)}(d:AM K b c)(e:b a=some (.frz o (.dK ks)))(l:bK K b c aD ks kvs):i7 K b c (vY a o ks) (kvs.map fun p=>.tup [wK p.1,p.2]) fun _=>True:=by
 have st:∀ H M,Kp b c H M->H a=some (.frz o (.dK ks)):=fun H M k=>(k.fr _ _ (d.noFrz e) e).1
 have hl:=Cu l
 refine⟨fun i H M k f _ hi=>⟨st H M k,by rw[Ab] at hi;lia⟩,fun H M k f _=>⟨st H M k,by rw[Ab];lia⟩,fun i H M x A k f _ hi y=>?_⟩
 obtain⟨B,z,hz,j,rfl,rfl⟩:=y
 obtain⟨y,s,w,av⟩:∃ y,kvs[i]? = some y/\z.1=y.1/\AV K b c z.2 y.2:=by
  have:∀ {ks:List (aD×V)} {kvs:List (aD×W)} {i:Nat},bK K b c aD ks kvs->ks[i]? = some z->∃ y,kvs[i]? = some y/\z.1=y.1/\AV K b c z.2 y.2:=by
   intro ks kvs i r
   induction r generalizing i with
   | nil=>intro h;cases h
   | @cons p q ps qs n t v=>
    intro h
    cases i with
    | zero=>cases h;exact⟨q,rfl,n⟩
    | succ i=>rw[Eb] at h ⊢;exact v h
  exact this l hz
 obtain⟨g,m⟩:=f.tup (u:=.tup [kV z.1,z.2]) j
 exact⟨.tup [wK y.1,y.2],by rw[Aw,s];rfl,m,g,.tup cM (.cons (by rw[w];exact MW _) (.cons ((av.kp d k).go (go_same j)) .nil))⟩
theorem zhm{o:Expr}{L:aW}{es:List Expr}{Y:Nat}{S g f:Pos}(U:E3 X o L)(j:Ez o "items" X.env (eval o X.env)=eval o X.env:=by rfl)(i:(g.endLine == f.line)=true:=by rfl) :
  PI X (.Tuple es Y S) (.Call (.Attribute o "items" g) [] [] f) (gH X.K (OJ L)):=by
 intro m s O H R' I ⟨N,M,R,as,am,h,k⟩
 refine a6 (GD Hk PySem.F.slot_dict_items PySem.F.type_dict_items zhk U j i m s O H (fun x l=>∃ p a o ks,x=.ref p/\l p=some (.ext fun h=>h.IsItemsView p a)/\l a=some (.frz o (.dK ks))/\R' (vY a o ks) l) I ⟨N,M,_,as,am,h,fun d W wd M1 T E Z ⟨kvs,V,r⟩=>?_⟩) fun v c ⟨x,l,t,Q,p,a,o,ks,ex,ep,ea,q⟩=>?_
 ·subst V
  cases Z with
  | @fk a C ks _ e ke q=>
   refine⟨.inr (.inr (.inl ⟨rfl,.inl ⟨_,.inr ⟨_,e⟩⟩⟩)),a,C,ks,rfl,rfl,e,fun p A=>?_⟩
   obtain⟨n,k2⟩:=E.tup (u:=.ext fun h=>h.IsItemsView p a) A
   have J:aR W p (.ext fun h=>h.IsItemsView p a) a=some (.frz C (.dK ks)):=(bE (eT e A)).trans e
   exact⟨p,a,C,ks,rfl,cM,J,k _ _ _ _ _ (T.trans k2) n (zhl n J (nK ke (q.newT A))) r⟩
 ·subst ex
  cases (show v=Value.ref p from Q)
  have hv:c.heap.IsItemsView p a:=(show cA X.prog X.w l c.heap p (.ext fun h=>h.IsItemsView p a) from t.hok p _ ep).1
  obtain⟨vs,D,G,B,hd,z,_⟩:=vX t.hok ea
  have y:c.heap.objs.size<=c.heap.objs.size:=Aj _
  refine wpAny_pyIter_items hv z ⟨c.heap.objs.size,[c.heap.objs.size],_,vY a o ks,l,rfl,t.kept (t':=c.toks) fun b o e=>Ag _ e,zhj a _ o ks D G hd (Bj z.lt_size),⟨.none,.none,by rw[B.length];exact Ar _ rfl⟩,fun b P=>?_,q⟩
  cases (by simpa using P:b=c.heap.objs.size)
  exact t.fpOk y (t.hok.fresh y)
end
end L3
namespace L2
open PySem PySem.Spec PyProof.Rows
section
variable {X:Cx}
theorem zhn:a8 X (Dl .Add) (fun x y H Q=>∃ a b xs,x=.ref a/\y=.ref b/\bV X.K H a []/\bV X.K H b xs/\Q (.ref b) H):=by
 rintro j s B H x y v u Q I r z ⟨a,b,xs,rfl,rfl,t,o,q⟩
 cases (show v=Value.ref a from r)
 cases (show u=Value.ref b from z)
 obtain⟨its,m,⟨⟨cls,A,data,sl⟩,l,hc,n,hd⟩,_⟩:=I.tuple t
 obtain⟨e,p,⟨⟨k,i,g,h⟩,f,c,w,d⟩,_⟩:=I.tuple o
 cases m
 simp only at hc hd c d
 subst hc hd c d
 exact concat_meets ⟨_,l,rfl⟩ ⟨_,f,rfl⟩ noFill_tuple_add seq_tuple_add La Kv (Kk _ _) (tuple_addW0 a b _ e.toArray n w A i sl h rfl) ⟨l,f,.ref b,H,I,rfl,q⟩
theorem zho:qB X "list.pop" (fun x vs H Q=>∃ l y ys,x=.ref l/\vs=[.int 0]/\H l=some (.lst (y :: ys))/\Q y (aR H l (.lst ys))):=by
 intro b s k H x vs v us Q I i d h
 obtain⟨l,y,ys,rfl,rfl,c,q⟩:=h
 cases i
 obtain⟨m,rfl,f,j⟩:=vals1 d
 subst j
 obtain⟨z,its,n,r,hl,e⟩:=I.lstM c
 cases r with
 | @cons _ u _ a g r=>
  refine Jf Ka ⟨_,e,rfl⟩ F.entry_list_pop (F.args_list_pop_2 _ _) (MeetsSeq.list_pop_at l _ n 0 f 0 u (by decide) (by simp[seqIndex?]) rfl (by rw[Az];lia)) ⟨e,?_⟩
  refine⟨y,_,I.lset (its':=a) c e ?_ r ?_,g,q⟩
  ·rw[List.eraseIdxIfInBounds_toArray];rfl
  ·exact Bs (Nat.le_succ _) z
def OL(K:Ac)(a:Addr)(xs:List V):It:=
 ⟨fun i H=>bV K H a xs/\i < xs.length,fun i H x b=>b=H/\xs.reverse[i]? = some x,fun i H=>bV K H a xs/\i=xs.length⟩
theorem zhp{P:Ay}{w:Bq}{K:Ac}{C:Expr}(a d:Addr)(xs:List V)(D:a≠d):kF P w K C (OL K a xs) [d] d (fun i h=>Rv.IsRv h d a ((xs.length:Int) - 1 - (i:Int))) where
 mem:=by simp
 obj:=fun i h st b f=>by
  cases (by simpa using f:b=d)
  exact⟨_,st,fun v z=>by cases z⟩
 keep:=fun i h h' st k=>k d (by simp) _ st
 item:=by
  intro X n hw m hc i c s t H E I hf st j
  subst n hw m
  obtain⟨g,hi⟩:=j
  obtain⟨its,r,p,hz⟩:=I.tuple g
  have hl:=r.length
  have M:xs.reverse[i]? = some xs[xs.length - 1 - i]:=by rw[List.getElem?_reverse hi];exact Bp (by lia)
  obtain⟨u,F,B⟩:=r.get (Bp (l:=xs) (i:=xs.length - 1 - i) (by lia))
  obtain⟨y,J,O,A,N,G⟩:=hf d (by simp)
  rw[show(xs.length:Int) - 1 - (i:Int)=((xs.length - 1 - i:Nat):Int) by lia] at st
  refine Rv.next_item st p (x:=u) (by simpa using F) (by have:=lG;lia) fun h' tk st' sb=>?_
  have L:Inv X c t H {s with heap:=h',toks:=tk}:=I.turned (t':=tk) (fun b o f e=>(sb.2 b f).trans e) y J A N G
  refine⟨u,rfl,p5 (s:={s with heap:=h',toks:=tk}) st' rfl rfl (by decide) ⟨_,H,L,B,⟨rfl,M⟩,?_,fun b f=>(hf b f).1⟩⟩
  rw[show(xs.length:Int) - 1 - ((i + 1:Nat):Int)=((xs.length - 1 - i:Nat):Int) - 1 by lia]
  exact st'
 done:=by
  intro X n hw m hc i c s t H E I hf st j
  subst n hw m
  obtain⟨g,rfl⟩:=j
  rw[show(xs.length:Int) - 1 - (xs.length:Int) = -1 by lia] at st
  refine Rv.next_end (I.ok.hd hc) st fun h' hk=>⟨rfl,?_⟩
  exact I.turnedT (tk:=s.toks) hf fun q o g eq=>hk q o (fun z=>g (by simp[z])) eq
 self:=fun _ _ _ _ _ st h=>Rv.iter_self st h
theorem zhq{a:Expr}{ta:TA}{z:Expr}{p pos:Pos}(v:Gl X "reversed")(y:X.mg "reversed" = none)(l:PA X [a] ta)(m:Bl [a] X.env=[(false,eval a X.env)]:=by rfl) :
  PI X z (.Call (.Name "reversed" p) [a] [] pos) (fun j H R=>ta j H fun vs g=>∃ a xs,vs=[.ref a]/\bV X.K g a xs/\R (OL X.K a xs) g):=by
 intro d s j H R I h
 refine Call_ (mG I v y YG (El (a6 (l pos d s j H _ I h) fun us c ⟨vs,g,f,t,x⟩=>?_) m rfl))
 obtain⟨a,xs,rfl,i,q⟩:=x
 obtain⟨u,rfl,w⟩:=vals1 t
 cases w
 obtain⟨its,k,pl,hz⟩:=f.tuple i
 have hl:=k.length
 have n:a < c.heap.objs.size:=by obtain⟨o,e,_⟩:=pl;exact Bc e
 refine Rv.call_rev pl (by rw[Az,<-hl];exact hz) fun tk=>?_
 have st:Rv.IsRv (c.heap.push (Rv.rvObj a ((its.toArray.size:Int) - 1))) c.heap.objs.size a ((its.toArray.size:Int) - 1):=Ar _ rfl
 refine Rv.iter_self st ⟨c.heap.objs.size,[c.heap.objs.size],_,_,g,rfl,f.kept (t':=tk) (fun b o e=>Ag _ e),zhp a _ xs (Bj n),?_,fun b r=>?_,q⟩
 ·rw[Az,<-hl] at st
  show Rv.IsRv _ _ _ ((xs.length:Int) - 1 - ((0:Nat):Int))
  rw[show(xs.length:Int) - 1 - ((0:Nat):Int)=(xs.length:Int) - 1 by lia,show(its.toArray.size:Int)=(xs.length:Int) by rw[Az,hl]]
  exact st
 ·cases (by simpa using r:b=c.heap.objs.size)
  exact f.fpOk (Aj _) (f.hok.fresh (Aj _))
end
end L2
namespace L3
open PySem PySem.Spec PyProof.Rows L2
section
variable {X:Cx}{a b:Expr}{ta tb:aW}{pos:Pos}
def B1:R3:=fun x y M R=>∃ xs ys,x=.tup xs/\y=.tup ys/\xs.length + ys.length<=Ai/\R (.tup (xs ++ ys)) M
theorem zhr:a8 X (Dl .Add) (cB X.K B1):=by
 rintro a s c H x y v u Q I d f ⟨t,A,M,R,i,g,b,⟨xs,ys,rfl,rfl,hl,r⟩,k⟩
 by_cases h:xs=[]
 ·subst h
  refine g.tupE fun j z l n m=>b.tupE fun p q e o w=>?_
  cases m.nil_
  exact zhn a s c H x y v u Q I d f ⟨j,p,q,l,e,bV.of n,bV.of o,by rw[<-e];exact k.at i b r⟩
 ·exact eQ a s c H x y v u Q I d f ⟨.tup xs,.tup ys,M,R,i,g,b,⟨h,hl,r⟩,k⟩
def OM:W->List W->Mm->K3->Prop:=fun x vs M R=>∃ l y ys,x=.ref l/\vs=[.int 0]/\M l=some (.lst (y :: ys))/\R y (put M l (.lst ys))
theorem zhs:fD X "list.pop" (jI X.K OM):=by
 rintro a s j H x xs v us Q I p rs ⟨w,ws,M,R,c,n,d,⟨l,y,ys,rfl,rfl,e,r⟩,k⟩
 obtain⟨vs,f,q⟩:=c.lst e
 cases q with
 | @cons h b _ _ av q=>
  obtain⟨z,t,m⟩:=d.one
  obtain⟨g,i⟩:=c.write (o:=.lst ys) (u:=.lst b) e ⟨_,cM,q.wr c e⟩
  exact zho a s j H x xs v us Q I p rs ⟨l,h,b,n.inv,by rw[t,m.inv],f,k _ _ _ _ i g (av.wr c e) r⟩
def B2(ta:dZ):h8:=fun b M R=>ta b M fun ws c=>∃ a,ws=[.tup a]/\R a.reverse (fun _=>True) c
theorem zht{g:dZ}{l:Expr}{p pos:Pos}(q:Gl X "reversed")(s:X.mg "reversed" = none)(n:A3 X [a] g)(o:Bl [a] X.env=[(false,eval a X.env)]:=by rfl):PI X l (.Call (.Name "reversed" p) [a] [] pos) (gH X.K (B2 g)):=
 (zhq q s n o).weak fun E H I u=>u.el fun D M R C d h k=>⟨D,M,_,C,d,h,fun vs t ws B j c z ⟨F,m,r⟩=>by
  subst m
  obtain⟨v,rfl,av⟩:=z.one
  exact av.tupE fun b xs A f e=>⟨b,xs,by rw[A],bV.of f,k _ _ _ _ _ j c (by
   have st:∀ H M,Kp t B H M->bV X.K H b xs:=fun H M k=>bV.of (k.fr _ _ (c.noTup f) f).1
   refine⟨fun i H M k d kp hi=>⟨st H M k,by rw[Jw] at hi;rw[e.length];exact hi⟩,fun H M k d kp=>⟨st H M k,by rw[Jw,e.length]⟩,fun i H M x G k d kp hi y=>?_⟩
   obtain⟨rfl,y⟩:=y
   obtain⟨w,hw,av⟩:=((e.kp c k).reverse).getV y
   exact⟨w,hw,Kp.refl d,d,av⟩) r⟩⟩
def ON(ta tb:aW):aW:=fun b M R=>∀ p,M p=none->ta b (put M p (.dK [])) fun x c=>tb b c fun y a=>a p=some (.dK [])/\∃ k:aD,x=wK k/\R (.ref p) (put a p (.dK [(k,y)]))
theorem zhu(B:E3 X a ta)(z:E3 X b tb):E3 X (.Dict [some a] [b] pos) (ON ta tb):=
 (WU (WS B z WR) rfl rfl (by simp) (by simp)).weak fun J H Q E=>E.el fun w M R v i h k=>fun p s=>by
  obtain⟨g,m⟩:=i.laid (o:=.dK []) (u:=.dK []) s ⟨[],cM,.nil⟩
  refine⟨w,_,_,v.kp i m,g,h p (i.nonM s),fun x O L G n d F C=>⟨w,G,_,(v.kp i m).kp g n,d,C,fun y N I K t c A ⟨e,l,ex,r⟩=>?_⟩⟩
  subst ex
  obtain⟨ks,f,q⟩:=c _ _ e
  cases q
  obtain⟨j,D⟩:=c.write (o:=.dK [(l,I)]) (u:=.dK [(l,y)]) e ⟨_,cM,.cons ⟨rfl,A.wr c e⟩ .nil⟩
  exact⟨f,[(l,y)],by rw[(F.kp d t).key];rfl,by simp,k _ _ _ _ (((m.trans n).trans t).trans D) j (.ref _) r⟩
end
end L3
namespace Rg
open PySem PySem.Spec PyProof.Rows L2 L3
def fM(c:CT):List (aD×W):=c.map fun e=>(Sum.inr e.1,W.tup (e.2.map W.int))
def vZ:bL:=fun ws M R=>∃ (rs:List aG) (X:Str),ws=[cE rs,.str X]/\rs.length<=100/\aV ((numsOf rs X).map fun(n:Nat)=>W.int n) M R
def B3:bL:=fun ws M R=>∃ rs:List aG,ws=[cE rs]/\eE rs/\R .non M
def v3:bL:=fun ws M R=>∃ (rs:List aG) (r:aG),ws=[.dk (ownOf rs),aX r]/\R (.bl (sglB rs r)) M
def B4:bL:=fun ws M R=>∃ (rs:List aG) (X:Str),ws=[cE rs,.dk (ownOf rs),.str X]/\eE rs/\X∈namesOf rs/\nM (fM (fV rs X)) M R
def B5:bL:=fun ws M R=>∃ (c:List Int) (n:Nat) (ps:List Str),ws=[.tup (c.map W.int),.int n,.tup (ps.map W.str)]/\ps.length<=1000/\R (oE c n ps) M
def B6(P:Ay)(w:Bq)(C:Cc):bL:=fun ws M R=>∃ (a d dx:Addr) (l:List (NP×W)) (rs:List aG) (X:Str) (kvs:List (aD×W)),ws=[.ref a,cE rs,.str X,.dk kvs]/\oG P w C.f M a d dx l/\eE rs/\Bd rs l/\X∈namesOf rs/\(∀ t:Str,aY kvs (Sum.inr t:aD)=(vB rs t).map W.int)/\R .non (put M d (.dn P w [0] (kvsOf (pW rs l X))))
def B7(l:List (NP×W))(M:Mm)(R:K3):Prop:=∀ p q,M p=none->M q=none->p≠q->R (.tup [.ref p,.ref q]) (put (put M p (.lst ((l.map fun z=>iN z.1).map aX))) q (.lst (l.map fun z=>z.2)))
def B8:bL:=fun ws M R=>∃ rs:List aG,ws=[cE rs]/\rs≠[]/\B7 (NN rs) M R
def v5:bL:=fun ws M R=>∃ rs:List aG,ws=[cE rs]/\eE rs/\B7 (iT rs) M R
def B9:bL:=fun ws M R=>∃ a:List W,ws=[.sc a]/\nV a/\a.length<=63/\∀ rs:List aG,eE rs->aV (rs.map aX) M R
abbrev zhv:List Str:=["grammar","name"]
def zhw:aH:=
   (bR (eL (JR (aB (aA 0) aF)) (i6 2 (dX (bC 0) (dX (bC 1) i5))) (bM (aE (rEq false) (aE aO (aA 1) (vC (.int 0))) (aA 2))) (aA 0) [none,none,some 1]))
abbrev zhx:List Str:=["grammar","name","plain"]
def zhy(P:Ay)(w:Bq)(C:Cc):aH:=
   (a9 1 (bJ qZ (aB (aA 0) aF)))
def zhz(P:Ay)(w:Bq)(C:Cc):aH:=
   (a9 2 (pL C.f (vN P w C.f) aF))
def zhA(P:Ay)(w:Bq)(C:Cc):aH:=
   (cX (fR C.f "put_rule" (vO P w C.f) (aA 2) (aB (aA 1) (aB (bO (aB (aA 1) (aB (aA 1) aF))) (aB (bO (aB (bO (aB (vC (.int 0)) (aB (bO (aB (vC (.int 0)) (aB (vC (.int 1)) aF))) aF))) aF)) aF)))))
def zhB(P:Ay)(w:Bq)(C:Cc):aH:=
   (bR (fR C.f "grammar_and_backs" (vP P w C.f) (aA 2) aF))
def zhC(P:Ay)(w:Bq)(C:Cc):aH:=(aN (zhy P w C) (aN (zhz P w C) (aN (zhA P w C) (zhB P w C))))
abbrev zhD:List Str:=["grammar","first","is_part","rule"]
def OO:aH:=
   (a9 1 (bJ qZ (aB (aA 0) aF)))
def OP:aH:=
   (a9 2 (bN JO (aB (cF (eL (cC cJ (aA 0)) (bC 0) gJ (aE (rIn false) (aA 1) (aE aO (aA 0) (vC (.int 1)))) [none,some 1])) aF)))
def OQ:aH:=
   (cG (iH (bM (aE (rEq false) (aE aO (aA 3) (vC (.int 1))) (bO aF))) (hJ (bM (aE (rEq true) (aE aO (aA 3) (vC (.int 0))) (aA 1))) (eV (aA 2))))
    qU
    c7)
def OR:aH:=
   (d4 (cC cJ (aA 0)) (bC 3) OQ)
def CA:aH:=(aN OO (aN OP OR))
abbrev zhE:List Str:=["own","rule"]
def CB:aH:=
   (bR (nN (aE (rEq false) (bN cV (aB (aE aO (aA 1) (vC (.int 1))) aF)) (vC (.int 1))) (aE (rIn false) (aE aO (aE aO (aA 1) (vC (.int 1))) (vC (.int 0))) (aA 0))))
abbrev zhF:List Str:=["grammar","own","name","chains","waiting","here","number","part"]
def zhG:aH:=
   (a9 3 (ON (aA 2) (bO aF)))
def zhH:aH:=
   (a9 4 (iZ (aB (aA 2) aF)))
def zhI:aH:=
   (aN (a9 5 (dR "list" OM (aA 4) (aB (vC (.int 0)) aF)))
   (d4 (cC cJ (cF (bJ vZ (aB (aA 0) (aB (aA 5) aF))))) (bC 6)
    (aN (a9 7 (xK (eV (bJ v3 (aB (aA 1) (aB (aE aO (aA 0) (aA 6)) aF)))) (aE aO (aE aO (aE aO (aA 0) (aA 6)) (vC (.int 1))) (vC (.int 0))) (aA 5)))
   (cG (bM (aE (rIn true) (aA 7) (aA 3)))
    (aN (hW (aE B1 (aE aO (aA 3) (aA 5)) (bO (aB (aA 6) aF))) (j6 (aA 3) (aA 7)))
   (cX (dR "list" fE (aA 4) (aB (aA 7) aF))))
    c7))))
def zhJ:aH:=
   (tQ (eV (aA 4)) zhI)
def zhK:aH:=
   (bR (aA 3))
def zhL:aH:=(aN zhG (aN zhH (aN zhJ zhK)))
abbrev zhM:List Str:=["chain","number","parts","pieces","single"]
def OS:aH:=
   (a9 3 (bO (aB (bO (aB (aA 1) (aB (bJ BD (aB (aA 2) aF)) aF))) aF)))
def OT:aH:=
   (a9 3 (bO (aB (bO (aB (aA 4) (aB (aA 3) aF))) aF)))
def OU:aH:=
   (d4 (B2 (aB (aA 0) aF)) (bC 4) OT)
def OV:aH:=
   (bR (aA 3))
def CC:aH:=(aN OS (aN OU OV))
abbrev zhN:List Str:=["plain","grammar","name","fruitful","own","here","chain","number","parts","is_fruitful"]
def zhO(P:Ay)(w:Bq)(C:Cc):aH:=
   (a9 4 (bJ rW (aB (cF (bJ nW (aB (aA 1) aF))) aF)))
def OW(P:Ay)(w:Bq)(C:Cc):aH:=
   (d4 (cC cJ (cF (bJ vZ (aB (aA 1) (aB (aA 5) aF))))) (bC 7)
    (aN (a9 8 (aE aO (aE aO (aA 1) (aA 7)) (vC (.int 1))))
   (aN (a9 9 (bN xV (aB (cF (eL (cC cJ (aA 8)) (bC 0) gJ (tE (aE (rIn false) (aA 0) (aA 1)) (aE (rIn true) (aA 0) (aA 2))) [none,some 3,some 4])) aF)))
   (cG (iH (eV (aA 9)) (iI (eV (bJ v3 (aB (aA 4) (aB (aE aO (aA 1) (aA 7)) aF))))))
    (cX (fR C.f "put_rule" (vO P w C.f) (aA 0) (aB (aA 2) (aB (aA 8) (aB (bJ B5 (aB (aA 6) (aB (aA 7) (aB (aA 8) aF)))) aF)))))
    c7))))
def zhP(P:Ay)(w:Bq)(C:Cc):aH:=
   (d4 (OJ (u7 (bJ B4 (aB (aA 1) (aB (aA 4) (aB (aA 2) aF)))))) (i6 2 (dX (bC 5) (dX (bC 6) i5))) (OW P w C))
def zhQ(P:Ay)(w:Bq)(C:Cc):aH:=(aN (zhO P w C) (zhP P w C))
abbrev zhR:List Str:=["grammar","fruitful","plain","name"]
def zhS(P:Ay)(w:Bq)(C:Cc):aH:=
   (cX (bJ B3 (aB (aA 0) aF)))
def zhT(P:Ay)(w:Bq)(C:Cc):aH:=
   (a9 1 (cF (bJ BS (aB (aA 0) aF))))
def zhU(P:Ay)(w:Bq)(C:Cc):aH:=
   (cG (bM (aE (rIn true) (bJ qZ (aB (aA 0) aF)) (aA 1)))
    (bR (bJ B8 (aB (aA 0) aF)))
    c7)
def zhV(P:Ay)(w:Bq)(C:Cc):aH:=
   (a9 2 (pL C.f (vN P w C.f) aF))
def zhW(P:Ay)(w:Bq)(C:Cc):aH:=
   (cX (bJ (B6 P w C) (aB (aA 2) (aB (aA 0) (aB (aA 3) (aB (aA 1) aF))))))
def zhX(P:Ay)(w:Bq)(C:Cc):aH:=
   (d4 (cC cJ (cF (bJ nW (aB (aA 0) aF)))) (bC 3) (zhW P w C))
def zhY(P:Ay)(w:Bq)(C:Cc):aH:=
   (bR (fR C.f "grammar_and_backs" (vP P w C.f) (aA 2) aF))
def zhZ(P:Ay)(w:Bq)(C:Cc):aH:=(aN (zhS P w C) (aN (zhT P w C) (aN (zhU P w C) (aN (zhV P w C) (aN (zhX P w C) (zhY P w C))))))
abbrev zh0:List Str:=["script","rules","way","old","name","parts","cost","within"]
def OX:aH:=
   (a9 1 (iZ aF))
def OY:aH:=
   (a9 2 (cF (bJ pH (aB (bJ rA (aB (aA 0) (aB (vC (.int 14)) aF))) (aB (gA (aB (vC (.int 3)) (aB (vC (.int 3)) aF))) aF)))))
def OZ:aH:=
   (a9 3 (cF (bJ yV (aB (qV (aA 0) (nT (vC (.int 1))) (nT (vC (.int 14)))) (aB (aE dS (vC (.int 1)) (aE aO (cF (bJ pH (aB (bJ rA (aB (aA 0) (aB (vC (.int 0)) aF))) (aB (gA (aB (vC (.int 4)) aF)) aF)))) (vC (.int 0)))) (aB (vC (.int 4)) aF))))))
def O0:aH:=
   (aN (cG (bM (aE (rEq false) (aA 5) (bO aF)))
    (a9 5 (aE aO (gA (aB (bO (aB (aE aO (aE aO (aA 3) (vC (.int 0))) (vC (.int 0))) aF)) (aB (bO (aB (aE aO (aE aO (aA 3) (j0 j4 (vC (.int 1)))) (vC (.int 0))) aF)) (aB (bO (aB (vC (.str "zoe")) aF)) aF)))) (aE aO (aA 2) (vC (.int 0)))))
    c7)
   (cX (dR "list" fE (aA 1) (aB (bO (aB (aA 4) (aB (aA 5) (aB (aA 6) aF)))) aF))))
def O1:aH:=
   (d4 (cC jO (aA 3)) (i6 3 (dX (bC 4) (dX (bC 5) (dX (bC 6) i5)))) O0)
def O2:aH:=
   (a9 7 (cF (eL (cC cJ (aA 1)) (bC 0) (bM (aE (rIn false) (aE aO (aE aO (aA 1) (vC (.int 0))) (vC (.int 0))) (aE aO (aA 0) (vC (.int 1))))) (aA 0) [none,some 1])))
def O3:aH:=
   (cG (iH (bM (aE (rEq false) (aE aO (aA 2) (vC (.int 1))) (vC (.int 0)))) (bM (aE (rEq false) (aA 7) (gA aF))))
    (cX (dR "list" fE (aA 1) (aB (bO (aB (aE aO (aE aO (aA 1) (vC (.int 0))) (vC (.int 0))) (aB (bO aF) (aB (vC (.int 7)) aF)))) aF)))
    c7)
def O4:aH:=
   (bR (aA 1))
def CD:aH:=(aN OX (aN OY (aN OZ (aN O1 (aN O2 (aN O3 O4))))))
abbrev zh1:List Str:=["script","rules","grammar","found","told","backs","empty","name","parts","cost","held","again"]
def O5:aH:=
   (a9 1 (cF (bJ B9 (aB (aA 0) aF))))
def O6:aH:=
   (a9 2 (cF (bJ vM (aB (bN lW (aB (aA 1) aF)) aF))))
def O7:aH:=
   (a9 3 (bJ v5 (aB (aA 2) aF)))
def O8:aH:=
   (cG (hJ (iI (eV (bN cH (aB (aA 3) (aB (vC (.ty "tuple")) aF))))) (hJ (bM (aE (rEq true) (bN cV (aB (aA 3) aF)) (vC (.int 2)))) (bM (aE (rEq true) (aA 2) (aA 1)))))
    (bR (vC (.bl false)))
    c7)
def O9:aH:=
   (hW (aA 3) (i6 2 (dX (bC 4) (dX (bC 5) i5))))
def PB:aH:=
   (cG (hJ (iI (eV (bN cH (aB (aA 4) (aB (vC (.ty "list")) aF))))) (iI (eV (bN cH (aB (aA 5) (aB (vC (.ty "list")) aF))))))
    (bR (vC (.bl false)))
    c7)
def PC:aH:=
   (cG (hJ (bM (aE (rEq false) (aA 4) (gA aF))) (bM (aE (rEq true) (bN cV (aB (aA 4) aF)) (bN cV (aB (aA 5) aF)))))
    (bR (vC (.bl false)))
    c7)
def PD:aH:=
   (cG (hJ (iI (eV (bJ BE (aB (aA 4) aF)))) (iI (eV (bJ BF (aB (aA 1) (aB (aA 4) aF))))))
    (bR (vC (.bl false)))
    c7)
def PF:aH:=
   (cG (iH (bM (aE (rEq true) (aE aO (aE aO (aA 4) (vC (.int 0))) (vC (.int 0))) (aE aO (aE aO (aA 1) (vC (.int 0))) (vC (.int 0))))) (bM (aE (rIn false) (aE aO (aE aO (aA 4) (vC (.int 0))) (vC (.int 0))) (cF (eL (cC cJ (aA 1)) (bC 0) gJ (aE aO (aA 0) (vC (.int 0))) [none])))))
    (bR (vC (.bl false)))
    c7)
def PH:aH:=
   (a9 6 (aE (rEq true) (cF (eL (cC cJ (aA 1)) (bC 0) (bM (aE (rEq false) (aE aO (aA 0) (vC (.int 1))) (bO aF))) (aA 0) [none])) (gA aF)))
def PJ:aH:=
   (aN (cG (iH (bM (aE (rEq false) (bN cV (aB (aA 8) aF)) (vC (.int 1)))) (eV (bJ vQ (aB (aE aO (aA 8) (vC (.int 0))) aF))))
    (bR (vC (.bl false)))
    c7)
   (cG (iH (bM (aE (rEq false) (aA 8) (bO aF))) (hJ (bM (aE (rEq true) (aA 7) (aE aO (aE aO (aA 4) (vC (.int 0))) (vC (.int 0))))) (iI (eV (aA 6)))))
    (bR (vC (.bl false)))
    c7))
def PK:aH:=
   (d4 (cC jO (aA 4)) (i6 3 (dX (bC 7) (dX (bC 8) (dX (bC 9) i5)))) PJ)
def PL:aH:=
   (a9 10 (bN lW (aB (aA 4) aF)))
def PM:aH:=
   (cX (nO "list" BX (aA 4)))
def PQ:aH:=
   (cX (nO "list" BX (aA 5)))
def PR:aH:=
   (a9 11 (bJ v5 (aB (aA 2) aF)))
def PU:aH:=
   (bR (nN (aE (rEq false) (aE aO (aA 11) (vC (.int 0))) (aA 10)) (nN (aE (rEq false) (bN cV (aB (aE aO (aA 11) (vC (.int 1))) aF)) (bN cV (aB (aA 10) aF))) (aE (rEq false) (cF (bJ vM (aB (bN lW (aB (aA 10) aF)) aF))) (aA 10)))))
def CF:aH:=(aN O5 (aN O6 (aN O7 (aN O8 (aN O9 (aN PB (aN PC (aN PD (aN PF (aN PH (aN PK (aN PL (aN PM (aN PQ (aN PR PU)))))))))))))))
theorem zh2:∀ ws M R,vZ ws M R->ws.length=2:=by rintro ws M R ⟨_,_,rfl,_⟩;rfl
theorem zh3:∀ ws M R,B3 ws M R->ws.length=1:=by rintro ws M R ⟨_,rfl,_⟩;rfl
theorem zh4:∀ ws M R,v3 ws M R->ws.length=2:=by rintro ws M R ⟨_,_,rfl,_⟩;rfl
theorem zh5:∀ ws M R,B4 ws M R->ws.length=3:=by rintro ws M R ⟨_,_,rfl,_⟩;rfl
theorem zh6:∀ ws M R,B5 ws M R->ws.length=3:=by rintro ws M R ⟨_,_,_,rfl,_⟩;rfl
theorem zh7{P:Ay}{w:Bq}{C:Cc}:∀ ws M R,B6 P w C ws M R->ws.length=4:=by rintro ws M R ⟨_,_,_,_,_,_,_,rfl,_⟩;rfl
theorem zh8:∀ ws M R,B8 ws M R->ws.length=1:=by rintro ws M R ⟨_,rfl,_⟩;rfl
theorem zh9:∀ ws M R,v5 ws M R->ws.length=1:=by rintro ws M R ⟨_,rfl,_⟩;rfl
theorem zia:∀ ws M R,B9 ws M R->ws.length=1:=by rintro ws M R ⟨_,rfl,_⟩;rfl
theorem eE.rpl{rs:List aG}(g:eE rs):r9 rs:=fun r hr=>⟨(g.hd r hr).1.asc,fun t ht=>by
 rcases g.txt r hr t ht with z | ⟨q,a,rfl⟩
 ·exact z.sh
 ·exact(g.hd q a).1.sh⟩
def v7(X:Str):W->Option W
 | .tup [.int i,.tup (.str n :: _)]=>if n=X then some (.int i) else none
 | _=>none
theorem CG(rs:List aG):∀ n:Nat,jQ n (rs.map aX)=(rs.zipIdx n).map fun x=>W.tup [.int (x.2:Int),aX x.1]:=by
 induction rs with
 | nil=>intro n;rfl
 | cons r rs a=>intro n;rw[Au,List.zipIdx_cons,Au,<-a];rfl
theorem zib{F:W->Option W}{ws:List W}{os:List (Option W)}(h:Fm (fun w o=>o=F w) ws os):os.filterMap id=ws.filterMap F:=by
 induction h with
 | nil=>rfl
 | cons a _ b=>rw[a,Fo,Fo,b];rfl
theorem zic(rs:List aG)(X:Str):(jQ 0 (rs.map aX)).filterMap (v7 X)=(numsOf rs X).map fun(n:Nat)=>W.int n:=by
 unfold numsOf
 rw[CG,List.filterMap_map,Bx]
 generalize rs.zipIdx=l
 induction l with
 | nil=>rfl
 | cons x l a=>
  rw[Fo,Fg,a]
  have e:(v7 X ∘ fun x:aG×Nat=>W.tup [.int (x.2:Int),aX x.1]) x=if x.1.name=X then some (.int x.2) else none:=rfl
  rw[e]
  by_cases h:x.1.name=X
  ·rw[if_pos h,if_pos (decide_eq_true h)];rfl
  ·rw[if_neg h,if_neg (by rw[decide_eq_false h];decide)]
theorem zid{ws:List W}{M:Mm}{R:K3}(h:vZ ws M R):zhw (bB R) (bS zhv ws) M:=by
 obtain⟨rs,X,rfl,hl,r⟩:=h
 refine⟨_,rfl,zag (rest:=[some (.str X)]) (fun w o=>o=v7 X w) (fun w hw=>?_) (small (by rw[tY,Ab];omega)) (fun _ _=>trivial) (fun a b c j C D sb d f=>?_) fun os po=>?_⟩
 ·rw[CG] at hw
  obtain⟨x,_,rfl⟩:=Ao.mp hw
  exact⟨_,_,rfl⟩
 ·rw[CG] at c
  obtain⟨⟨q,k⟩,i,e⟩:=Ao.mp c
  cases e
  have ep:v7 X (.tup [.int (k:Int),aX q])=if q.name=X then some (.int k) else none:=rfl
  refine⟨_,rfl,_,rfl,_,rfl,_,rfl,fF (b:=decide (q.name=X)) (fun z=>⟨_,rfl,d _ (by rw[ep,if_pos (of_decide_eq_true z)])⟩) fun z=>f (by rw[ep,if_neg (of_decide_eq_false z)])⟩
 ·rw[zib po,zic]
  exact fun p g=>⟨_,Sub.refl _,r p g⟩
theorem zie{ws:List W}{M:Mm}{R:K3}(h:v3 ws M R):CB (bB R) (bS zhE ws) M:=by
 obtain⟨rs,⟨nm,ps,c⟩,rfl,r⟩:=h
 show CB (bB R) [some (.dk (ownOf rs)),some (aX ⟨nm,ps,c⟩)] M
 simp? only[CB,aX]
 match ps,r with
 | [],r=>simp? only[];rw[if_neg (by decide)];exact⟨_,Sub.refl _,r⟩
 | [t],r=>
  simp? only[]
  have e:sglB rs ⟨nm,[t],c⟩=(aY (ownOf rs) (Sum.inr t:aD)).isSome:=(vS rs t).symm
  rw[e] at r
  exact⟨_,⟨Sum.inr t,rfl,rfl⟩,_,Sub.refl _,r⟩
 | a :: b :: l,r=>
  simp? only[]
  rw[if_neg (by omega)]
  exact⟨_,Sub.refl _,r⟩
theorem zif{ws:List W}{M:Mm}{R:K3}(h:B5 ws M R):CC (bB R) (bS zhM ws) M:=by
 obtain⟨c,n,ps,rfl,hl,r⟩:=h
 show CC (bB R) [some (.tup (c.map W.int)),some (.int n),some (.tup (ps.map W.str)),none,none] M
 simp? only[CC,OS,OU,L3.B2]
 refine⟨ps,rfl,hl,⟨_,rfl,?_⟩⟩
 refine d5 (fun i a b=>∃ o,a=[some (.tup (c.map W.int)),some (.int n),some (.tup (ps.map W.str)),some ((c.reverse.take i).foldl (fun p s=>W.tup [.tup [.int s,p]]) (.tup [.tup [.int n,zS ps]])),o]/\b=M) ⟨_,rfl,rfl⟩ (fun _ _ _ _ _=>trivial) ?_ ?_
 ·rintro i w a b hw ⟨o,rfl,rfl⟩
  rw[<-List.map_reverse,Aw] at hw
  obtain⟨s,d,rfl⟩:=Bb.mp hw
  simp? only[OT]
  refine⟨_,Sub.refl _,some (.int s),?_,rfl⟩
  rw[Dy,d,Ei];rfl
 ·rintro a b ⟨o,rfl,rfl⟩
  rw[Jw,Ab,<-Jw,Cq]
  simp? only[OV]
  exact⟨_,Sub.refl _,r⟩
theorem zig{ws:List W}{M:Mm}{R:K3}(h:B3 ws M R):CA (bB R) (bS zhD ws) M:=by
 obtain⟨rs,rfl,g,r⟩:=h
 have hf:=g.few
 have pr:=g.rpl
 obtain⟨d,l,rfl⟩:∃ q l,rs=q :: l:=by
  cases rs with
  | nil=>exact absurd rfl g.ne
  | cons q l=>exact⟨q,l,rfl⟩
 generalize f:d :: l=rs at g hf pr
 have a:∀ {l:List W},(W.tup l=W.tup [])↔l=[]:=by intro l;constructor;intro h;injection h;intro h;rw[h]
 show CA (bB R) [some (cE rs),none,none,none] M
 simp? only[CA,OO,OP]
 refine⟨d,l,by rw[f];rfl,?_⟩
 simp? only[cE]
 refine kX (rest:=[some (.str d.name)]) (fun w=>match w with | .tup [_,.tup ps,_]=>.bl (inW (.str d.name) ps) | _=>.non) (small (by rw[Ab];omega)) (fun _ _=>trivial) (fun w hw j C sb m=>?_) (aV.frz ?_)
 ·obtain⟨q,n,rfl⟩:=Ao.mp hw
  simp? only[aX,L3.rIn,rC,eF] at m ⊢
  exact m
 have D:((rs.map aX).map fun w=>match w with | .tup [_,.tup ps,_]=>W.bl (inW (.str d.name) ps) | _=>.non)=bools (rs.map fun q=>inW (.str d.name) (q.parts.map W.str)):=by
  unfold bools
  rw[Bx,Bx];rfl
 rw[D]
 refine⟨_,rfl,?_⟩
 generalize y:(rs.map fun q=>inW (.str d.name) (q.parts.map W.str)).any id=b
 simp? only[OR]
 refine d5 (fun i k j=>∃ o,k=[some (.rl (rs.map aX)),some (.str d.name),some (.bl b),o]/\j=M) ⟨_,rfl,rfl⟩ (fun _ _ _ _ _=>trivial) ?_ ?_
 ·rintro i w k j hw ⟨o,rfl,rfl⟩
  rw[Aw] at hw
  obtain⟨q,n,rfl⟩:=Bb.mp hw
  have u:=Av n
  simp? only[OQ,aX]
  refine lX 2 (by decide) (kD (pr q u).2) (kD (ps:=[]) (fun t ht=>nomatch ht)) fun c hc=>⟨c,rfl,?_⟩
  cases c with
  | false=>exact⟨_,Sub.refl _,_,rfl,rfl⟩
  | true=>
   have e:q.parts=[]:=by
    have:=a.mp (hc.mp rfl)
    exact Gm.mp this
   obtain⟨s,p⟩:=g.emp q u e
   have B:b5 rs=d.name:=by rw[<-f];rfl
   rw[B] at s p
   have v:b=false:=by
    rw[<-y,List.any_eq_false]
    intro x A
    obtain⟨z,hz,rfl⟩:=Ao.mp A
    rw[pK,decide_eq_false (p z hz)];decide
   subst v
   simp? only[s]
   exact⟨_,Sub.refl _,_,rfl,rfl⟩
 ·rintro k j ⟨o,rfl,rfl⟩
  exact⟨_,Sub.refl _,r⟩
theorem CH(c:CT)(Z:Str):aY (fM c) (Sum.inr Z:aD)=(aI c Z).map fun v=>W.tup (v.map W.int):=by
 unfold fM aY aI
 induction c with
 | nil=>rfl
 | cons e c ih=>
  rw[Au,Cs,Cs]
  by_cases h:e.1=Z
  ·rw[decide_eq_true h,decide_eq_true (show(Sum.inr e.1:aD)=Sum.inr Z by rw[h])];rfl
  ·rw[decide_eq_false h,decide_eq_false (fun z:(Sum.inr e.1:aD)=Sum.inr Z=>h (Sum.inr.inj z))];exact ih
theorem zih{c:CT}{Z:Str}(h:aI c Z=none)(v:List Int):b9 (fM c) (Sum.inr Z:aD) (.tup (v.map W.int))=fM (cY c Z v):=by
 rw[rV h]
 unfold b9
 rw[if_neg (by rw[show((fM c).any fun kv=>decide (kv.1=(Sum.inr Z:aD)))=(aY (fM c) (Sum.inr Z:aD)).isSome from m8 _ _,CH,h];decide)]
 unfold fM
 rw[Bi];rfl
theorem fL.pop{rs:List aG}{X:Str}{m:Nat}{ch:CT}{h:Str}{wt:List Str}(I:fL rs X (m + 1) (ch,h :: wt)):fL rs X m (ch,wt):=⟨I.nd,I.own,fun Z z=>I.wt Z (An _ z),I.top,I.rch,I.len,by
  have e:(h :: wt).length + (namesOf rs).length=ch.length + (m + 1):=I.ms
  show wt.length + _=ch.length + m
  rw[Bk] at e;omega⟩
def PV:aH:=cG (bM (aE (L3.rIn true) (aA 7) (aA 3))) (aN (hW (aE B1 (aE L3.aO (aA 3) (aA 5)) (bO (aB (aA 6) aF))) (j6 (aA 3) (aA 7))) (cX (dR "list" L3.fE (aA 4) (aB (aA 7) aF)))) c7
theorem zii{D:D3}{rs:List aG}{hr X y:Str}{n:Nat}{ch2:CT}{wt2:List Str}{v:List Int}{M:Mm}{p q:Addr}(hpq:q≠p)(hy:y=eO rs hr n)(hv:aI ch2 hr=some v)(h1:v.length<=1000)(h2:ch2.length<=1000)(h3:wt2.length<=1000)
  (k:D.nx [some (cE rs),some (.dk (ownOf rs)),some (.str X),some (.ref p),some (.ref q),some (.str hr),some (.int n),some (.str y)] (put (put M p (.dK (fM (fA rs hr (ch2,wt2) n).1))) q (.lst ((fA rs hr (ch2,wt2) n).2.map W.str)))) :
  PV D [some (cE rs),some (.dk (ownOf rs)),some (.str X),some (.ref p),some (.ref q),some (.str hr),some (.int n),some (.str y)] (put (put M p (.dK (fM ch2))) q (.lst (wt2.map W.str))):=by
 have atp:∀ {A B:MO},put (put M p A) q B p=some A:=fun {A B}=>by rw[aQ (Ca hpq),a5]
 have setp:∀ {A A' B:MO},put (put (put M p A) q B) p A'=put (put M p A') q B:=fun {A A' B}=>by rw[xJ hpq,f9]
 unfold fA at k
 rw[<-hy] at k
 refine⟨_,rfl,_,rfl,.inr ⟨_,.inl ⟨fM ch2,Sum.inr y,atp,rfl,rfl⟩,_,rfl,?_⟩⟩
 show if (!(aY (fM ch2) (Sum.inr y:aD)).isSome)=true then _ else _
 rw[CH,Gs]
 refine fF (fun hn=>?_) fun hn=>?_
 ·have hn:aI ch2 y=none:=by
   cases e:aI ch2 y with
   | none=>rfl
   | some z=>rw[e] at hn;cases hn
  rw[if_neg (by rw[hn];decide),hv] at k
  refine⟨_,rfl,_,rfl,_,.inl ⟨fM ch2,Sum.inr hr,atp,rfl,(by rw[CH,hv];rfl)⟩,_,rfl,z1,_,_,rfl,rfl,?_,_,rfl,_,rfl,yK atp (by unfold fM;rw[Ab];exact gK (by omega)) ?_⟩
  ·exact small (by rw[Ab];show v.length + 1<=10000000;omega)
  ·rw[show W.tup (v.map W.int ++ [W.int n])=.tup ((v ++ [(n:Int)]).map W.int) by rw[Bi];rfl,zih hn,setp]
   refine⟨_,rfl,kC a5,_,rfl,_,a5,gK (by rw[Ab];omega),?_⟩
   rw[f9]
   have e:W.str y=W.str y:=rfl
   rw[show(Gh W.str wt2 ++ [W.str y])=Gh W.str (wt2 ++ [y]) by rw[Bi];rfl]
   exact k
 ·have hn:(aI ch2 y).isSome=true:=by rw[<-Lp (aI ch2 y).isSome,hn];rfl
  rw[if_pos hn] at k
  exact k
theorem zij{ws:List W}{M:Mm}{R:K3}(h:B4 ws M R):zhL (bB R) (bS zhF ws) M:=by
 obtain⟨rs,X,rfl,g,hX,r⟩:=h
 have hf:=g.few
 obtain⟨I0,_⟩:=NG (rs:=rs) (X:=X) (decide_eq_true hX)
 have hnl:=LF rs
 refine fun p hp=>⟨_,rfl,De _,a5,Sum.inr X,rfl,?_⟩
 rw[f9]
 refine⟨_,rfl,z1,fun q G=>?_⟩
 have i:q≠p:=fun e=>by rw[e,a5] at G;cases G
 have O:M q=none:=by rw[aQ i] at G;exact G
 have atp:∀ {A B:MO},put (put M p A) q B p=some A:=fun {A B}=>by rw[aQ (Ca i),a5]
 have U:∀ {A K B:MO},put (put (put M p A) q B) p K=put (put M p K) q B:=fun {A K B}=>by rw[xJ i,f9]
 refine⟨fun m E u=>∃ ch wt k S z C,E=[some (cE rs),some (.dk (ownOf rs)),some (.str X),some (.ref p),some (.ref q),S,z,C]/\u=put (put M p (.dK (fM ch))) q (.lst (wt.map W.str))/\fL rs X m (ch,wt)/\m<=k/\m<=(namesOf rs).length/\mC rs k (ch,wt)=mC rs (rs.length + 1) ([(X,[])],[X]),
  ⟨_,[(X,[])],[X],rs.length + 1,_,_,_,rfl,rfl,I0,by omega,Aj _,rfl⟩,?_⟩
 rintro m E u ⟨ch,wt,k,S,z,C,rfl,rfl,I,hmk,hmn,L⟩
 have F:=vG I
 refine⟨_,rfl,.inl ⟨_,a5,fF (fun h=>?_) fun h=>?_⟩⟩
 ·cases wt with
  | nil=>cases h
  | cons hr wt=>
  have N:(hr :: wt).length + (namesOf rs).length=ch.length + m:=I.ms
  rw[Bk] at N
  have F:ch.length<=(namesOf rs).length:=F
  obtain⟨m,rfl⟩:∃ m',m=m' + 1:=⟨m - 1,by omega⟩
  obtain⟨k,rfl⟩:∃ k',k=k' + 1:=⟨k - 1,by omega⟩
  have Z:=I.pop
  have hh:hr∈bZ ch:=I.wt hr Ba
  refine⟨_,rfl,kC a5,_,_,_,rfl,rfl,a5,?_⟩
  rw[f9]
  refine⟨_,rfl,_,rfl,rs,hr,rfl,by omega,aV.frz (pJ ?_)⟩
  refine d5 (fun j E u=>∃ c d z C,E=[some (cE rs),some (.dk (ownOf rs)),some (.str X),some (.ref p),some (.ref q),some (.str hr),z,C]/\u=put (put M p (.dK (fM c))) q (.lst (d.map W.str))/\(c,d)=((numsOf rs hr).take j).foldl (fA rs hr) (ch,wt)) ⟨ch,wt,_,_,rfl,rfl,rfl⟩ (fun _ _ _ _ _=>trivial) ?_ ?_
  ·rintro j x E u hx ⟨c,d,z,C,rfl,rfl,w⟩
   rw[Aw] at hx
   obtain⟨n,hn,rfl⟩:=Bb.mp hx
   obtain⟨s,Y,_,_,_⟩:=Z.fold (here:=hr) (ns:=(numsOf rs hr).take j) hh
   rw[<-w] at s Y
   have H:hr∈bZ c:=Y hr hh
   have hc2:c.length<=(namesOf rs).length:=vG s
   obtain⟨o,l,en⟩:=rZ.mp (Av hn)
   obtain⟨J,h1,P⟩:=u3 (rs:=rs) (n:=n) (Ak.mp l).1
   cases (show some J=some o from h1.symm.trans l)
   have step:((numsOf rs hr).take (j + 1)).foldl (fA rs hr) (ch,wt)=fA rs hr (c,d) n:=by
    rw[Dy,hn,Ei,<-w];rfl
   have V:d.length + (namesOf rs).length=c.length + m:=s.ms
   obtain⟨v,T⟩:=Gg.mp (A9.mpr H)
   have hvl:v.length<=c.length:=by
    obtain⟨a,b,e3⟩:=n5 T
    exact s.len (hr,v) (by rw[e3];simp)
   have nx:∀ {D:D3} {y:Str},y=eO rs hr n->D.nx [some (cE rs),some (.dk (ownOf rs)),some (.str X),some (.ref p),some (.ref q),some (.str hr),some (.int n),some (.str y)] (put (put M p (.dK (fM (fA rs hr (c,d) n).1))) q (.lst ((fA rs hr (c,d) n).2.map W.str)))->PV D [some (cE rs),some (.dk (ownOf rs)),some (.str X),some (.ref p),some (.ref q),some (.str hr),some (.int n),some (.str y)] (put (put M p (.dK (fM c))) q (.lst (d.map W.str))):=fun hy k=>zii i hy T (by omega) (by omega) (by omega) k
   refine⟨_,rfl,_,rfl,_,rfl,_,P,rs,o,rfl,fF (b:=sglB rs o) (fun f=>?_) fun f=>?_⟩
   ·obtain⟨t,Q⟩:∃ t,o.parts=[t]:=by
     unfold sglB at f
     split at f
     ·rename_i t e;exact⟨t,e⟩
     ·cases f
    have ep:t=eO rs hr n:=by unfold eO;rw[l];show t=if sglB rs o=true then o.parts.headD "" else hr;rw[if_pos f,Q];rfl
    refine⟨_,rfl,_,rfl,_,P,_,rfl,_,?_,nx ep ⟨_,Sub.refl _,_,_,_,_,rfl,rfl,step.symm⟩⟩
    rw[Q];rfl
   ·have ep:hr=eO rs hr n:=by unfold eO;rw[l];show hr=if sglB rs o=true then o.parts.headD "" else hr;rw[if_neg (by rw[f];decide)]
    exact⟨_,rfl,nx ep ⟨_,Sub.refl _,_,_,_,_,rfl,rfl,step.symm⟩⟩
  ·rintro E u ⟨c,d,z,C,rfl,rfl,w⟩
   rw[Ab,Cq] at w
   obtain⟨s,_⟩:=Z.fold (here:=hr) (ns:=numsOf rs hr) hh
   rw[<-w] at s
   exact⟨m,_,Lh m,Sub.refl _,c,d,k,_,_,_,rfl,rfl,s,by omega,by omega,by rw[w];exact L⟩
 ·cases wt with
  | cons a b=>cases h
  | nil=>
  rw[ND] at L
  have e:ch=fV rs X:=congrArg Ci L
  rw[<-e] at r
  refine⟨_,rfl,_,?_,r p hp⟩
  exact Sub.new (by rw[aQ i];exact O)
theorem zik{M:Mm}{d:Addr}{o:MO}(h:M d=some o):put M d o=M:=by
 funext b
 by_cases e:b=d
 ·subst e;rw[a5,h]
 ·rw[aQ e]
section
variable {P:Ay}{w:Bq}{C:Cc}
theorem oG.putD{c:Addr}{M:Mm}{a d dx:Addr}{l:List (NP×W)}(pl:oG P w c M a d dx l)(b:List (NP×W)):oG P w c (put M d (.dn P w [0] (kvsOf b))) a d dx b:=⟨by
 have:a≠d:=fun e=>by have f:=pl.ob;rw[e,pl.di] at f;cases f
 rw[aQ this];exact pl.ob,a5⟩
theorem zil{ws:List W}{M:Mm}{R:K3}(h:B6 P w C ws M R):zhQ P w C (bB R) (bS zhN ws) M:=by
 obtain⟨a,d,dx,l,rs,X,kvs,rfl,pl,g,bd,hX,hk,r⟩:=h
 have hf:=g.few
 have hnl:=g.nam
 have hfr:∀ t:Str,(aY kvs (Sum.inr t:aD)).isSome=gB rs t:=fun t=>by rw[hk,Gs];rfl
 refine⟨_,rfl,rs,rfl,by omega,aV.frz ⟨namesOf rs,rfl,by omega,?_⟩⟩
 refine⟨_,rfl,_,rfl,_,rfl,rs,X,rfl,g,hX,fun p0 hp0=>⟨p0,rfl,.inl ⟨_,a5,?_⟩⟩⟩
 rw[nJ hp0]
 refine⟨_,rfl,?_⟩
 obtain⟨m,I,_⟩:=BA (rs:=rs) (X:=X) (decide_eq_true hX)
 refine d5 (fun i τ M'=>∃ o5 o6 o7 o8 o9,τ=[some (.ref a),some (cE rs),some (.str X),some (.dk kvs),some (.dk (ownOf rs)),o5,o6,o7,o8,o9]/\M'=put M d (.dn P w [0] (kvsOf (((fV rs X).take i).foldl (mD rs X) l)))) ⟨_,_,_,_,_,rfl,(zik pl.di).symm⟩ (fun _ _ _ _ _=>trivial) ?_ ?_
 ·rintro i v τ M' hv ⟨o5,o6,o7,o8,o9,rfl,rfl⟩
  rw[Aw] at hv
  obtain⟨e',he',rfl⟩:=Bb.mp hv
  unfold fM at he'
  rw[Aw] at he'
  obtain⟨⟨Z,c⟩,he,rfl⟩:=Bb.mp he'
  have b1:Bd rs (((fV rs X).take i).foldl (mD rs X) l):=Bd.putEs hX _ bd
  have step:((fV rs X).take (i + 1)).foldl (mD rs X) l=mD rs X (((fV rs X).take i).foldl (mD rs X) l) (Z,c):=by
   rw[Dy,he,Ei];rfl
  rw[step]
  generalize ((fV rs X).take i).foldl (mD rs X) l=l1 at b1
  show _/\_
  refine⟨rfl,rfl,?_⟩
  simp only[OW]
  refine⟨_,rfl,_,rfl,rs,Z,rfl,by omega,aV.frz (pJ ?_)⟩
  refine d5 (fun j τ M'=>∃ o7 o8 o9,τ=[some (.ref a),some (cE rs),some (.str X),some (.dk kvs),some (.dk (ownOf rs)),some (.str Z),some (.tup (c.map W.int)),o7,o8,o9]/\M'=put M d (.dn P w [0] (kvsOf (((numsOf rs Z).take j).foldl (putN rs X c) l1)))) ⟨_,_,_,rfl,rfl⟩ (fun _ _ _ _ _=>trivial) ?_ ?_
  ·rintro j y τ M' hy ⟨o7,o8,o9,rfl,rfl⟩
   rw[Aw] at hy
   obtain⟨n,hn,rfl⟩:=Bb.mp hy
   obtain⟨ru,hru,en⟩:=rZ.mp (Av hn)
   obtain⟨ru',h1,h2⟩:=u3 (rs:=rs) (n:=n) (Ak.mp hru).1
   cases (show some ru'=some ru from h1.symm.trans hru)
   have b2:Bd rs (((numsOf rs Z).take j).foldl (putN rs X c) l1):=Bd.putNs hX c _ b1
   have step2:((numsOf rs Z).take (j + 1)).foldl (putN rs X c) l1=putN rs X c (((numsOf rs Z).take j).foldl (putN rs X c) l1) n:=by
    rw[Dy,hn,Ei];rfl
   rw[step2]
   generalize ((numsOf rs Z).take j).foldl (putN rs X c) l1=l2 at b2
   have hl2:=b2.few g
   have hpr:=g.prt ru (Av hru)
   refine⟨_,rfl,_,rfl,_,h2,_,rfl,?_⟩
   simp? only[]
   refine kX (rest:=[some (.dk kvs),some (.dk (ownOf rs))]) (fun w=>match w with | .str t=>.bl (fU rs t) | _=>.non) (small (by rw[Ab];omega)) (fun _ _=>trivial) (fun w hw M' C sb h1=>?_) (aV.frz ?_)
   ·obtain⟨t,ht,rfl⟩:=Ao.mp hw
    simp? only[]
    refine⟨_,⟨Sum.inr t,rfl,rfl⟩,_,rfl,fF (b:=(aY kvs (Sum.inr t:aD)).isSome) (fun z=>?_) fun z=>⟨_,⟨Sum.inr t,rfl,rfl⟩,?_⟩⟩
    ·have e:fU rs t=true:=by unfold fU;rw[<-hfr t,z];rfl
     rw[<-e];exact h1
    ·have e:fU rs t = !(aY (ownOf rs) (Sum.inr t:aD)).isSome:=by unfold fU;rw[<-hfr t,vS];rw[z];rfl
     have h1:C (.bl (fU rs t)) M':=h1
     rw[e] at h1;exact h1
   have e1:((ru.parts.map W.str).map fun w=>match w with | .str t=>W.bl (fU rs t) | _=>.non)=bools (ru.parts.map (fU rs)):=by
    unfold bools
    rw[Bx,Bx];rfl
   rw[e1]
   refine⟨_,rfl,?_⟩
   have e2:(ru.parts.map (fU rs)).all id=ru.parts.all (fU rs):=by rw[Lo];rfl
   rw[e2]
   simp? only[]
   have pe:putN rs X c l2 n=if iS rs ru=true then eM l2 ((X,ru.parts),oE c n ru.parts) else l2:=by
    unfold putN oF
    rw[hru]
    show((if iS rs ru=true then [((X,ru.parts),oE c n ru.parts)] else []).foldl eM l2)=_
    split <;> rfl
   unfold iS at pe
   refine fF (b:=ru.parts.all (fU rs)) (fun ha=>?_) fun ha=>⟨_,Sub.refl _,_,_,_,rfl,by rw[pe,ha];rfl⟩
   refine⟨_,h2,rs,ru,rfl,?_⟩
   show if sglB rs ru=false then _ else _
   by_cases hs:sglB rs ru=false
   ·rw[if_pos hs]
    refine⟨_,rfl,a,dx,_,rfl,(pl.putD l2).ob,N7,_,rfl,_,rfl,_,rfl,_,rfl,_,rfl,c,n,ru.parts,rfl,by omega,a,d,dx,l2,(X,ru.parts),_,rfl,pl.putD l2,by omega,_,Sub.refl _,_,_,_,rfl,?_⟩
    rw[f9,pe,ha,hs];rfl
   ·rw[if_neg hs]
    refine⟨_,Sub.refl _,_,_,_,rfl,?_⟩
    rw[pe,ha,eq_true_of_ne_false hs];rfl
  ·rintro τ M' ⟨o7,o8,o9,rfl,rfl⟩
   rw[Ab,Cq]
   exact⟨_,Sub.refl _,_,_,_,_,_,rfl,rfl⟩
 ·rintro τ M' ⟨o5,o6,o7,o8,o9,rfl,rfl⟩
  rw[Ab]
  unfold fM
  rw[Ab,Cq]
  exact⟨_,Sub.refl _,r⟩
theorem PX{c:Addr}{M:Mm}{a d dx:Addr}{l:List (NP×W)}{R:K3}(i:M a=none)(hd:M d=none)(f:a≠d)(r:B7 l M R)(p q:Addr)(m:Bt P w c M a d dx l p=none)(j:Bt P w c M a d dx l q=none)(ne:p≠q):∃ b,L3.Sub b (put (put (Bt P w c M a d dx l) p (.lst ((kvsOf l).map fun z=>h9 [0] z.1))) q (.lst ((kvsOf l).map fun z=>z.2)))/\R (.tup [.ref p,.ref q]) b:=by
 have sb:=Bt.sub (P:=P) (w:=w) (C:=c) (dx:=dx) (l:=l) i hd f
 have g:∀ {x:Addr},Bt P w c M a d dx l x=none->M x=none:=fun {x} h=>by
  cases e:M x with
  | none=>rfl
  | some o=>rw[sb x o e] at h;cases h
 refine⟨_,?_,r p q (g m) (g j) ne⟩
 have n:((kvsOf l).map fun z=>h9 [0] z.1)=(l.map fun z=>iN z.1).map aX:=by
  unfold kvsOf
  rw[Bx,Bx]
  exact Jv fun z _=>zdT z.1
 have k:((kvsOf l).map fun z=>z.2)=l.map fun z=>z.2:=by unfold kvsOf;rw[Bx];rfl
 rw[n,k]
 exact Sub.put (Sub.put sb)
theorem zim{ws:List W}{M:Mm}{R:K3}(h:B8 ws M R):zhC P w C (bB R) (bS zhx ws) M:=by
 obtain⟨rs,rfl,i,r⟩:=h
 obtain⟨c,l,rfl⟩:∃ q l,rs=q :: l:=by
  cases rs with
  | nil=>exact absurd rfl i
  | cons q l=>exact⟨q,l,rfl⟩
 refine⟨_,rfl,c,l,rfl,fun a dx f j m=>⟨a,dx,rfl,a5,fun d hd=>⟨rfl,?_⟩⟩⟩
 have b:a≠d:=fun e=>by rw[<-e,a5] at hd;cases hd
 rw[aQ (Ca b)] at hd
 rw[Bt.first b]
 refine⟨_,rfl,a,dx,_,rfl,(Bt.pl b).ob,N7,_,rfl,_,rfl,_,rfl,z2,z2,z2,z1,a,d,dx,[],(c.name,[c.name,c.name]),_,rfl,Bt.pl b,De _,?_⟩
 rw[Bt.put]
 exact⟨_,rfl,a,dx,_,rfl,(Bt.pl b).ob,N8,a,d,dx,_,rfl,Bt.pl b,fun p q k g ne=>PX f hd b r p q k g ne⟩
theorem zin{ws:List W}{M:Mm}{R:K3}(h:v5 ws M R):zhZ P w C (bB R) (bS zhR ws) M:=by
 obtain⟨rs,rfl,g,r⟩:=h
 have hf:=g.few
 obtain⟨q0,l,e0⟩:∃ q l,rs=q :: l:=by
  cases rs with
  | nil=>exact absurd rfl g.ne
  | cons q l=>exact⟨q,l,rfl⟩
 have ef:b5 rs=q0.name:=by rw[e0];rfl
 refine⟨_,rfl,rs,rfl,g,?_⟩
 refine⟨_,rfl,rs,rfl,g.gl,fun kvs hk=>nM.frz ?_⟩
 have hfr:∀ t:Str,(aY kvs (Sum.inr t:aD)).isSome=gB rs t:=fun t=>by rw[hk,Gs];rfl
 refine⟨_,rfl,q0,l,by rw[e0];rfl,_,rfl,_,⟨Sum.inr q0.name,rfl,rfl⟩,_,rfl,?_⟩
 show if (!(aY kvs (Sum.inr q0.name:aD)).isSome)=true then _ else _
 rw[hfr,<-ef]
 unfold iT at r
 refine fF (fun hn=>?_) fun hn=>?_
 ·have hn:gB rs (b5 rs)=false:=by rw[<-Lp (gB rs (b5 rs)),hn];rfl
  rw[if_neg (by rw[hn];decide)] at r
  exact⟨_,rfl,rs,rfl,g.ne,fun p q hp hq ne=>⟨_,Sub.refl _,r p q hp hq ne⟩⟩
 have hn:gB rs (b5 rs)=true:=by rw[<-Lp (gB rs (b5 rs)),hn];rfl
 rw[if_pos hn] at r
 refine fun a dx ha hdx hne=>⟨a,dx,rfl,a5,fun d hd=>⟨rfl,?_⟩⟩
 have had:a≠d:=fun e=>by rw[<-e,a5] at hd;cases hd
 rw[aQ (Ca had)] at hd
 rw[Bt.first had]
 refine⟨_,rfl,rs,rfl,by omega,aV.frz (pJ ?_)⟩
 refine d5 (fun i τ M'=>∃ o3,τ=[some (cE rs),some (.dk kvs),some (.ref a),o3]/\M'=Bt P w C.f M a d dx (((namesOf rs).take i).foldl (pW rs) [])) ⟨_,rfl,rfl⟩ (fun _ _ _ _ _=>trivial) ?_ ?_
 ·rintro i v τ M' hv ⟨o3,rfl,rfl⟩
  rw[Aw] at hv
  obtain⟨X,hX,rfl⟩:=Bb.mp hv
  have hm:=Av hX
  refine⟨_,rfl,_,rfl,_,rfl,_,rfl,a,d,dx,_,rs,X,kvs,rfl,Bt.pl had,g,Bd.putXs _ (fun Y hY=>Jp hY) (Bd.nil rs),hm,hk,_,Sub.refl _,some (.str X),rfl,?_⟩
  rw[Bt.put,Dy,hX,Ei];rfl
 ·rintro τ M' ⟨o3,rfl,rfl⟩
  rw[Ab,Cq]
  exact⟨_,rfl,a,dx,_,rfl,(Bt.pl had).ob,N8,a,d,dx,_,rfl,Bt.pl had,fun p q hp hq ne=>PX ha hd had r p q hp hq ne⟩
end
theorem zio{xs:List W}{w:W}:bI (xs ++ [w]) (-1)=some w:=by
 have e:fY (xs ++ [w]).length (-1)=some xs.length:=by
  unfold fY
  rw[if_neg (by decide),Am,Bn,if_pos (by omega)]
  congr 1
  omega
 unfold bI
 rw[e]
 simp
theorem ziq{rs:List aG}(h:rs≠[]):∃ a b,a∈rs/\b∈rs/\bI (rs.map aX) 0=some (aX a)/\bI (rs.map aX) (-1)=some (aX b):=by
 obtain⟨a,l,e⟩:∃ a l,rs=a :: l:=by
  cases rs with
  | nil=>exact absurd rfl h
  | cons a l=>exact⟨a,l,rfl⟩
 rcases Fe rs with z | ⟨c,b,z⟩
 ·exact absurd z h
 rw[Ff] at z
 refine⟨a,b,by rw[e];simp,by rw[z];simp,by rw[e,Au,mU],?_⟩
 rw[z,Bi]
 exact zio
theorem zir{ws:List W}{M:Mm}{R:K3}(h:B9 ws M R):CD (bB R) (bS zh0 ws) M:=by
 obtain⟨y,rfl,hi,hl,r⟩:=h
 show CD (bB R) [some (.sc y),none,none,none,none,none,none,none] M
 have k:∀ {l:List W},(W.tup l=W.tup [])↔l=[]:=by intro l;constructor;intro h;injection h;intro h;rw[h]
 simp? only[CD,OX,OY]
 intro p hp
 refine⟨y,14,.inl rfl,hi,by decide,fun c=>⟨c,[3,3],rfl,by decide,fun s u=>?_,fun ds hd=>aV.frz ?_⟩⟩
 ·simp at u;subst u;decide
 obtain⟨x,P,rfl,b0,b1⟩:=JX hd
 simp? only[OZ]
 refine⟨y,0,.inl rfl,hi,by decide,fun c0=>⟨c0,[4],rfl,by decide,fun s u=>?_,fun ds Y=>aV.frz ?_⟩⟩
 ·simp at u;subst u;decide
 obtain⟨d,rfl,hd⟩:∃ d,ds=[d]/\Below d 4:=by
  cases Y with
  | cons a b=>cases b;exact⟨_,rfl,a⟩
 simp? only[]
 have hd1:=hd.1
 have hd2:=hd.2
 refine⟨_,1 + d,4,rfl,hi.cut _ _,?_,by omega,by omega,by decide,by decide,fun f g hpm ⟨u,wds,q1,q2,q3,q4,q5,q6⟩=>aV.frz ?_⟩
 ·have:=JL (S:=y) (i:=1) (j:=14) (by decide) (by decide);omega
 obtain⟨Q,rb,ma,mb,ea,eb⟩:=ziq g.ne
 obtain⟨alt,G,F⟩:∃ alt:List Str,((∃ q∈f,alt=[q.name])\/alt=[("zoe" : Str)])/\bI [W.tup [.str Q.name],.tup [.str rb.name],.tup [.str "zoe"]] x=some (.tup (alt.map W.str)):=by
  have B:=b0.1
  have U:=b0.2
  rcases(show x=0\/x=1\/x=2 by omega) with e | e | e
  ·exact⟨[Q.name],.inl ⟨Q,ma,rfl⟩,by rw[e];rfl⟩
  ·exact⟨[rb.name],.inl ⟨rb,mb,rfl⟩,by rw[e];rfl⟩
  ·exact⟨["zoe"],.inr rfl,by rw[e];rfl⟩
 have dr:Dr f u wds alt:=⟨g.ne,g.few,by omega,q2,q3,q4,q5,q6,G⟩
 have H:=g.few
 have prl:r9 f:=zg4 g
 generalize T:f.map aX=O at ea eb
 simp? only[O1]
 refine d5 (fun i X K=>∃ I L J,X=[some (.sc y),some (.ref p),some (.rl [.int x,.int P]),some (.rl O),I,L,J,none]/\K=put M p (.lst (((f.take i).map (eP alt)).map aX))) ⟨_,_,_,rfl,rfl⟩ (fun _ _ _ _ _=>trivial) ?_ ?_
 ·rintro i v X K hv ⟨I,L,J,rfl,rfl⟩
  rw[<-T,Aw] at hv
  obtain⟨q,m,rfl⟩:=Bb.mp hv
  have hm:=Av m
  have hlt:=(Ak.mp m).1
  simp? only[O0,aX]
  refine lX 2 (by decide) (kD (prl q hm).2) (kD (ps:=[]) (fun t ht=>nomatch ht)) fun b N=>⟨b,rfl,?_⟩
  have step:(((f.take (i + 1)).map (eP alt)).map aX)=((f.take i).map (eP alt)).map aX ++ [aX (eP alt q)]:=by
   rw[Dy,m,Bi,Bi];rfl
  have E:b=true↔q.parts=[]:=N.trans (k.trans Gm)
  cases b with
  | true=>
   rw[if_pos rfl]
   simp? only[ea,eb,aX]
   have e:=E.mp rfl
   have Z:eP alt q=⟨q.name,alt,q.cost⟩:=by unfold eP;rw[if_pos e]
   exact⟨_,F,by rw[Ab,Ab,Cw];omega,_,Sub.refl _,_,_,_,rfl,by rw[step,Z];rfl⟩
  | false=>
   rw[if_neg (by decide)]
   have Z:eP alt q=q:=by unfold eP;rw[if_neg (fun z=>by have:=E.mpr z;cases this)]
   exact⟨⟨_,a5⟩,_,a5,by rw[Ab,Ab,Cw];omega,_,Sub.refl _,_,_,_,rfl,by rw[f9,step,Z];rfl⟩
 ·rintro X K ⟨I,L,J,rfl,rfl⟩
  rw[<-T,Ab,Cq,T]
  generalize m:f.map (eP alt)=qs
  have gq:∀ {ts:List aG},(ts=[]\/(ts=[⟨b5 qs,[],7⟩]/\∀ q∈qs,b5 qs∉q.parts))->eE (qs ++ ts):=fun {ts} h=>by rw[<-m] at h ⊢;exact dr.g61 h
  have g0:eE qs:=by have:=gq (ts:=[]) (.inl rfl);rwa [Gf] at this
  have lq:qs.length<=60:=by rw[<-m,Ab];exact H
  obtain⟨A,l0,e0⟩:∃ a l,qs=a :: l:=by
   cases qs with
   | nil=>exact absurd rfl g0.ne
   | cons a l=>exact⟨a,l,rfl⟩
  have ef:b5 qs=A.name:=by rw[e0];rfl
  have ei:bI (qs.map aX) 0=some (aX A):=by rw[e0,Au,mU]
  have n:put M p (.lst (qs.map aX)) p=some (.lst (qs.map aX)):=a5
  simp? only[O2]
  refine yI (rest:=[some (.ref p)]) (fun w=>match w with | .tup [_,.tup ps,_]=>if inW (.str A.name) ps then some w else none | _=>none) (small (by rw[Ab];omega)) (fun K sb=>sb _ _ a5) (fun w hw M2 C D sb B U=>?_) (aV.frz ?_)
  ·obtain⟨q,m,rfl⟩:=Ao.mp hw
   have V:=sb _ _ n
   simp? only[aX,V] at B U ⊢
   refine .inl ⟨_,_,rfl,ei,?_⟩
   simp? only[aX,L3.rIn,rC,eF]
   cases e:inW (.str A.name) (q.parts.map W.str) with
   | true=>rw[if_pos rfl];exact B _ (by rw[e];rfl)
   | false=>rw[if_neg (by decide)];exact U (by rw[e];rfl)
  rw[vR (fun q=>inW (.str A.name) (q.parts.map W.str)) _ (fun q=>rfl)]
  simp? only[O3]
  have fin:∀ {o:Option W},O4 (bB R) [some (.sc y),some (.ref p),some (.rl [.int x,.int P]),some (.rl O),I,L,J,o] (put M p (.lst (qs.map aX))):=fun {o}=>⟨_,rfl,_,Sub.refl _,r qs g0 p hp⟩
  by_cases hw:P=0
  ·rw[if_pos hw]
   refine lX 4 (by decide) (mE fun q m=>g0.rpl q (Ge.mp m).1) (mE (l:=[]) (fun t ht=>nomatch ht)) fun b N=>⟨_,rfl,?_⟩
   cases b with
   | false=>exact fin
   | true=>
    have hn:∀ q∈qs,b5 qs∉q.parts:=by
     have B:=BP.mp (N.mp rfl)
     rw[Gm,List.filter_eq_nil_iff] at B
     intro q m hin
     refine B q m ?_
     rw[pK,<-ef];exact decide_eq_true hin
    have g1:eE (qs ++ [⟨b5 qs,[],7⟩]):=gq (Or.inr (And.intro rfl hn))
    refine⟨⟨_,n⟩,.inl ⟨_,_,n,ei,?_⟩⟩
    refine⟨_,rfl,_,n,by rw[Ab];omega,?_⟩
    refine⟨_,rfl,_,Sub.refl _,?_⟩
    rw[f9]
    have e3:qs.map aX ++ [W.tup [.str A.name,.tup [],.int 7]]=(qs ++ [(⟨b5 qs,[],7⟩:aG)]).map aX:=by rw[Bi,ef];rfl
    rw[e3]
    exact r _ g1 p hp
  ·rw[if_neg hw]
   exact fin
theorem zis{rs:List aG}(g:eE rs):r9 (dN rs):=fun t ht=>⟨(vL g (NR g ht)).asc,fun p a=>by
 rcases BB g ht p a with z | ⟨z,_⟩
 ·exact z.sh
 ·exact z.sh⟩
theorem zit{rs:List aG}(g:eE rs):∀ t∈dN rs,t.cost=0/\∀ q∈t.parts,Sh q/\(m7 q=true->∃ t'∈dN rs,t'.name=q):=fun t ht=>⟨(pY ht).1,fun q a=>by
 rcases BB g ht q a with z | ⟨z,h⟩
 ·exact⟨z.sh,fun n=>by rw[LK z] at n;cases n⟩
 ·exact⟨z.sh,fun _=>h⟩⟩
theorem ziu{rs:List aG}(g:eE rs):∀ t∈dN rs,t.name.length<=60/\((∃ r∈rs,r.name=t.name)\/∃ i,i < 180/\t.name=pN i):=fun t ht=>by
 have h:=NR g ht
 have:=(vL g h).len
 exact⟨by omega,.inl (l3.mp h)⟩
abbrev PY:bL:=qS
theorem ziv:∀ ws M R,PY ws M R->ws.length=1:=by rintro ws M R ⟨_,rfl,_⟩;rfl
theorem eE.okG{rs:List aG}(g:eE rs):zU rs:=⟨g.ne,by have:=g.few;omega,fun r hr=>⟨(g.hd r hr).2,fun t ht=>by
 rcases g.txt r hr t ht with z | ⟨q,a,e⟩
 ·exact⟨by have:=z.len;omega,fun n=>by rw[z.nm] at n;cases n⟩
 ·exact⟨by have:=(g.hd q a).1.len;rw[<-e];omega,fun _=>l3.mpr ⟨q,a,e⟩⟩⟩⟩
theorem ziw{ws:List W}{M:Mm}{R:K3}(h:PY ws M R):CF (bB R) (bS zh1 ws) M:=by
 obtain⟨ns,rfl,hl,hM,r⟩:=h
 have hi:=L3.ints_map ns
 show CF (bB R) [some (.sc (ns.map W.int)),none,none,none,none,none,none,none,none,none,none,none] M
 simp? only[CF,O5]
 refine⟨_,rfl,hi,by rw[Ab];exact hl,fun rs g=>aV.frz ?_⟩
 have ff:=g.few
 have tl:=NQ g
 have tok:=zgC g
 have trp:=zis g
 have prl:=g.rpl
 obtain⟨ps0,v0,q0,etold⟩:=NO g.ne
 have ehd:dN rs=iN (b5 rs,ps0) :: q0.map fun p=>iN p.1:=by unfold dN;rw[etold];rfl
 have tlR:(dN rs).length=(iT rs).length:=by unfold dN;rw[Ab]
 have tup_nil:∀ {l:List W},(W.tup l=W.tup [])↔l=[]:=by intro l;constructor;intro h;injection h;intro h;rw[h]
 simp? only[O6]
 refine⟨rs,rfl,g.okG,aV.frz ?_⟩
 simp? only[O7]
 refine⟨rs,rfl,g,fun p q hp hq hpq=>?_⟩
 rw[show(iT rs).map (fun z=>iN z.1)=dN rs from rfl]
 generalize hB:(iT rs).map (fun z=>z.2)=B
 have lB:B.length=(iT rs).length:=by rw[<-hB,Ab]
 generalize hM2:put (put M p (.lst ((dN rs).map aX))) q (.lst B)=M2
 have hp2:M2 p=some (.lst ((dN rs).map aX)):=by rw[<-hM2,aQ hpq,a5]
 have hq2:M2 q=some (.lst B):=by rw[<-hM2,a5]
 have dp:cQ M2 (.ref p)=.rl ((dN rs).map aX):=by simp[cQ,hp2]
 simp? only[O8]
 rw[if_neg (by simp)]
 refine qW 4 (by decide) (mE prl) rfl ⟨_,rfl,?_⟩
 rw[if_neg (by decide)]
 simp? only[O9,PB]
 refine⟨"list",true,.inl ⟨rfl,_,hp2⟩,by decide,?_⟩
 simp? only[]
 refine⟨"list",true,.inl ⟨rfl,_,hq2⟩,by decide,?_⟩
 simp? only[PC]
 refine lX 4 (by decide) (by rw[dp];exact mE trp (M:=M2)) (mE (l:=[]) (fun t ht=>nomatch ht)) fun b hb=>⟨_,rfl,?_⟩
 have eb:b=false:=by
  cases b with
  | false=>rfl
  | true=>
   have:=hb.mp rfl
   rw[dp] at this
   have:=BP.mp this
   rw[ehd] at this
   cases this
 rw[eb,if_neg (by decide)]
 simp? only[hp2,hq2]
 rw[if_neg (by rw[Ab,tlR,lB];simp)]
 simp? only[PD]
 refine⟨p,dN rs,rfl,hp2,by omega,zit g,?_⟩
 simp? only[]
 refine⟨rs,p,dN rs,rfl,hp2,by omega,by omega,ziu g,?_⟩
 simp? only[PF]
 obtain⟨r0,rl,ers⟩:∃ a l,rs=a :: l:=by
  cases rs with
  | nil=>exact absurd rfl g.ne
  | cons a l=>exact⟨a,l,rfl⟩
 have efs:b5 rs=r0.name:=by rw[ers];rfl
 have e0:bI ((dN rs).map aX) 0=some (aX (iN (b5 rs,ps0))):=by rw[ehd,Au,mU]
 have e1:bI (rs.map aX) 0=some (aX r0):=by rw[ers,Au,mU]
 simp? only[hp2,e0,e1,aX,iN]
 refine .inl ⟨_,_,rfl,e0,?_⟩
 simp? only[aX,iN,efs]
 rw[if_neg (fun h=>h trivial)]
 simp? only[PH]
 refine yI (rest:=[]) (fun w=>match w with | .tup (_ :: .tup ps :: _)=>if ps.isEmpty then some w else none | _=>none) (small (by rw[Ab];omega)) (fun _ _=>trivial) (fun w hw M2 C D sb h1 h2=>?_) (aV.frz ?_)
 ·obtain⟨q,hq,rfl⟩:=Ao.mp hw
  simp? only[aX] at h1 h2 ⊢
  refine lX 2 (by decide) (kD (prl q hq).2) (kD (ps:=[]) (fun t ht=>nomatch ht)) fun b hb=>⟨b,rfl,?_⟩
  have hb':b=(q.parts.map W.str).isEmpty:=by
   rw[Ef,hb,List.isEmpty_iff]
   exact tup_nil
  rw[hb']
  cases e:(q.parts.map W.str).isEmpty with
  | true=>rw[if_pos rfl];exact h1 _ (by rw[e];rfl)
  | false=>rw[if_neg (by decide)];exact h2 (by rw[e];rfl)
 rw[vR (fun q=>(q.parts.map W.str).isEmpty) _ (fun q=>rfl)]
 refine lX 4 (by decide) (mE fun q hq=>prl q (Ge.mp hq).1) (mE (l:=[]) (fun t ht=>nomatch ht)) fun b1 hb1=>?_
 have he:(∃ q∈rs,q.parts=[])->b1=false:=by
  rintro⟨q,hq,e⟩
  cases b1 with
  | false=>rfl
  | true=>
   have h1:=BP.mp (hb1.mp rfl)
   rw[Gm,List.filter_eq_nil_iff] at h1
   exact absurd (by rw[e];rfl) (h1 q hq)
 simp? only[PK]
 refine⟨_,hp2,?_⟩
 refine d5 (fun i τ M'=>∃ o7 o8 o9,τ=[some (.sc (ns.map W.int)),some (.rl (rs.map aX)),some (.rl (rs.map aX)),some (.tup [.ref p,.ref q]),some (.ref p),some (.ref q),some (.bl (if true=true then !b1 else b1)),o7,o8,o9,none,none]/\M'=M2) ⟨_,_,_,rfl,rfl⟩ (fun _ _ _ _ ⟨_,_,_,_,e⟩=>by rw[e];exact hp2) ?_ ?_
 ·rintro i v τ M' hv ⟨o7,o8,o9,rfl,rfl⟩
  rw[Aw] at hv
  obtain⟨t,ht,rfl⟩:=Bb.mp hv
  have hm:=Av ht
  have hsh:=(trp t hm).2
  have hsg:∀ z:Str,t.parts=[z]->m7 z=false:=fun z h=>zgA g hm h
  have hem:=fun(h:t.parts=[])=>zgB g hm h
  obtain⟨nm,ps,c⟩:=t
  simp only at hsh hsg hem
  simp? only[PJ,aX]
  match ps,hsh,hsg,hem with
  | [],hsh,hsg,hem=>
   simp? only[]
   obtain⟨hn,hx⟩:=hem rfl
   have hb0:=he hx
   rw[if_neg (by decide)]
   refine qW 2 (by decide) (kD (ps:=[]) (fun t ht=>nomatch ht)) rfl ⟨_,rfl,?_⟩
   rw[if_pos (show(!false)=true from rfl)]
   refine .inl ⟨_,_,hp2,e0,?_⟩
   simp? only[aX,iN,hn,hb0]
   exact⟨_,Sub.refl _,_,_,_,rfl,rfl⟩
  | [z],hsh,hsg,hem=>
   simp? only[]
   refine⟨z,rfl,hsh z Ba,?_⟩
   simp? only[hsg z rfl]
   refine lX 2 (by decide) (kD (ps:=[z]) hsh) (kD (ps:=[]) (fun t ht=>nomatch ht)) fun b hb=>⟨b,rfl,?_⟩
   cases b with
   | true=>have:=tup_nil.mp (hb.mp rfl);cases this
   | false=>exact⟨_,Sub.refl _,_,_,_,rfl,rfl⟩
  | z1 :: z2 :: l,hsh,hsg,hem=>
   simp? only[]
   rw[if_neg (by omega)]
   refine lX 2 (by decide) (kD (ps:=z1 :: z2 :: l) hsh) (kD (ps:=[]) (fun t ht=>nomatch ht)) fun b hb=>⟨b,rfl,?_⟩
   cases b with
   | true=>have:=tup_nil.mp (hb.mp rfl);cases this
   | false=>exact⟨_,Sub.refl _,_,_,_,rfl,rfl⟩
 ·rintro τ M' ⟨o7,o8,o9,rfl,rfl⟩
  simp? only[PL,PM,PQ,hp2,hq2]
  generalize hM2:M'=M2 at hp2 hq2
  have hq3:put M2 p (.lst []) q=some (.lst B):=by rw[aQ (Ca hpq)];exact hq2
  refine⟨_,_,rfl,rfl,hp2,⟨_,hq3⟩,_,_,rfl,rfl,hq3,?_⟩
  simp? only[PR]
  generalize put (put M2 p (.lst [])) q (.lst [])=M3
  refine⟨rs,rfl,g,fun a c ha hc hac=>?_⟩
  rw[show(iT rs).map (fun z=>iN z.1)=dN rs from rfl,hB]
  generalize hM4:put (put M3 a (.lst ((dN rs).map aX))) c (.lst B)=M4
  have ha4:M4 a=some (.lst ((dN rs).map aX)):=by rw[<-hM4,aQ hac,a5]
  have hc4:M4 c=some (.lst B):=by rw[<-hM4,a5]
  have da:cQ M4 (.ref a)=.rl ((dN rs).map aX):=by simp[cQ,ha4]
  simp? only[PU]
  refine qW 4 (by decide) (by rw[da];exact mE trp (M:=M4)) (by rw[da];rfl) ?_
  simp? only[hc4]
  rw[if_pos (by rw[Ab,tlR,lB])]
  refine⟨dN rs,rfl,tok,aV.frz ?_⟩
  refine qW 4 (by decide) (mE trp) rfl ⟨_,Sub.refl _,r _⟩
structure Tx(mg:Str->Option Ae):Prop where
 c_FIGURES:∃ t,mg "FIGURES" = some (.str "0123456789" t)
 c_GREAT_LETTERS:∃ t,mg "GREAT_LETTERS" = some (.str "ABCDEFGHIJKLMNOPQRSTUVWXYZ" t)
 all_:mg "all" = none
 any_:mg "any" = none
 bool_:mg "bool" = none
 dict_:mg "dict" = none
 enumerate_:mg "enumerate" = none
 isinstance_:mg "isinstance" = none
 len_:mg "len" = none
 list_:mg "list" = none
 range_:mg "range" = none
 reversed_:mg "reversed" = none
 sorted_:mg "sorted" = none
 str_:mg "str" = none
 tuple_:mg "tuple" = none
structure Kc(K:Ac)(mg:Str->Option Ae)(C:Cc):Prop where
 cls_Queue:gD K C.q
 at__Queue:mg "Queue" = some (.ref C.q)
 cls_Search:gD K C.s
 at__Search:mg "Search" = some (.ref C.s)
 cls_Plainer:gD K C.f
 at__Plainer:mg "Plainer" = some (.ref C.f)
 na_costs:fP K C.q "costs"
 na_waiting:fP K C.q "waiting"
 na_grammar:fP K C.s "grammar"
 na_own:fP K C.s "own"
 na_steps:fP K C.s "steps"
 na_queue:fP K C.s "queue"
 na_reached:fP K C.s "reached"
 na_best:fP K C.s "best"
 na_ends:fP K C.s "ends"
 na_begun:fP K C.s "begun"
 na_backs:fP K C.f "backs"
structure Al(K:Ac)(mg:Str->Option Ae)(C:Cc)(fa:Nat->Addr)(fb:Nat->Bo):Prop extends Tx mg,Kc K mg C where
 x0:Df K mg "made_of" CL ["text","signs"] (fa 0) (fb 0)
 x1:Df K mg "is_name" CM ["part"] (fa 1) (fb 1)
 x2:Df K mg "names" CN ["grammar"] (fa 2) (fb 2)
 x3:Df K mg "first_name" CO ["grammar"] (fa 3) (fb 3)
 x4:Df K mg "rules_of" CP ["grammar","name"] (fa 4) (fb 4)
 x5:Df K mg "check_rule" CQ ["rule","known"] (fa 5) (fb 5)
 x6:Df K mg "grammar_of" CS ["rules"] (fa 6) (fb 6)
 x7:Df K mg "marks" CU ["things"] (fa 7) (fb 7)
 x8:Di K C.q "__init__" "Queue.__init__" CV ["self"] (fa 8) (fb 8)
 x9:Dm K C.q "is_done" "Queue.is_done" CW ["self"] (fa 9) (fb 9)
 x10:Dm K C.q "place_of" "Queue.place_of" CZ ["self","cost"] (fa 10) (fb 10)
 x11:Dm K C.q "put" "Queue.put" CY ["self","cost","thing"] (fa 11) (fb 11)
 x12:Dm K C.q "take" "Queue.take" C0 ["self"] (fa 12) (fb 12)
 x13:Df K mg "added" C1 ["cost","other"] (fa 13) (fb 13)
 x14:Di K C.s "__init__" "Search.__init__" C2 ["self","grammar","steps"] (fa 14) (fb 14)
 x15:Dm K C.s "reach" "Search.reach" C3 ["self","number","cut","cost"] (fa 15) (fb 15)
 x16:Dm K C.s "settle" "Search.settle" C6 ["self","number","cut","cost"] (fa 16) (fb 16)
 x17:Dm K C.s "step_by_name" "Search.step_by_name" C5 ["self","number","cut","cost","key"] (fa 17) (fb 17)
 x18:Dm K C.s "take_next" "Search.take_next" C4 ["self"] (fa 18) (fb 18)
 x19:Df K mg "least_trees" C7 ["grammar","places","steps","weights"] (fa 19) (fb 19)
 x20:Df K mg "no_weights" C8 ["grammar"] (fa 20) (fb 20)
 x21:Df K mg "words_of" C9 ["grammar"] (fa 21) (fb 21)
 x22:Df K mg "shortest_lengths" DA ["grammar"] (fa 22) (fb 22)
 x23:Df K mg "slots" DB ["parts"] (fa 23) (fb 23)
 x24:Di K C.f "__init__" "Plainer.__init__" DC ["self"] (fa 24) (fb 24)
 x25:Dm K C.f "put_rule" "Plainer.put_rule" DD ["self","name","parts","pieces"] (fa 25) (fb 25)
 x26:Dm K C.f "grammar_and_backs" "Plainer.grammar_and_backs" DE ["self"] (fa 26) (fb 26)
 x27:Df K mg "nothing_read" DF ["grammar"] (fa 27) (fb 27)
 x28:Df K mg "check_no_empty" DG ["grammar"] (fa 28) (fb 28)
 x29:Df K mg "is_single" DH ["own","rule"] (fa 29) (fb 29)
 x30:Df K mg "single_chains" DJ ["grammar","own","name"] (fa 30) (fb 30)
 x31:Df K mg "chain_pieces" DK ["chain","number","parts"] (fa 31) (fb 31)
 x32:Df K mg "put_chained" DL ["plain","grammar","name","fruitful"] (fa 32) (fb 32)
 x33:Df K mg "no_single" DM ["grammar"] (fa 33) (fb 33)
 x34:Df K mg "_law_cell_at" DN ["script","k"] (fa 34) (fb 34)
 x35:Df K mg "_law_stir" DO ["cell","k"] (fa 35) (fb 35)
 x36:Df K mg "_law_drawn" DP ["cell","sizes"] (fa 36) (fb 36)
 x37:Df K mg "_law_unlike" DQ ["number","many","great"] (fa 37) (fb 37)
 x38:Df K mg "_law_rule" DR ["cell","heads","words","most"] (fa 38) (fb 38)
 x39:Df K mg "_law_rules" DS ["cells","many","most"] (fa 39) (fb 39)
 x40:Df K mg "_law_is_name" DT ["part"] (fa 40) (fb 40)
 x41:Df K mg "_law_costless" DU ["rules"] (fa 41) (fb 41)
 x42:Df K mg "_law_new_names" DV ["rules","told"] (fa 42) (fb 42)
 x43:Df K mg "_law_full" DW ["script"] (fa 43) (fb 43)
 x44:Df K mg "law" DX ["script"] (fa 44) (fb 44)
section
variable {P:Ay}{w:Bq}{K:Ac}{mg:Str->Option Ae}{base:Heap}{C:Cc}{fa:Nat->Addr}{fb:Nat->Bo}(Y:Al K mg C fa fb)
seal L2.PE L2.PA L2.PS L2.fW L2.PT L2.PG L2.PI L2.PO
def PZ:=b8 P w mg base 0 Y.x0.fn Y.x0.bi b7 zcY zda fun hr a nd=>(aT (bW (v_and (iU (j5 hr.units) (v 0) kN) (oW (cP (IP rfl) (by rfl) Y.all_ JI (aC (dB (i9 ["sign","signs"] [none,some 1] (dO (v 0)) (fun B=>(gC (i:=0))) (fun B=>i8) (fun B=>(iU (lU a) (v 0) (v 1))))) aJ))))))
def zix:=b8 P w mg base 1 Y.x1.fn Y.x1.bi b7 zcZ zdd fun hr e nd=>Y.c_GREAT_LETTERS.elim fun c a=>Y.c_FIGURES.elim fun d b=>(aP (bD (i:=1) nd (eW F.plainAttrs_str Mq F.type_str_partition m_partition (v 0) (aC kN aJ)))
   (aP (bD (i:=2) nd (v_or (iU (fI hr.units) (aS e (v 1) aK) kN) (oW (bP (PZ Y) Y.x0 hr (aC (aS e (v 1) aK) (aC (HV (y:=V.str "0123456789") (by rfl) b ⟨_,rfl⟩ (fun _ _=>.str _)) aJ))))))
   (aT (bW (v_and (v 2) (oW (bP (PZ Y) Y.x0 hr (aC (aS e (v 1) aK) (aC (HV (y:=V.str "ABCDEFGHIJKLMNOPQRSTUVWXYZ") (by rfl) a ⟨_,rfl⟩ (fun _ _=>.str _)) aJ)))))))))
def sC:=b8 P w mg base 0 Y.x2.fn Y.x2.bi b7 zc0 zde fun hr a nd=>(aP (bD (i:=1) nd IS)
   (aP (eI Bv rfl (dO (v 0)) (cD (i:=2) nd)
    (aT (kW fQ (w_sub a (v 1) (aS a (v 2) aK)))))
   (aT (bW (jL (xT rfl) (by rfl) Y.list_ lY (aC (v 1) aJ))))))
def CI:=b8 P w mg base 0 Y.x3.fn Y.x3.bi b7 zc1 zdf fun hr a nd=>(aT (bW (aS a (aS a (v 0) aK) aK)))
def P0:=b8 P w mg base 0 Y.x4.fn Y.x4.bi b7 zh2 zid fun hr a nd=>(aT (bW (i9 ["number","rule","name"] [none,none,some 1] (za0 (by rfl) Y.enumerate_ (aC (v 0) aJ)) (fun B=>(kU rfl (eJ (gC (i:=0)) (eJ (gC (i:=1)) kT)))) (fun B=>(tT (bY (fI hr.units) (aS a (v 1) aK) (v 2)))) (fun B=>(v 0)))))
def ziy:=b8 P w mg base 2 Y.x5.fn Y.x5.bi b7 zc2 zdg fun hr a nd=>(aP (cS (bY tH (aS a (v 0) aK) aK)
    (aT tP)
    dE)
   (aT (eI Bv rfl (dO (aS a (v 0) aK)) (cD (i:=2) nd)
    (aT (cS (PW.pt (jJ (fH (bP (zix Y) Y.x1 hr (aC (v 2) aJ))) (j3 (bY (jM a) (v 2) (v 1)))))
    (aT tP)
    dE)))))
def P1:=b8 P w mg base 3 Y.x6.fn Y.x6.bi b7 zgN zgS fun hr a nd=>(aP (cS (bY (fI hr.units) (cP d3 (by rfl) Y.len_ d6 (aC (v 0) aJ)) aK)
    (aT tP)
    dE)
   (aP (bD (i:=1) nd (dB (bP (sC Y) Y.x2 hr (aC (v 0) aJ))))
   (aP (eI Bv rfl (dO (v 0)) (cD (i:=2) nd)
    (aT (dG (bP (ziy Y) Y.x5 hr (aC (v 2) (aC (v 1) aJ))))))
   (aT (bW (jL (xT rfl) (by rfl) Y.list_ lY (aC (v 0) aJ)))))))
def CJ:=b8 P w mg base 0 Y.x7.fn Y.x7.bi b7 zfR zfZ fun hr a nd=>(aT (bW (jL (zdt rfl) (by rfl) Y.dict_ yJ (aC (dB (i9 ["thing"] [none] (dO (v 0)) (fun B=>(gC (i:=0))) (fun B=>i8) (fun B=>(bU (aC (v 0) (aC fQ aJ)))))) aJ))))
def ziz:=b8 P w mg base 0 Y.x8.fn Y.x8.bi b7 zeU ze0 fun hr a nd=>(aP (j8 Y.cls_Queue Y.na_costs (v 0) (lN aJ))
   (aT (j8 Y.cls_Queue Y.na_waiting (v 0) qO)))
def ziA:=b8 P w mg base 0 Y.x9.fn Y.x9.bi b7 zeV zeZ fun hr a nd=>(aT (bW (iU (fI hr.units) (cP d3 (by rfl) Y.len_ d6 (aC (dC Y.cls_Queue Y.na_costs (v 0)) aJ)) aK)))
def ziB:=b8 P w mg base 0 Y.x10.fn Y.x10.bi b7 zeW ze1 fun hr a nd=>(aP (bD (i:=2) nd aK)
   (aP (bD (i:=3) nd (cP d3 (by rfl) Y.len_ d6 (aC (dC Y.cls_Queue Y.na_costs (v 0)) aJ)))
   (aP (xX Bv (bY tH (v 2) (v 3))
    (aP (bD (i:=4) nd (bA lQ (bA eQ (v 2) (v 3)) aK))
   (aT (cS (bY (zet a) (aS a (dC Y.cls_Queue Y.na_costs (v 0)) (v 4)) (v 1))
    (aT (bD (i:=2) nd (bA eQ (v 4) aK)))
    (aT (bD (i:=3) nd (v 4)))))))
   (aT (bW (v 2))))))
def ziC:=b8 P w mg base 1 Y.x11.fn Y.x11.bi b7 zeX ze2 fun hr a nd=>(aP (cS (bY (jM a) (v 1) (dC Y.cls_Queue Y.na_waiting (v 0)))
    (aP (kW (lN aJ) (w_sub a (dC Y.cls_Queue Y.na_waiting (v 0)) (v 1)))
   (aT (dG (eW Cj F.slot_list_insert F.type_list_insert zeu (dC Y.cls_Queue Y.na_costs (v 0)) (aC (kZ Y.cls_Queue Y.x10.me (ziB Y) (hr.mono (by decide)) Y.x10.bi (v 0) (aC (v 1) aJ)) (aC (v 1) aJ))))))
    dE)
   (aT (dG (eW Cj Dd Dn jN (aS a (dC Y.cls_Queue Y.na_waiting (v 0)) (v 1)) (aC (v 2) aJ)))))
def ziD:=b8 P w mg base 0 Y.x12.fn Y.x12.bi b7 zeY ze3 fun hr a nd=>(aP (bD (i:=1) nd (aS a (dC Y.cls_Queue Y.na_costs (v 0)) (lL lS aK)))
   (aP (bD (i:=2) nd (aS a (dC Y.cls_Queue Y.na_waiting (v 0)) (v 1)))
   (aP (bD (i:=3) nd (qJ Cj Ka F.type_list_pop IQ (v 2)))
   (aP (cS (bY (fI hr.units) (cP d3 (by rfl) Y.len_ d6 (aC (v 2) aJ)) aK)
    (aP (dG (qJ Cj Ka F.type_list_pop IQ (dC Y.cls_Queue Y.na_costs (v 0))))
   (aT (dG (eW Hk F.slot_dict_pop F.type_dict_pop (zdB a) (dC Y.cls_Queue Y.na_waiting (v 0)) (aC (v 1) aJ)))))
    dE)
   (aT (bW (bU (aC (v 1) (aC (v 3) aJ)))))))))
def P2:=b8 P w mg base 0 Y.x13.fn Y.x13.bi b7 zfS zf0 fun hr a nd=>(aT (bW (bU (aC (bA eQ (aS a (v 0) aK) (aS a (v 1) aK)) (aC (bA eQ (aS a (v 0) aK) (aS a (v 1) aK)) aJ)))))
def ziE:=b8 P w mg base 2 Y.x14.fn Y.x14.bi b7 zfX zf8 fun hr a nd=>(aP (j8 Y.cls_Search Y.na_grammar (v 0) (v 1))
   (aP (j8 Y.cls_Search Y.na_own (v 0) (bP (CJ Y) Y.x7 hr (aC (dB (bP (sC Y) Y.x2 hr (aC (v 1) aJ))) aJ)))
   (aP (j8 Y.cls_Search Y.na_steps (v 0) (v 2))
   (aP (j8 Y.cls_Search Y.na_queue (v 0) (zI Y.x8.mak (ziz Y) (hr.mono (by decide)) (by rfl) Y.at__Queue Y.x8.bi))
   (aP (j8 Y.cls_Search Y.na_reached (v 0) qO)
   (aP (j8 Y.cls_Search Y.na_best (v 0) qO)
   (aP (j8 Y.cls_Search Y.na_ends (v 0) qO)
   (aT (j8 Y.cls_Search Y.na_begun (v 0) qO)))))))))
def v8:=b8 P w mg base 2 Y.x15.fn Y.x15.bi b7 zfT zf2 fun hr a nd=>(aP (bD (i:=4) nd (bU (aC (v 1) (aC (cP d3 (by rfl) Y.len_ d6 (aC (v 2) aJ)) (aC (aS a (v 2) aK) (aC (aS a (v 2) (lL lS aK)) aJ))))))
   (aT (cS (PW.pt (iY (bY (jM a) (v 4) (dC Y.cls_Search Y.na_reached (v 0))) (kP (bY (L1 a) (v 3) (aS a (dC Y.cls_Search Y.na_reached (v 0)) (v 4))))))
    (aP (kW (v 3) (w_sub a (dC Y.cls_Search Y.na_reached (v 0)) (v 4)))
   (aT (dG (kZ Y.cls_Queue Y.x11.me (ziC Y) (hr.mono (by decide)) Y.x11.bi (dC Y.cls_Search Y.na_queue (v 0)) (aC (v 3) (aC (bU (aC (v 1) (aC (v 2) aJ))) aJ))))))
    dE)))
def ziF:=b8 P w mg base 3 Y.x16.fn Y.x16.bi b7 zfV zf5 fun hr a nd=>(aP (bD (i:=4) nd (bU (aC (aS a (aS a (dC Y.cls_Search Y.na_grammar (v 0)) (v 1)) aK) (aC (aS a (v 2) aK) aJ))))
   (aP (bD (i:=5) nd (bA eQ (v 4) (bU (aC (aS a (v 2) (lL lS aK)) aJ))))
   (aP (cS (bY (lU a) (v 5) (dC Y.cls_Search Y.na_best (v 0)))
    (aT IV)
    dE)
   (aP (kW (bU (aC (v 3) (aC (v 1) (aC (v 2) aJ)))) (w_sub a (dC Y.cls_Search Y.na_best (v 0)) (v 5)))
   (aP (dG (eW Cj Dd Dn jN (eW Hk F.slot_dict_setdefault F.type_dict_setdefault (K1 a) (dC Y.cls_Search Y.na_ends (v 0)) (aC (v 4) (aC (lN aJ) aJ))) (aC (bU (aC (aS a (v 2) (lL lS aK)) (aC (v 3) aJ))) aJ)))
   (aT (eI Bv rfl (qQ (eW Hk F.slot_dict_get F.type_dict_get (zJ a) (dC Y.cls_Search Y.na_begun (v 0)) (aC (v 4) (aC (gU aJ) aJ)))) (kU rfl (eJ (cD (i:=6) nd) (eJ (cD (i:=7) nd) (eJ (cD (i:=8) nd) kT))))
    (aT (dG (kZ Y.cls_Search Y.x15.me (v8 Y) (hr.mono (by decide)) Y.x15.bi (v 0) (aC (v 6) (aC (bA eQ (v 7) (bU (aC (aS a (v 2) (lL lS aK)) aJ))) (aC (bP (P2 Y) Y.x13 hr (aC (v 8) (aC (v 3) aJ))) aJ)))))))))))))
def ziG:=b8 P w mg base 3 Y.x17.fn Y.x17.bi b7 zfU zf3 fun hr a nd=>(aP (dG (eW Cj Dd Dn jN (eW Hk F.slot_dict_setdefault F.type_dict_setdefault (K1 a) (dC Y.cls_Search Y.na_begun (v 0)) (aC (v 4) (aC (lN aJ) aJ))) (aC (bU (aC (v 1) (aC (v 2) (aC (v 3) aJ)))) aJ)))
   (aT (eI Bv rfl (qQ (eW Hk F.slot_dict_get F.type_dict_get (zJ a) (dC Y.cls_Search Y.na_ends (v 0)) (aC (v 4) (aC (gU aJ) aJ)))) (kU rfl (eJ (cD (i:=5) nd) (eJ (cD (i:=6) nd) kT)))
    (aT (dG (kZ Y.cls_Search Y.x15.me (v8 Y) (hr.mono (by decide)) Y.x15.bi (v 0) (aC (v 1) (aC (bA eQ (v 2) (bU (aC (v 5) aJ))) (aC (bP (P2 Y) Y.x13 hr (aC (v 3) (aC (v 6) aJ))) aJ)))))))))
def ziH:=b8 P w mg base 4 Y.x18.fn Y.x18.bi b7 zfW zf6 fun hr a nd=>(aP (bD (i:=1) nd (rD Y.cls_Queue Y.x12.me (ziD Y) (hr.mono (by decide)) Y.x12.bi (dC Y.cls_Search Y.na_queue (v 0))))
   (aP (bD (i:=2) nd (aS a (v 1) aK))
   (aP (bD (i:=3) nd (aS a (aS a (v 1) aK) aK))
   (aP (bD (i:=4) nd (aS a (aS a (v 1) aK) aK))
   (aP (cS (bY (L1 a) (aS a (dC Y.cls_Search Y.na_reached (v 0)) (bU (aC (v 3) (aC (cP d3 (by rfl) Y.len_ d6 (aC (v 4) aJ)) (aC (aS a (v 4) aK) (aC (aS a (v 4) (lL lS aK)) aJ)))))) (v 2))
    (aT IV)
    dE)
   (aP (bD (i:=5) nd (aS a (aS a (dC Y.cls_Search Y.na_grammar (v 0)) (v 3)) aK))
   (aT (cS (bY Y1 (cP d3 (by rfl) Y.len_ d6 (aC (v 4) aJ)) (cP d3 (by rfl) Y.len_ d6 (aC (v 5) aJ)))
    (aT (dG (kZ Y.cls_Search Y.x16.me (ziF Y) (hr.mono (by decide)) Y.x16.bi (v 0) (aC (v 3) (aC (v 4) (aC (v 2) aJ))))))
    (aT (cS (bY (lU a) (aS a (v 5) (bA nQ (cP d3 (by rfl) Y.len_ d6 (aC (v 4) aJ)) aK)) (dC Y.cls_Search Y.na_own (v 0)))
    (aT (dG (kZ Y.cls_Search Y.x17.me (ziG Y) (hr.mono (by decide)) Y.x17.bi (v 0) (aC (v 3) (aC (v 4) (aC (v 2) (aC (bU (aC (aS a (v 5) (bA nQ (cP d3 (by rfl) Y.len_ d6 (aC (v 4) aJ)) aK)) (aC (aS a (v 4) (lL lS aK)) aJ))) aJ)))))))
    (aT (eI Bv rfl (qQ (eW Hk F.slot_dict_get F.type_dict_get (zJ a) (dC Y.cls_Search Y.na_steps (v 0)) (aC (bU (aC (aS a (v 5) (bA nQ (cP d3 (by rfl) Y.len_ d6 (aC (v 4) aJ)) aK)) (aC (aS a (v 4) (lL lS aK)) aJ))) (aC (gU aJ) aJ)))) (kU rfl (eJ (cD (i:=6) nd) (eJ (cD (i:=7) nd) kT)))
    (aT (dG (kZ Y.cls_Search Y.x15.me (v8 Y) (hr.mono (by decide)) Y.x15.bi (v 0) (aC (v 3) (aC (bA eQ (v 4) (bU (aC (v 6) aJ))) (aC (bU (aC (bA eQ (aS a (v 2) aK) (v 7)) (aC (aS a (v 2) aK) aJ))) aJ))))))))))))))))))
def ziI:=b8 P w mg base 5 Y.x19.fn Y.x19.bi b7 zfY zge fun hr a nd=>(aP (bD (i:=4) nd (zdw Y.x14.mak (ziE Y) (hr.mono (by decide)) (by rfl) Y.at__Search Y.x14.bi (aC (v 0) (aC (v 2) aJ))))
   (aP (eI Bv rfl (yA (by rfl) Y.range_ (aC (cP d3 (by rfl) Y.len_ d6 (aC (v 0) aJ)) aJ)) (cD (i:=5) nd)
    (aT (eI Bv rfl (dO (v 1)) (cD (i:=6) nd)
    (aT (dG (kZ Y.cls_Search Y.x15.me (v8 Y) (hr.mono (by decide)) Y.x15.bi (v 4) (aC (v 5) (aC (bU (aC (v 6) aJ)) (aC (bU (aC (aS a (v 3) (v 5)) (aC aK aJ))) aJ)))))))))
   (aP (xX Bv (jK (fH (rD Y.cls_Queue Y.x9.me (ziA Y) (hr.mono (by decide)) Y.x9.bi (dC Y.cls_Search Y.na_queue (v 4)))))
    (aT (dG (rD Y.cls_Search Y.x18.me (ziH Y) (hr.mono (by decide)) Y.x18.bi (v 4)))))
   (aT (bW (dC Y.cls_Search Y.na_best (v 4)))))))
def ziJ:=b8 P w mg base 0 Y.x20.fn Y.x20.bi b7 zg8 zhb fun hr a nd=>(aT (bW (i9 ["rule"] [none] (dO (v 0)) (fun B=>(gC (i:=0))) (fun B=>i8) (fun B=>aK))))
def ziK:=b8 P w mg base 1 Y.x21.fn Y.x21.bi b7 zg9 zhc fun hr a nd=>(aP (bD (i:=1) nd (bP (CJ Y) Y.x7 hr (aC (dB (bP (sC Y) Y.x2 hr (aC (v 0) aJ))) aJ)))
   (aP (bD (i:=2) nd IS)
   (aP (eI Bv rfl (dO (v 0)) (cD (i:=3) nd)
    (aT (eI Bv rfl (dO (aS a (v 3) aK)) (cD (i:=4) nd)
    (aT (cS (bY (jM a) (v 4) (v 1))
    (aT (kW fQ (w_sub a (v 2) (v 4))))
    dE)))))
   (aT (bW (cP (zcr rfl) (by rfl) Y.sorted_ zak (aC (dB (v 2)) aJ)))))))
def ziL:=b8 P w mg base 6 Y.x22.fn Y.x22.bi b7 zha zhf fun hr a nd=>(aP (bD (i:=1) nd (dB (jL (zgl rfl (LJ hr)) (by rfl) Y.dict_ yJ (aC (dB (i9 ["word"] [none] (dO (bP (ziK Y) Y.x21 hr (aC (v 0) aJ))) (fun B=>(gC (i:=0))) (fun B=>i8) (fun B=>(bU (aC (bU (aC (v 0) (aC aK aJ))) (aC (gU (aC (bU (aC aK (aC aK aJ))) aJ)) aJ)))))) aJ))))
   (aP (bD (i:=2) nd (MU (bP (ziI Y) Y.x19 hr (aC (v 0) (aC (gU (aC aK aJ)) (aC (v 1) (aC (dB (bP (ziJ Y) Y.x20 hr (aC (v 0) aJ))) aJ)))))))
   (aT (bW (jL (zds rfl) (by rfl) Y.dict_ yJ (aC (dB (i9 ["fact","best"] [none,some 2] (zgk (v 2)) (fun B=>(gC (i:=0))) (fun B=>i8) (fun B=>(bU (aC (aS a (v 0) aK) (aC (aS a (aS a (aS a (v 1) (v 0)) aK) aK) aJ)))))) aJ))))))
def ziM:=b8 P w mg base 0 Y.x23.fn Y.x23.bi b7 zgO zgT fun hr a nd=>(aT (bW (zdP (by rfl) Y.tuple_ (by rfl) Y.range_ (cP d3 (by rfl) Y.len_ d6 (aC (v 0) aJ)))))
def P4:=b8 P w mg base 0 Y.x24.fn Y.x24.bi b7 zgP zgU fun hr a nd=>(aT (j8 Y.cls_Plainer Y.na_backs (v 0) (zdG (tl:=[0]))))
def P5:=b8 P w mg base 0 Y.x25.fn Y.x25.bi b7 zgQ zgV fun hr a nd=>(aT (dG (zdJ (tl:=[0]) (LJ hr) (dC Y.cls_Plainer Y.na_backs (v 0)) (bU (aC (v 1) (aC (v 2) (aC aK aJ)))) (v 3))))
def P6:=b8 P w mg base 0 Y.x26.fn Y.x26.bi b7 zgR zgW fun hr a nd=>(aT (bW (bU (aC (jL (K9 (tl:=[0]) rfl) (by rfl) Y.list_ lY (aC (dC Y.cls_Plainer Y.na_backs (v 0)) aJ)) (aC (jL (K9 (tl:=[0]) rfl) (by rfl) Y.list_ lY (aC (zdL (tl:=[0]) (dC Y.cls_Plainer Y.na_backs (v 0))) aJ)) aJ)))))
def ziN:=b8 P w mg base 2 Y.x27.fn Y.x27.bi b7 zh8 zim fun hr a nd=>(aP (bD (i:=1) nd (bP (CI Y) Y.x3 hr (aC (v 0) aJ)))
   (aP (bD (i:=2) nd (zI Y.x24.mak (P4 Y) (hr.mono (by decide)) (by rfl) Y.at__Plainer Y.x24.bi))
   (aP (dG (kZ Y.cls_Plainer Y.x25.me (P5 Y) (hr.mono (by decide)) Y.x25.bi (v 2) (aC (v 1) (aC (bU (aC (v 1) (aC (v 1) aJ))) (aC (bU (aC (bU (aC aK (aC (bU (aC aK (aC aK aJ))) aJ))) aJ)) aJ)))))
   (aT (bW (rD Y.cls_Plainer Y.x26.me (P6 Y) (hr.mono (by decide)) Y.x26.bi (v 2)))))))
def ziO:=b8 P w mg base 1 Y.x28.fn Y.x28.bi b7 zh3 zig fun hr a nd=>(aP (bD (i:=1) nd (bP (CI Y) Y.x3 hr (aC (v 0) aJ)))
   (aP (bD (i:=2) nd (cP (zaZ rfl) (by rfl) Y.any_ zaj (aC (dB (i9 ["rule","first"] [none,some 1] (dO (v 0)) (fun B=>(gC (i:=0))) (fun B=>i8) (fun B=>(iU (lU a) (v 1) (aS a (v 0) aK))))) aJ)))
   (aT (eI Bv rfl (dO (v 0)) (cD (i:=3) nd)
    (aT (cS (PW.pt (jJ (bY (fI hr.units) (aS a (v 3) aK) (bU aJ)) (j3 (PW.pt (iY (bY (j5 hr.units) (aS a (v 3) aK) (v 1)) (kP (fH (v 2))))))))
    (aT tP)
    dE))))))
def P7:=b8 P w mg base 0 Y.x29.fn Y.x29.bi b7 zh4 zie fun hr a nd=>(aT (bW (v_and (iU (fI hr.units) (cP d3 (by rfl) Y.len_ d6 (aC (aS a (v 1) aK) aJ)) aK) (oW (iU (lU a) (aS a (aS a (v 1) aK) aK) (v 0))))))
def ziP:=b8 P w mg base 1 Y.x30.fn Y.x30.bi b7 zh5 zij fun hr a nd=>(aP (bD (i:=3) nd (zhu (v 2) (bU aJ)))
   (aP (bD (i:=4) nd (lN (aC (v 2) aJ)))
   (aP (xX Bv (fH (v 4))
    (aP (bD (i:=5) nd (eW Cj Ka F.type_list_pop zhs (v 4) (aC aK aJ)))
   (aT (eI Bv rfl (dO (dB (bP (P0 Y) Y.x4 hr (aC (v 0) (aC (v 5) aJ))))) (cD (i:=6) nd)
    (aP (bD (i:=7) nd (YO (fH (bP (P7 Y) Y.x29 hr (aC (v 1) (aC (aS a (v 0) (v 6)) aJ)))) (aS a (aS a (aS a (v 0) (v 6)) aK) aK) (v 5)))
   (aT (cS (bY (jM a) (v 7) (v 3))
    (aP (kW (bA zhr (aS a (v 3) (v 5)) (bU (aC (v 6) aJ))) (w_sub a (v 3) (v 7)))
   (aT (dG (eW Cj Dd Dn jN (v 4) (aC (v 7) aJ)))))
    dE)))))))
   (aT (bW (v 3))))))
def ziQ:=b8 P w mg base 1 Y.x31.fn Y.x31.bi b7 zh6 zif fun hr a nd=>(aP (bD (i:=3) nd (bU (aC (bU (aC (v 1) (aC (bP (ziM Y) Y.x23 hr (aC (v 2) aJ)) aJ))) aJ)))
   (aP (eI Bv rfl (zht (by rfl) Y.reversed_ (aC (v 0) aJ)) (cD (i:=4) nd)
    (aT (bD (i:=3) nd (bU (aC (bU (aC (v 4) (aC (v 3) aJ))) aJ)))))
   (aT (bW (v 3)))))
def ziR:=b8 P w mg base 2 Y.x32.fn Y.x32.bi b7 zh7 zil fun hr a nd=>(aP (bD (i:=4) nd (bP (CJ Y) Y.x7 hr (aC (dB (bP (sC Y) Y.x2 hr (aC (v 1) aJ))) aJ)))
   (aT (eI Bv rfl (zhm (MU (bP (ziP Y) Y.x30 hr (aC (v 1) (aC (v 4) (aC (v 2) aJ)))))) (kU rfl (eJ (cD (i:=5) nd) (eJ (cD (i:=6) nd) kT)))
    (aT (eI Bv rfl (dO (dB (bP (P0 Y) Y.x4 hr (aC (v 1) (aC (v 5) aJ))))) (cD (i:=7) nd)
    (aP (bD (i:=8) nd (aS a (aS a (v 1) (v 7)) aK))
   (aP (bD (i:=9) nd (cP (IP rfl) (by rfl) Y.all_ JI (aC (dB (i9 ["part","fruitful","own"] [none,some 3,some 4] (dO (v 8)) (fun B=>(gC (i:=0))) (fun B=>i8) (fun B=>(v_or (iU (lU a) (v 0) (v 1)) (oW (iU (jM a) (v 0) (v 2))))))) aJ)))
   (aT (cS (PW.pt (jJ (fH (v 9)) (j3 (jK (fH (bP (P7 Y) Y.x29 hr (aC (v 4) (aC (aS a (v 1) (v 7)) aJ))))))))
    (aT (dG (kZ Y.cls_Plainer Y.x25.me (P5 Y) (hr.mono (by decide)) Y.x25.bi (v 0) (aC (v 2) (aC (v 8) (aC (bP (ziQ Y) Y.x31 hr (aC (v 6) (aC (v 7) (aC (v 8) aJ)))) aJ))))))
    dE)))))))))
def P8:=b8 P w mg base 7 Y.x33.fn Y.x33.bi b7 zh9 zin fun hr a nd=>(aP (dG (bP (ziO Y) Y.x28 hr (aC (v 0) aJ)))
   (aP (bD (i:=1) nd (dB (bP (ziL Y) Y.x22 hr (aC (v 0) aJ))))
   (aP (cS (bY (jM a) (bP (CI Y) Y.x3 hr (aC (v 0) aJ)) (v 1))
    (aT (bW (bP (ziN Y) Y.x27 hr (aC (v 0) aJ))))
    dE)
   (aP (bD (i:=2) nd (zI Y.x24.mak (P4 Y) (hr.mono (by decide)) (by rfl) Y.at__Plainer Y.x24.bi))
   (aP (eI Bv rfl (dO (dB (bP (sC Y) Y.x2 hr (aC (v 0) aJ)))) (cD (i:=3) nd)
    (aT (dG (bP (ziR Y) Y.x32 hr (aC (v 2) (aC (v 0) (aC (v 3) (aC (v 1) aJ))))))))
   (aT (bW (rD Y.cls_Plainer Y.x26.me (P6 Y) (hr.mono (by decide)) Y.x26.bi (v 2)))))))))
def CK:=b8 P w mg base 0 Y.x34.fn Y.x34.bi b7 zc3 zdh fun hr a nd=>(aP (cS (bY tH (v 1) (cP d3 (by rfl) Y.len_ d6 (aC (v 0) aJ)))
    (aT (bW (aS a (v 0) (v 1))))
    dE)
   (aT (bW aK)))
def ziS:=b8 P w mg base 0 Y.x35.fn Y.x35.bi b7 zc4 zdi fun hr a nd=>(aP (bD (i:=2) nd (bA eQ (bA eQ (bA mT (bA i0 (v 0) (bA lR aK aK)) aK) (bA mT (bA mT (bA lR aK aK) (bA eQ (v 1) aK)) (bA eQ (v 1) aK))) (v 1)))
   (aP (bD (i:=2) nd (bA eQ (bA mT (v 2) (v 2)) (bA mT aK (v 2))))
   (aT (bW (bA lQ (bA i0 (bA mT (v 2) (v 2)) (bA eQ (bA lR aK aK) aK)) aK)))))
def v9:=b8 P w mg base 1 Y.x36.fn Y.x36.bi b7 zc5 zdk fun hr a nd=>(aP (bD (i:=2) nd (lN aJ))
   (aP (bD (i:=3) nd (bA nQ (v 0) (bA lR aK aK)))
   (aP (eI Bv rfl (yA (by rfl) Y.range_ (aC (cP d3 (by rfl) Y.len_ d6 (aC (v 1) aJ)) aJ)) (cD (i:=4) nd)
    (aT (cS (bY Y2 (v 0) (bA lR aK aK))
    (aP (dG (eW Cj Dd Dn jN (v 2) (aC (bA i0 (v 3) (aS a (v 1) (v 4))) aJ)))
   (aT (bD (i:=3) nd (bA lQ (v 3) (aS a (v 1) (v 4))))))
    (aT (dG (eW Cj Dd Dn jN (v 2) (aC (bA i0 (bP (ziS Y) Y.x35 hr (aC (v 0) (aC (v 4) aJ))) (aS a (v 1) (v 4))) aJ)))))))
   (aT (bW (v 2))))))
def P9:=b8 P w mg base 0 Y.x37.fn Y.x37.bi b7 zc6 zdl fun hr a nd=>(aP (bD (i:=3) nd kN)
   (aP (cS (fH (v 2))
    (aT (bD (i:=3) nd (qJ F.plainAttrs_str F.slot_str_upper F.type_str_upper m_upper (v 3))))
    dE)
   (aP (bD (i:=4) nd (aS a (v 3) (bA i0 (v 0) aK)))
   (aP (bD (i:=5) nd (bA eQ aK (bA i0 (bA lQ (v 0) aK) aK)))
   (aP (bD (i:=6) nd (bA i0 (bA lQ (v 0) aK) (v 5)))
   (aP (bD (i:=7) nd (bA i0 (bA lQ (v 0) aK) aK))
   (aP (bD (i:=8) nd (lN aJ))
   (aP (eI Bv rfl (yA (by rfl) Y.range_ (aC (v 1) aJ)) (cD (i:=9) nd)
    (aP (bD (i:=10) nd (aS a (v 3) (bA i0 (bA eQ (v 7) (bA mT aK (v 9))) aK)))
   (aP (dG (eW Cj Dd Dn jN (v 8) (aC (bA t7 (bA t7 (bA JY (v 4) (v 6)) (v 10)) (bA JY (v 4) (bA nQ (bA nQ (v 5) (v 6)) aK))) aJ)))
   (aT (cS (PW.pt (jJ (fH (v 2)) (jJ (bY (fI hr.units) (bA i0 (bA lQ (v 0) aK) aK) aK) (j3 (bY (fI hr.units) (bA YY (bA YX (bA lQ (v 0) aK) (v 9)) aK) aK)))))
    (aT (kW (bA t7 (bA t7 (aS a (v 8) (v 9)) kN) (jL ZN (by rfl) Y.str_ zah (aC (bA i0 (bA lQ (v 0) aK) aK) aJ))) (w_sub a (v 8) (v 9))))
    dE)))))
   (aT (bW (v 8)))))))))))
def ziT:=b8 P w mg base 2 Y.x38.fn Y.x38.bi b7 zc7 zdo fun hr a nd=>(aP (bD (i:=4) nd (dB (bP (v9 Y) Y.x36 hr (aC (v 0) (aC (bA eQ (gU (aC (cP d3 (by rfl) Y.len_ d6 (aC (v 1) aJ)) (aC (bA eQ (v 3) aK) (aC aK (aC (bA lR aK aK) aJ))))) (bA mT (gU (aC aK aJ)) (v 3))) aJ)))))
   (aP (bD (i:=5) nd (lN aJ))
   (aP (eI Bv rfl (dO (yF (v 4) (qN aK) (qN (bA eQ aK (aS a (v 4) aK))))) (cD (i:=6) nd)
    (aT (cS (bY tH (v 6) aK)
    (aT (dG (eW Cj Dd Dn jN (v 5) (aC (aS a (v 2) (v 6)) aJ))))
    (aT (dG (eW Cj Dd Dn jN (v 5) (aC (aS a (v 1) (bA i0 (bA eQ (bA nQ (v 6) aK) (aS a (v 4) aK)) (cP d3 (by rfl) Y.len_ d6 (aC (v 1) aJ)))) aJ)))))))
   (aT (bW (bU (aC (aS a (v 1) (aS a (v 4) aK)) (aC (jL ZM (by rfl) Y.tuple_ tW (aC (v 5) aJ)) (aC (bA i0 (aS a (v 4) aK) (aS a (gU (aC aK (aC aK (aC (bA lR aK aK) aJ)))) (aS a (v 4) aK))) aJ)))))))))
def ziU:=b8 P w mg base 3 Y.x39.fn Y.x39.bi b7 zc8 zdp fun hr a nd=>(aP (kW (dB (bP (v9 Y) Y.x36 hr (aC (bP (CK Y) Y.x34 hr (aC (v 0) (aC aK aJ))) (aC (gU (aC (bA lR aK aK) (aC (bA lR aK aK) aJ))) aJ)))) (kU rfl (eJ (cD (i:=3) nd) (eJ (cD (i:=4) nd) kT))))
   (aP (bD (i:=5) nd (dB (bP (P9 Y) Y.x37 hr (aC (v 3) (aC (v 1) (aC fQ aJ))))))
   (aP (bD (i:=6) nd (dB (bP (P9 Y) Y.x37 hr (aC (v 4) (aC aK (aC fQ aJ))))))
   (aP (zhg (i:=7) nd ["cell","heads","words","most"] [none,some 5,some 6,some 2] (dO (yF (v 0) (qN aK) ZE)) (fun B=>(gC (i:=0))) (fun B=>i8) (fun B=>(bP (ziT Y) Y.x38 hr (aC (v 0) (aC (v 1) (aC (v 2) (aC (v 3) aJ)))))))
   (aP (eI Bv rfl (dO (v 5)) (cD (i:=8) nd)
    (aT (cS (bY (jM a) (v 8) (dB (i9 ["rule"] [none] (dO (v 7)) (fun B=>(gC (i:=0))) (fun B=>i8) (fun B=>(aS a (v 0) aK)))))
    (aT (dG (eW Cj Dd Dn jN (v 7) (aC (bU (aC (v 8) (aC (bU (aC (aS a (v 6) aK) aJ)) (aC aK aJ)))) aJ))))
    dE)))
   (aT (bW (v 7))))))))
def QA:=b8 P w mg base 0 Y.x40.fn Y.x40.bi b7 zgX zg0 fun hr a nd=>(aT (bW (iU (lU a) (aS a (v 0) aK) kN)))
def ziV:=b8 P w mg base 1 Y.x41.fn Y.x41.bi b7 zgY zg1 fun hr a nd=>(aP (BY (i:=1) nd ["rule"] [none] (dO (v 0)) (fun B=>(gC (i:=0))) (fun B=>i8) (fun B=>(aS a (v 0) aK)))
   (aP (eI Bv rfl (dO (v 0)) (cD (i:=2) nd)
    (aP (cS (PW.pt (iY (jK (fH (cP pD (by rfl) Y.isinstance_ pF (aC (v 2) (aC (oV (by rfl) Y.tuple_ tW (y:=.ty "tuple") rfl (fun _ _=>.ty _)) aJ))))) (iY (bY (j5 hr.units) (cP d3 (by rfl) Y.len_ d6 (aC (v 2) aJ)) aK) (kP (jK (fH (cP pD (by rfl) Y.isinstance_ pF (aC (aS a (v 2) aK) (aC (oV (by rfl) Y.tuple_ tW (y:=.ty "tuple") rfl (fun _ _=>.ty _)) aJ)))))))))
    (aT (bW fQ))
    dE)
   (aP (cS (PW.pt (iY (fH (cP pD (by rfl) Y.isinstance_ pF (aC (aS a (v 2) aK) (aC (oV (by rfl) Y.bool_ zai (y:=.ty "bool") rfl (fun _ _=>.ty _)) aJ)))) (kP (bY (j5 hr.units) (aS a (v 2) aK) aK))))
    (aT (bW fQ))
    dE)
   (aT (eI Bv rfl (dO (aS a (v 2) aK)) (cD (i:=3) nd)
    (aT (cS (PW.pt (jJ (fH (bP (QA Y) Y.x40 hr (aC (v 3) aJ))) (j3 (bY (jM a) (v 3) (v 1)))))
    (aT (bW fQ))
    dE)))))))
   (aT (bW fQ))))
def ziW:=b8 P w mg base 0 Y.x42.fn Y.x42.bi b7 zgZ zg2 fun hr a nd=>(aP (BY (i:=2) nd ["rule"] [none] (dO (v 0)) (fun B=>(gC (i:=0))) (fun B=>i8) (fun B=>(aS a (v 0) aK)))
   (aP (eI Bv rfl (dO (dB (i9 ["rule"] [none] (dO (v 1)) (fun B=>(gC (i:=0))) (fun B=>i8) (fun B=>(aS a (v 0) aK))))) (cD (i:=3) nd)
    (aP (kW (eW F.plainAttrs_str Mq F.type_str_partition m_partition (v 3) (aC kN aJ)) (kU rfl (eJ (cD (i:=4) nd) (eJ (cD (i:=5) nd) (eJ (cD (i:=6) nd) kT)))))
   (aP (cS (PW.pt (jJ (bY (jM a) (v 3) (v 2)) (j3 (PW.pt (iY (bY (fI hr.units) (v 5) kN) (iY (jK (JM tI tI aK (cP d3 (by rfl) Y.len_ d6 (aC (v 6) aJ)) aK)) (kP (jK (JM tI tI aK (cP d3 (by rfl) Y.len_ d6 (aC (v 4) aJ)) aK)))))))))
    (aT (bW fQ))
    dE)
   (aT (cS (PW.pt (jJ (bY (jM a) (v 3) (v 2)) (j3 (bY (j5 hr.units) (dB (i9 ["one"] [none] (dO (v 6)) (fun B=>(gC (i:=0))) (fun B=>(tT (bY (jM a) (v 0) kN))) (fun B=>(v 0)))) (gU aJ)))))
    (aT (bW fQ))
    dE)))))
   (aT (bW fQ))))
def ziX:=b8 P w mg base 4 Y.x43.fn Y.x43.bi b7 zia zir fun hr a nd=>(aP (bD (i:=1) nd (lN aJ))
   (aP (bD (i:=2) nd (dB (bP (v9 Y) Y.x36 hr (aC (bP (CK Y) Y.x34 hr (aC (v 0) (aC aK aJ))) (aC (gU (aC aK (aC aK aJ))) aJ)))))
   (aP (bD (i:=3) nd (dB (bP (ziU Y) Y.x39 hr (aC (yF (v 0) (qN aK) (qN aK)) (aC (bA eQ aK (aS a (dB (bP (v9 Y) Y.x36 hr (aC (bP (CK Y) Y.x34 hr (aC (v 0) (aC aK aJ))) (aC (gU (aC aK aJ)) aJ)))) aK)) (aC aK aJ))))))
   (aP (eI Bv rfl (qQ (v 3)) (kU rfl (eJ (cD (i:=4) nd) (eJ (cD (i:=5) nd) (eJ (cD (i:=6) nd) kT))))
    (aP (cS (bY (fI hr.units) (v 5) (bU aJ))
    (aT (bD (i:=5) nd (aS a (gU (aC (bU (aC (aS a (aS a (v 3) aK) aK) aJ)) (aC (bU (aC (aS a (aS a (v 3) (lL lS aK)) aK) aJ)) (aC (bU (aC kN aJ)) aJ)))) (aS a (v 2) aK))))
    dE)
   (aT (dG (eW Cj Dd Dn jN (v 1) (aC (bU (aC (v 4) (aC (v 5) (aC (v 6) aJ)))) aJ))))))
   (aP (BY (i:=7) nd ["rule","rules"] [none,some 1] (dO (v 1)) (fun B=>(gC (i:=0))) (fun B=>(tT (bY (lU a) (aS a (aS a (v 1) aK) aK) (aS a (v 0) aK)))) (fun B=>(v 0)))
   (aP (cS (PW.pt (jJ (bY (fI hr.units) (aS a (v 2) aK) aK) (j3 (bY (fI hr.units) (v 7) (gU aJ)))))
    (aT (dG (eW Cj Dd Dn jN (v 1) (aC (bU (aC (aS a (aS a (v 1) aK) aK) (aC (bU aJ) (aC aK aJ)))) aJ))))
    dE)
   (aT (bW (v 1)))))))))
def ziY:=b8 P w mg base 8 Y.x44.fn Y.x44.bi b7 ziv ziw fun hr a nd=>(aP (bD (i:=1) nd (dB (bP (ziX Y) Y.x43 hr (aC (v 0) aJ))))
   (aP (bD (i:=2) nd (dB (bP (P1 Y) Y.x6 hr (aC (jL (yE rfl) (by rfl) Y.list_ lY (aC (v 1) aJ)) aJ))))
   (aP (bD (i:=3) nd (bP (P8 Y) Y.x33 hr (aC (v 2) aJ)))
   (aP (cS (PW.pt (iY (jK (fH (cP pD (by rfl) Y.isinstance_ pF (aC (v 3) (aC (oV (by rfl) Y.tuple_ tW (y:=.ty "tuple") rfl (fun _ _=>.ty _)) aJ))))) (iY (bY (j5 hr.units) (cP d3 (by rfl) Y.len_ d6 (aC (v 3) aJ)) aK) (kP (bY (j5 hr.units) (v 2) (v 1))))))
    (aT (bW fQ))
    dE)
   (aP (kW (v 3) (kU rfl (eJ (cD (i:=4) nd) (eJ (cD (i:=5) nd) kT))))
   (aP (cS (PW.pt (iY (jK (fH (cP pD (by rfl) Y.isinstance_ pF (aC (v 4) (aC (oV (by rfl) Y.list_ lY (y:=.ty "list") rfl (fun _ _=>.ty _)) aJ))))) (kP (jK (fH (cP pD (by rfl) Y.isinstance_ pF (aC (v 5) (aC (oV (by rfl) Y.list_ lY (y:=.ty "list") rfl (fun _ _=>.ty _)) aJ))))))))
    (aT (bW fQ))
    dE)
   (aP (cS (PW.pt (iY (bY (fI hr.units) (v 4) (gU aJ)) (kP (bY (j5 hr.units) (cP d3 (by rfl) Y.len_ d6 (aC (v 4) aJ)) (cP d3 (by rfl) Y.len_ d6 (aC (v 5) aJ))))))
    (aT (bW fQ))
    dE)
   (aP (cS (PW.pt (iY (jK (fH (bP (ziV Y) Y.x41 hr (aC (v 4) aJ)))) (kP (jK (fH (bP (ziW Y) Y.x42 hr (aC (v 1) (aC (v 4) aJ))))))))
    (aT (bW fQ))
    dE)
   (aP (cS (PW.pt (jJ (bY (j5 hr.units) (aS a (aS a (v 4) aK) aK) (aS a (aS a (v 1) aK) aK)) (j3 (bY (lU a) (aS a (aS a (v 4) aK) aK) (dB (i9 ["rule"] [none] (dO (v 1)) (fun B=>(gC (i:=0))) (fun B=>i8) (fun B=>(aS a (v 0) aK))))))))
    (aT (bW fQ))
    dE)
   (aP (bD (i:=6) nd (iU (j5 hr.units) (dB (i9 ["rule"] [none] (dO (v 1)) (fun B=>(gC (i:=0))) (fun B=>(tT (bY (fI hr.units) (aS a (v 0) aK) (bU aJ)))) (fun B=>(v 0)))) (gU aJ)))
   (aP (eI Bv rfl (qQ (v 4)) (kU rfl (eJ (cD (i:=7) nd) (eJ (cD (i:=8) nd) (eJ (cD (i:=9) nd) kT))))
    (aP (cS (PW.pt (jJ (bY (fI hr.units) (cP d3 (by rfl) Y.len_ d6 (aC (v 8) aJ)) aK) (j3 (fH (bP (QA Y) Y.x40 hr (aC (aS a (v 8) aK) aJ))))))
    (aT (bW fQ))
    dE)
   (aT (cS (PW.pt (jJ (bY (fI hr.units) (v 8) (bU aJ)) (j3 (PW.pt (iY (bY (j5 hr.units) (v 7) (aS a (aS a (v 4) aK) aK)) (kP (jK (fH (v 6)))))))))
    (aT (bW fQ))
    dE))))
   (aP (bD (i:=10) nd (jL (yE rfl) (by rfl) Y.list_ lY (aC (v 4) aJ)))
   (aP (dG (qJ Cj F.slot_list_clear F.type_list_clear OI (v 4)))
   (aP (dG (qJ Cj F.slot_list_clear F.type_list_clear OI (v 5)))
   (aP (bD (i:=11) nd (bP (P8 Y) Y.x33 hr (aC (v 2) aJ)))
   (aT (bW (v_and (iU (fI hr.units) (aS a (v 11) aK) (v 10)) (v_and (iU (fI hr.units) (cP d3 (by rfl) Y.len_ d6 (aC (aS a (v 11) aK) aJ)) (cP d3 (by rfl) Y.len_ d6 (aC (v 10) aJ))) (oW (iU (fI hr.units) (dB (bP (P1 Y) Y.x6 hr (aC (jL (yE rfl) (by rfl) Y.list_ lY (aC (v 10) aJ)) aJ))) (v 10))))))))))))))))))))))
end
section
variable {w:Bq}{h:Heap}{mg:Str->Option Ae}
theorem mn{x:Str}(X:(hpK w.params).In h)(G:h.Ns Ea mg)(e:PySem.W.nsIn (hpK w.params) Ea x=some none:=by kernel_rfl):mg x=none:=PySem.W.mg_none_of X G e
theorem ziZ(X:(hpK w.params).In h)(G:h.Ns Ea mg):Tx mg:=⟨⟨227,Ht (v:=.str "0123456789" 227) X G (by kernel_rfl)⟩,⟨225,Ht (v:=.str "ABCDEFGHIJKLMNOPQRSTUVWXYZ" 225) X G (by kernel_rfl)⟩,mn X G,mn X G,mn X G,mn X G,mn X G,mn X G,mn X G,mn X G,mn X G,mn X G,mn X G,mn X G,mn X G⟩
theorem zi0(X:(hpK w.params).In h)(G:h.Ns Ea mg):Kc (hpK w.params) mg ⟨134,190,261,0⟩:=⟨⟨by kernel_rfl,by kernel_rfl,by kernel_rfl,by kernel_rfl⟩,Ht (v:=.ref 134) X G (by kernel_rfl),⟨by kernel_rfl,by kernel_rfl,by kernel_rfl,by kernel_rfl⟩,Ht (v:=.ref 190) X G (by kernel_rfl),⟨by kernel_rfl,by kernel_rfl,by kernel_rfl,by kernel_rfl⟩,Ht (v:=.ref 261) X G (by kernel_rfl),(show Cd (hpK w.params) (.ref 134) "costs" = some none by kernel_rfl),(show Cd (hpK w.params) (.ref 134) "waiting" = some none by kernel_rfl),(show Cd (hpK w.params) (.ref 190) "grammar" = some none by kernel_rfl),(show Cd (hpK w.params) (.ref 190) "own" = some none by kernel_rfl),(show Cd (hpK w.params) (.ref 190) "steps" = some none by kernel_rfl),(show Cd (hpK w.params) (.ref 190) "queue" = some none by kernel_rfl),(show Cd (hpK w.params) (.ref 190) "reached" = some none by kernel_rfl),(show Cd (hpK w.params) (.ref 190) "best" = some none by kernel_rfl),(show Cd (hpK w.params) (.ref 190) "ends" = some none by kernel_rfl),(show Cd (hpK w.params) (.ref 190) "begun" = some none by kernel_rfl),(show Cd (hpK w.params) (.ref 261) "backs" = some none by kernel_rfl)⟩
def zi1(i:Nat):Addr:=([44,51,58,65,70,77,84,89,103,110,124,117,131,145,159,166,187,180,173,201,206,213,218,225,239,246,258,272,277,284,291,298,303,310,317,324,331,338,345,350,357,362,367,372,377]:List Addr).getD i 0
noncomputable def zi2(i:Nat):Bo:=[DY,DZ,D0,D2,D4,D5,D6,D7,D8,D9,EB,EA,EC,ED,EE,EF,EI,EH,EG,EJ,EK,EL,EM,EN,EO,ER,ES,ET,EU,EV,EW,EX,EY,EZ,E1,E2,E4,E5,E6,E7,E8,E9,FA,FC,sD].getD i sD
theorem zi3(X:(hpK w.params).In h)(G:h.Ns Ea mg):Al (hpK w.params) mg ⟨134,190,261,0⟩ zi1 zi2:=⟨ziZ X G,zi0 X G,dF X G,dF X G,dF X G,dF X G,dF X G,dF X G,dF X G,dF X G,dI,dM,dM,dM,dM,dF X G,dI,dM,dM,dM,dM,dF X G,dF X G,dF X G,dF X G,dF X G,dI,dM,dM,dF X G,dF X G,dF X G,dF X G,dF X G,dF X G,dF X G,dF X G,dF X G,dF X G,dF X G,dF X G,dF X G,dF X G,dF X G,dF X G,dF X G,dF X G⟩
end
theorem zi4{l:PySem.W.OpenLaw}{w:Bq}{h:Heap}{mg:Str->Option Ae}{fa:Addr}(X:(hpK w.params).In h)(G:h.Ns Ea mg)(hfa:mg "law" = some (.ref fa)) :
  ∃ fd:Bo,(∀ (s:Ah) (v:Ae),BindsTo s fd ⟨[v],[]⟩ [("script",v)])/\∀ base:Heap,(hpK w.params).In base->base.Ns Ea mg->fB l.prog w (hpK w.params) mg base gP 9 fa fd ["script"] (hV (hpK w.params) qS):=by
 have e:=hfa.symm.trans (Ht (v:=.ref 377) X G (by kernel_rfl))
 cases e
 exact⟨sD,fun s v=>.of_eq rfl,fun base _ _=>ziY (zi3 X G)⟩
theorem zi5{l:PySem.W.OpenLaw}{q:Ay}{loose:List Str}{XP:(Str->Option Ae)->Heap->Prop}{YP:Bq->Heap->Prop}{d:DefRec}{K:Params->Ac}(hn:l.most=some 63)(hdf:d.params.defaults=[])
  (hY:∀ (w:Bq) (h:Heap),YP w h->(K w.params).In h)
  (F:∀ (w:Bq) (mg:Str->Option Ae) (fa:Addr) (h:Heap),(K w.params).In h->h.Ns Ea mg->mg d.name=some (.ref fa)->
   ∃ fd:Bo,(∀ (s:Ah) (u:Ae),BindsTo s fd ⟨[u],[]⟩ [("script",u)])/\∀ base:Heap,(K w.params).In base->base.Ns Ea mg->fB l.prog w (K w.params) mg base gP 9 fa fd ["script"] (hV (K w.params) qS)) :
  PySem.W.WalkO q loose XP YP l.row.toRowW d [] (fun f vs=>PySem.call f vs):=
 L2.WZ (n:=63) (k:=9) (x:="script") (CX:=fun _=>gP) (sp:=fun w=>hV (K w.params) qS) hn (by decide) hdf ⟨rfl,by decide,by decide⟩ hY F (fun _ _ a ns hl ho hS=>Z4 hl ho hS) fun _ _ _ _ _ z=>z
end Rg
open PySem PySem.W PyProof.Rows
set_option maxRecDepth 100000 in
set_option maxHeartbeats 0 in
theorem PySem.Challenge.cw_readgrove_k61_without_single_rules_holds : PySem.Challenge.rw_readgrove_k61_without_single_rules.Holds := by
 w_on; o_law
 refine PySem.W.holds_open (r := PySem.Challenge.rw_readgrove_k61_without_single_rules.row) (q := Rg.qv) (loose := []) (N := 5120)
  (Xt := fun s => xlAt Rg.qv [] s && recOk (RowW.records (OpenRow.toRowW PySem.Challenge.rw_readgrove_k61_without_single_rules.row)) s)
  (XP := XL Rg.qv []) (Yf := Rg.hk.obs) (Ya := Rg.hk.val) (YP := Rg.hk.says) ?hl Rg.hk.of Rg.hk.keeps
  (fun s e => xl_of s (Bool.and_eq_true_iff.mp e).1) XL.keeps (by rfl) (by rfl) (by rfl) (fun s e => recFacts_of (Bool.and_eq_true_iff.mp e).2)
  (by rfl) (by assumption) (by decide +kernel) ⟨rfl, rfl, rfl, rfl, rfl, by decide +kernel⟩ ?hw ?hc
 case hw => w_witness2
 case hc => exact Rg.zi5 (l := PySem.Challenge.rw_readgrove_k61_without_single_rules) rfl rfl (fun w h Y => PySem.W.kIn_of Y) (fun w mg fa h KX G hmg => Rg.zi4 KX G hmg)
 case hl => exact Rg.QC
