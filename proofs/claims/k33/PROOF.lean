import PyProof.Rows.All
import Wide.All
import OpenK.AllK
import Wide.FinOn
import Lean
import PyProof.EqAt
import PyProof.EqKinds
import PyProof.TupleCall
import PySem.Challenge.RW_readgrove_k33_least_readings
open PySem renaming wpAny_bind→Aa,Value→Ae,Shared→Ag,wpAny_pure→Ah,sizeLine→Am,wpAny→Bc,starEach→Bi,FuncData→Bl,model→Bn,Program→Bq,compareOp→Ce,World→Cj,Around→Co,bootBuiltins→Cp,wpAny_field→Cv,wpAny_call_entry→Cz,wpAny_newObj_type→Dc,wpAny_holding→Dg,wpAny_callSpecial?_slot→Dr,wpAny_Call_Name_kw→Dv,mainGlobals→Dz,builtinLookup_eq_fast→Ew,wpAny_setField_rec→Ez,tupleKind_room_in1→Fb,binaryOp→Fh,cLine→Fm,wpAny_seqItems→Fp,tupleKind→Fu,wpAny_rule→Fw,sysModules→Fx,wpAny_of_eq→Ge,assignEach→Gi,typeLookup_type→Gm,mem_of_lookup→Gn,foldedSetIterable→Gq,backTo→Gu,IsPair→Gv,Builtin→Gx,wpAny_isInstance→Gy,pyNext→Gz,Paired→Ha,wpAny_typeNameOfWhole_keyiter→Hh,wpAny_pyIter_tuple→Hi,rawInt→Hj,wpAny_passesOwn→Hm,wpAny_attempt→Ho,behindInMarks→Hq,DictEntry→Hu,wpAny_notOrdered_dict→Hv,wpAny_dictEntries→Hy,holding→Hz,wpAny_mono→Ij,NameKind→Ik,wpAny_typeNameOf_keyiter→Iz,attributeBase→Ja,Scope→Jb,wpAny_specialOf→Jc,swapsWith→Jf,wpAny_truthy_bool→Jk,firstArgMember→Jl,codeAny→Jm,wpAny_eqBool_int→Jt,plainId_quiet→Jv,sliceBounds→Jy,sizeLine_eq→Jz,wpAny_typeOf→Kj,call_meetsIn→Kk,wpAny_tupleItemsOf→Kq,isSubtype_type→Kr,PyData→Kt,Expr→Kx,wpAny_pyIter_list→La,wpAny_pyIter_enum→Lb,keywordEach→Lc,assign→Lg,wpAny_pyIter_zip→Lp,atKey→Lr,storedH→Mh,call_meets→Mi,wpAny_execs_nil→Mq,size_of_entries→Mr,letOwnedTupleGo→Ms,codeAny_builtin→Mu,wpAny_updateSeq_pair→Mx,wpAny_setField→My,wpAny_letGo→Mz,IsZip→Na,standAt→Nb,getMethod→Nc,wpAny_standAt→Nf,wpAny_onRaise→Ng
open List renaming length_map→Ab,getElem?_eq_some_iff→Aj,length_append→Ak,getElem?_eq_getElem→An,mem_cons→Ar,mem_cons_of_mem→Au,getElem?_map→Av,mem_singleton→Aw,map_append→Ax,map_cons→Ay,mem_map→Ba,size_toArray→Bb,mem_cons_self→Bd,mem_of_getElem?→Be,length_singleton→Bk,mem_append→Bo,map_map→Bp,length_cons→Bs,replicate→Bt,mem_append_left→Bu,take_add_one→Bx,take_length→Bz,mem_append_right→Ca,length_take→Cb,lookup→Cf,mem_nil_iff→Cq,nodup_cons→Cr,range→Cw,nodup_nil→Cy,eq_nil_or_concat→Dh,concat_eq_append→Dj,getD_eq_getElem?_getD→Dn,mem_flatMap→Dw,mem_map_of_mem→Dx,length→Eb,foldl_cons→Ec,filter_cons→Ed,map_congr_left→Ee,nodup_append→Ef,length_range→Eg,foldl_append→Eh,getElem?_eq_none→Em,mem_filter→Es,mem_of_mem_take→Ey,take_of_length_le→Fd,find?_cons→Fg,drop_eq_getElem_cons→Fi,getElem?_cons_succ→Fo,replicate_succ→Fq,length_reverse→Fs,length_pos_iff→Ft,map_nil→Fv,any_cons→Fz,length_drop→Ga,getLastD_eq_getLast?→Gg,flatten_cons→Gj,append_assoc→Gk,filterMap_cons→Gr,lookup_cons→Gs,mem_zipIdx_iff_getElem?→Hd,append_nil→He,nodup_iff_pairwise_ne→Hs,mem_range→Ht,getElem?_append_left→Ig,getElem?_range→Ii,mem_filterMap→Im,drop_of_length_le→Jd,zipIdx_cons→Jh,not_mem_nil→Ji,nil_append→Jr,filterMap_map→Kd,pairwise_iff_getElem→Kh,getElem?_eq_none_iff→Ki,pairwise_map→Km,map_take→Kn,length_filterMap_le→Ko,map→Ku,length_eq_zero_iff→Kv,all_eq_true→Kw,forIn_cons→Li,take_append_drop→Lm,length_filter_le→Lo,mem_iff_getElem→Ma,getElem?_zipIdx→Mb,drop_zero→Mc,map_drop→Mv,all_cons→Mw
open PySem.W renaming Frag→Ac,findIn→Cd,keepIn→Ea,kia_one→Ek,fnOf→El,emptyDict→Fc,instObj→Gf,kitOne→Ip,codeIn→Iq,callWith_K→Ju,plainGet→Kl,isFn→Ks,lookIn→Lh,plainGet_of→Ls,callWith_K0→Lu,mg_of→Ly
open PySem.Heap renaming get?_push_of_some→Af,lt_size→Ap,get?_push_size→Az,size_push→Du,get?_update_self→Eo,get?_update_other→Fe,SameBut→Ff,ExtBut→Md,IsTuple→Nd
open Nat renaming le_refl→Ai,ne_of_lt→Bg,le_trans→Bh,zero_le→Bv,lt_of_lt_of_le→Bw,ne_of_gt→Ct,le_of_eq→Fy,mul_le_mul→Hw,zero_add→Ib,lt_trans→Ic,lt_succ_self→Ie,le_of_lt→Je,lt_irrefl→Jp,add_le_add_left→Jx,min_eq_left→Ll,le_succ→Ml
open Bool renaming false_ne_true→Ao,and_eq_true→Cm,false_eq_true→Ds,eq_iff_iff→Eu,not_true→Jo,not_not→Ld,not_false→Mg
open Ne renaming symm→Bf
open Option renaming map_eq_some_iff→Bj,isSome_iff_exists→Ej,isSome_map→Iu,map_some→Ky
open PySem.PassesOwn renaming never→Br
open PySem.F renaming plainAttrs_list→Cg,slot_list_append→Cu,type_list_append→De,plainAttrs_dict→Ep,slot_dict_keyiterator_next→Er,slot_tuple_iterator_next→Ih,entry_dict_get→Ir,type_dict_get→Iv,slot_list_pop→Iw,slot_dict_get→Iy,type_list_pop→Ka,slot_list_getattribute→Kz,type_dict_setdefault→Lv,slot_dict_setdefault→Lw,slot_zip_next→Mf
open Option.some renaming inj→Ci,injEq→Gb
open PyProof.Rows renaming callWith_type1→Ck,slot_tuple_getitem→Il,envOfC→Lf,AllBare→Mo
open List.cons renaming injEq→Cs
open PySem.Builtin.SmallTypes renaming nextOf→Dd,ownedTupleIsFree→Fl,stopIteration→Hl
open PySem.Str renaming ofString→Dk
open Prod.mk renaming injEq→Dl
open Int renaming toNat_natCast→Dy,le_refl→Fn,le_trans→Lj
open PySem.Paired renaming length→Ei
open PySem.Heap.SameBut renaming update→Ex
open Prod renaming fst→Fj,snd→Hc,ext→Lz
open False renaming elim→Gd
open Function renaming comp→Gh
open Array renaming length_toList→Gp,getElem?_toList→Hg,getElem?_eq_some_iff→Hn,getElem?_eq_getElem→Kg,toArray_toList→Lx
open PySem.Builtin.List renaming listFitsIndex→Gw,listExtendWith→Jg,listTooLong→Js
open PySem.Obj renaming mapSeq→Hb,data_mapDictKeys→Jq,data_mapFields→Kf
open PySem.Builtin.Slice renaming slicePlaces→Hf,sliceAdjust→Jn
open PySem.Builtin.Tuple renaming tupleExact→Hk
open PySem.PyData renaming depth→Hr,eqv→Jw,eqvAll→Mj
open PySem.Builtin.Dict renaming updateFrom→Hx
open PySem.AutoSeq1 renaming wpAny_loadPart'→Ia
open PySem.Around renaming under_plainId→Jj
open PySem.Builtin.Str renaming occurrences→Kb
open Sum.inl renaming injEq→Ke
set_option Elab.async false
set_option compiler.extract_closed false
set_option bootstrap.genMatcherCode false
set_option linter.all false
set_option maxRecDepth 100000
namespace L2
open PySem PySem.Spec PyProof.Rows
def j9(s:Stmt)(j:Nat):Stmt:=match s with
 | .ClassDef _ _ _ body _ _ _ _ _ _ _=>body.getD j (.Pass ⟨0,0,0,0⟩)
 | _=>.Pass ⟨0,0,0,0⟩
def iX(s:Stmt):Arguments:=match s with
 | .FunctionDef _ a _ _ _ _ _ _ _ _=>a
 | _=>{posonlyargs:=[],args:=[],vararg:=none,kwonlyargs:=[],kw_defaults:=[],kwarg:=none,defaults:=[]}
def gW(s:Stmt):List Stmt:=match s with
 | .FunctionDef _ _ b _ _ _ _ _ _ _=>b
 | _=>[]
def eY(s:Stmt):Jb:=match s with
 | .FunctionDef _ _ _ _ _ _ sc _ _ _=>sc
 | _=>{kind:=.function,names:=[],isGenerator:=false,isCoroutine:=false}
end L2
namespace Rg
open PySem PySem.Spec PyProof.Rows L2
noncomputable def aU(i:Nat):Stmt:=PySem.Challenge.pw_readgrove_k33_least_readings.main.body.getD i (.Pass ⟨0,0,0,0⟩)
noncomputable abbrev A5:Stmt:=aU 1
noncomputable abbrev A6:Stmt:=aU 2
noncomputable abbrev A7:Stmt:=aU 4
noncomputable abbrev A8:Stmt:=aU 5
noncomputable abbrev A9:Stmt:=aU 6
noncomputable abbrev BA:Stmt:=aU 7
noncomputable abbrev BB:Stmt:=j9 (aU 9) 0
noncomputable abbrev BC:Stmt:=j9 (aU 9) 1
noncomputable abbrev BD:Stmt:=j9 (aU 9) 2
noncomputable abbrev BE:Stmt:=j9 (aU 9) 3
noncomputable abbrev BF:Stmt:=j9 (aU 9) 4
noncomputable abbrev BG:Stmt:=aU 11
noncomputable abbrev BH:Stmt:=j9 (aU 12) 0
noncomputable abbrev BI:Stmt:=j9 (aU 12) 1
noncomputable abbrev BJ:Stmt:=j9 (aU 12) 2
noncomputable abbrev BK:Stmt:=j9 (aU 12) 3
noncomputable abbrev BL:Stmt:=j9 (aU 12) 4
noncomputable abbrev BM:Stmt:=aU 13
noncomputable abbrev BN:Stmt:=aU 14
noncomputable abbrev BO:Stmt:=aU 15
noncomputable abbrev BP:Stmt:=aU 16
noncomputable abbrev BQ:Stmt:=aU 17
noncomputable abbrev BR:Stmt:=aU 18
noncomputable abbrev BS:Stmt:=aU 20
noncomputable abbrev BU:Stmt:=aU 22
noncomputable abbrev BV:Stmt:=aU 24
noncomputable abbrev BW:Stmt:=aU 25
noncomputable abbrev BX:Stmt:=aU 27
noncomputable abbrev BY:Stmt:=aU 28
noncomputable abbrev BZ:Stmt:=aU 29
noncomputable abbrev B0:Stmt:=aU 30
noncomputable abbrev B1:Stmt:=aU 31
noncomputable abbrev B2:Stmt:=aU 32
noncomputable abbrev B3:Stmt:=aU 33
noncomputable abbrev B4:Stmt:=aU 34
noncomputable abbrev B5:Stmt:=aU 35
noncomputable abbrev B6:Stmt:=aU 36
noncomputable abbrev B7:Stmt:=aU 37
noncomputable abbrev B8:Stmt:=aU 38
noncomputable abbrev B9:Stmt:=aU 39
noncomputable def en(P:Params)(x:String)(t:Tok)(v:Ae):Hu:=⟨PyData.keyHash P (Dk x),.str (Dk x) t,v⟩
abbrev sT(x:String)(t:Tok):Ae:=.str (Dk x) t
abbrev cO(x:String)(a:Tok)(q:String)(b c:Tok)(l n:Int)(r:Addr)(u v w y z:Ae)(k:Int)(d:Tok):Obj:=⟨.type "code",none,.fields #[sT x a,sT q b,sT "/claim/cut.py" c,.int l 0,.int n 0,.int 0 0,.int 0 0,.int 3 0,.ref r,.bool true,.int 181 0,u,v,w,y,z,.int k 0,.int l 0,sT "/claim/cut.py" d],#[]⟩
abbrev fO(x q:Str)(s:Stmt)(m c:Ae):Bl:=El x q (iX s) (gW s) (eY s) .none .none .none m none c .none
noncomputable abbrev CA:Bl:=fO "names" "names" A5 (sT "readgrove.grammars" 187) (.ref 20)
noncomputable abbrev CB:Bl:=fO "first_name" "first_name" A6 (sT "readgrove.grammars" 187) (.ref 27)
noncomputable abbrev CC:Bl:=fO "marks" "marks" A7 (sT "readgrove.covers" 205) (.ref 32)
noncomputable abbrev CD:Bl:=fO "places_of" "places_of" A8 (sT "readgrove.covers" 205) (.ref 39)
noncomputable abbrev CF:Bl:=fO "row_steps" "row_steps" A9 (sT "readgrove.covers" 205) (.ref 44)
noncomputable abbrev CG:Bl:=fO "part_facts" "part_facts" BA (sT "readgrove.covers" 205) (.ref 49)
noncomputable abbrev CH:Bl:=fO "__init__" "Queue.__init__" BB (sT "readgrove.queues" 232) (.ref 63)
noncomputable abbrev CI:Bl:=fO "is_done" "Queue.is_done" BC (sT "readgrove.queues" 232) (.ref 70)
noncomputable abbrev CJ:Bl:=fO "put" "Queue.put" BD (sT "readgrove.queues" 232) (.ref 77)
noncomputable abbrev CK:Bl:=fO "place_of" "Queue.place_of" BE (sT "readgrove.queues" 232) (.ref 84)
noncomputable abbrev CL:Bl:=fO "take" "Queue.take" BF (sT "readgrove.queues" 232) (.ref 91)
noncomputable abbrev CM:Bl:=fO "added" "added" BG (sT "readgrove.leasts" 300) (.ref 105)
noncomputable abbrev CN:Bl:=fO "__init__" "Search.__init__" BH (sT "readgrove.leasts" 300) (.ref 119)
noncomputable abbrev CO:Bl:=fO "reach" "Search.reach" BI (sT "readgrove.leasts" 300) (.ref 126)
noncomputable abbrev CP:Bl:=fO "take_next" "Search.take_next" BJ (sT "readgrove.leasts" 300) (.ref 133)
noncomputable abbrev CQ:Bl:=fO "step_by_name" "Search.step_by_name" BK (sT "readgrove.leasts" 300) (.ref 140)
noncomputable abbrev CS:Bl:=fO "settle" "Search.settle" BL (sT "readgrove.leasts" 300) (.ref 147)
noncomputable abbrev CT:Bl:=fO "least_trees" "least_trees" BM (sT "readgrove.leasts" 300) (.ref 161)
noncomputable abbrev CU:Bl:=fO "facts_within" "facts_within" BN (sT "readgrove.leasts" 300) (.ref 166)
noncomputable abbrev CV:Bl:=fO "made_of_best" "made_of_best" BO (sT "readgrove.leasts" 300) (.ref 173)
noncomputable abbrev CW:Bl:=fO "same_word" "same_word" BP (sT "readgrove.leasts" 300) (.ref 180)
noncomputable abbrev CY:Bl:=fO "knot_of" "knot_of" BQ (sT "readgrove.leasts" 300) (.ref 187)
noncomputable abbrev CZ:Bl:=fO "best_tree" "best_tree" BR (sT "readgrove.leasts" 300) (.ref 194)
noncomputable abbrev C0:Bl:=fO "row_trees" "row_trees" BS (sT "readgrove.spans" 464) (.ref 201)
noncomputable abbrev C1:Bl:=fO "whole_fact" "whole_fact" BU (sT "readgrove.readings" 475) (.ref 208)
noncomputable abbrev C2:Bl:=fO "rule_costs" "rule_costs" BV (sT "readgrove.costs" 485) (.ref 213)
noncomputable abbrev C3:Bl:=fO "least_reading" "least_reading" BW (sT "readgrove.costs" 485) (.ref 220)
noncomputable abbrev C4:Bl:=fO "_law_cell_at" "_law_cell_at" BX (sT "law_readgrove_k33_least_readings" 503) (.ref 227)
noncomputable abbrev C5:Bl:=fO "_law_mixed" "_law_mixed" BY (sT "law_readgrove_k33_least_readings" 503) (.ref 234)
noncomputable abbrev C6:Bl:=fO "_law_deck" "_law_deck" BZ (sT "law_readgrove_k33_least_readings" 503) (.ref 241)
noncomputable abbrev C7:Bl:=fO "_law_digit" "_law_digit" B0 (sT "law_readgrove_k33_least_readings" 503) (.ref 248)
noncomputable abbrev C8:Bl:=fO "_law_words" "_law_words" B1 (sT "law_readgrove_k33_least_readings" 503) (.ref 255)
noncomputable abbrev C9:Bl:=fO "_law_rule" "_law_rule" B2 (sT "law_readgrove_k33_least_readings" 503) (.ref 262)
noncomputable abbrev DA:Bl:=fO "_law_grammar" "_law_grammar" B3 (sT "law_readgrove_k33_least_readings" 503) (.ref 267)
noncomputable abbrev DB:Bl:=fO "_law_made" "_law_made" B4 (sT "law_readgrove_k33_least_readings" 503) (.ref 272)
noncomputable abbrev DC:Bl:=fO "_law_row" "_law_row" B5 (sT "law_readgrove_k33_least_readings" 503) (.ref 277)
noncomputable abbrev DD:Bl:=fO "_law_behind" "_law_behind" B6 (sT "law_readgrove_k33_least_readings" 503) (.ref 282)
noncomputable abbrev DE:Bl:=fO "_law_costs" "_law_costs" B7 (sT "law_readgrove_k33_least_readings" 503) (.ref 289)
noncomputable abbrev DF:Bl:=fO "_law_walked" "_law_walked" B8 (sT "law_readgrove_k33_least_readings" 503) (.ref 294)
noncomputable abbrev r6:Bl:=fO "law" "law" B9 (sT "law_readgrove_k33_least_readings" 503) (.ref 301)
noncomputable def hpK:Params->Ac:=fun P=>[(nat_lit 3,⟨(.type "dict"),none,.dict [en P "__name__" 165 (sT "law_readgrove_k33_least_readings" 503),en P "__doc__" 166 .none,en P "__package__" 167 .none,en P "__loader__" 168 (.builtin "__main__.__loader__#opaque"),en P "__spec__" 169 .none,en P "__annotations__" 170 (.ref 6),en P "__builtins__" 171 (.ref 4),en P "__file__" 173 (sT "/claim/cut.py" 172),en P "__cached__" 174 .none,en P "names" 197 (.ref 21),en P "first_name" 204 (.ref 28),en P "marks" 212 (.ref 33),en P "places_of" 219 (.ref 40),en P "row_steps" 225 (.ref 45),en P "part_facts" 231 (.ref 50),en P "Queue" 299 (.ref 95),en P "added" 309 (.ref 106),en P "Search" 399 (.ref 151),en P "least_trees" 412 (.ref 162),en P "facts_within" 418 (.ref 167),en P "made_of_best" 437 (.ref 174),en P "same_word" 446 (.ref 181),en P "knot_of" 454 (.ref 188),en P "best_tree" 463 (.ref 195),en P "row_trees" 474 (.ref 202),en P "whole_fact" 484 (.ref 209),en P "rule_costs" 492 (.ref 214),en P "least_reading" 502 (.ref 221),en P "_law_cell_at" 512 (.ref 228),en P "_law_mixed" 521 (.ref 235),en P "_law_deck" 532 (.ref 242),en P "_law_digit" 541 (.ref 249),en P "_law_words" 547 (.ref 256),en P "_law_rule" 560 (.ref 263),en P "_law_grammar" 566 (.ref 268),en P "_law_made" 572 (.ref 273),en P "_law_row" 578 (.ref 278),en P "_law_behind" 584 (.ref 283),en P "_law_costs" 601 (.ref 290),en P "_law_walked" 607 (.ref 295),en P "law" 621 (.ref 302)].toArray 41,#[]⟩),
 (nat_lit 20,cO "names" 189 "names" 190 191 2 1 15 (.ref 16) .none (.ref 17) (.ref 18) (.ref 19) 195 196),
 (nat_lit 21,⟨(.type "function"),none,.func CA,#[]⟩),
 (nat_lit 27,cO "first_name" 198 "first_name" 199 200 7 1 22 (.ref 23) .none (.ref 24) (.ref 25) (.ref 26) 202 203),
 (nat_lit 28,⟨(.type "function"),none,.func CB,#[]⟩),
 (nat_lit 32,cO "marks" 207 "marks" 208 209 10 1 29 (.ref 30) .none .none .none (.ref 31) 210 211),
 (nat_lit 33,⟨(.type "function"),none,.func CC,#[]⟩),
 (nat_lit 39,cO "places_of" 213 "places_of" 214 215 12 1 34 (.ref 35) .none (.ref 36) (.ref 37) (.ref 38) 217 218),
 (nat_lit 40,⟨(.type "function"),none,.func CD,#[]⟩),
 (nat_lit 44,cO "row_steps" 220 "row_steps" 221 222 14 1 41 (.ref 42) .none .none .none (.ref 43) 223 224),
 (nat_lit 45,⟨(.type "function"),none,.func CF,#[]⟩),
 (nat_lit 49,cO "part_facts" 226 "part_facts" 227 228 16 3 46 (.ref 47) .none .none .none (.ref 48) 229 230),
 (nat_lit 50,⟨(.type "function"),none,.func CG,#[]⟩),
 (nat_lit 63,cO "__init__" 246 "Queue.__init__" 247 248 21 1 58 (.ref 59) .none (.ref 60) (.ref 61) (.ref 62) 250 251),
 (nat_lit 64,⟨(.type "function"),none,.func CH,#[]⟩),
 (nat_lit 70,cO "is_done" 253 "Queue.is_done" 254 255 25 1 65 (.ref 66) .none (.ref 67) (.ref 68) (.ref 69) 257 258),
 (nat_lit 71,⟨(.type "function"),none,.func CI,#[]⟩),
 (nat_lit 77,cO "put" 260 "Queue.put" 261 262 28 3 72 (.ref 73) .none (.ref 74) (.ref 75) (.ref 76) 266 267),
 (nat_lit 78,⟨(.type "function"),none,.func CJ,#[]⟩),
 (nat_lit 84,cO "place_of" 269 "Queue.place_of" 270 271 34 2 79 (.ref 80) .none (.ref 81) (.ref 82) (.ref 83) 277 278),
 (nat_lit 85,⟨(.type "function"),none,.func CK,#[]⟩),
 (nat_lit 91,cO "take" 280 "Queue.take" 281 282 45 1 86 (.ref 87) .none (.ref 88) (.ref 89) (.ref 90) 287 288),
 (nat_lit 92,⟨(.type "function"),none,.func CL,#[]⟩),
 (nat_lit 94,⟨(.type "dict"),none,.dict [en P "__module__" 241 (sT "readgrove.queues" 232),en P "__firstlineno__" 245 (.int 19 244),en P "__init__" 252 (.ref 64),en P "is_done" 259 (.ref 71),en P "put" 268 (.ref 78),en P "place_of" 279 (.ref 85),en P "take" 289 (.ref 92),en P "__static_attributes__" 292 (.ref 93),en P "__dict__" 294 (.ref 96),en P "__weakref__" 296 (.ref 97),en P "__doc__" 297 .none].toArray 4,#[]⟩),
 (nat_lit 95,⟨(.type "type"),none,.cls ⟨(Dk "Queue"),[(.type "object")],[(.ref 95),(.type "object")],94,(Dk "Queue"),true,[],[],false,none,false⟩,#[none,none,some (sT "Queue" 234),some (sT "Queue" 242),some (.builtin "object.__new__"),some (.bool true)]⟩),
 (nat_lit 105,cO "added" 302 "added" 303 304 54 2 100 (.ref 101) .none (.ref 102) (.ref 103) (.ref 104) 307 308),
 (nat_lit 106,⟨(.type "function"),none,.func CM,#[]⟩),
 (nat_lit 119,cO "__init__" 322 "Search.__init__" 323 324 58 3 114 (.ref 115) .none (.ref 116) (.ref 117) (.ref 118) 328 329),
 (nat_lit 120,⟨(.type "function"),none,.func CN,#[]⟩),
 (nat_lit 126,cO "reach" 331 "Search.reach" 332 333 68 4 121 (.ref 122) .none (.ref 123) (.ref 124) (.ref 125) 339 340),
 (nat_lit 127,⟨(.type "function"),none,.func CO,#[]⟩),
 (nat_lit 133,cO "take_next" 342 "Search.take_next" 343 344 74 1 128 (.ref 129) .none (.ref 130) (.ref 131) (.ref 132) 353 354),
 (nat_lit 134,⟨(.type "function"),none,.func CP,#[]⟩),
 (nat_lit 140,cO "step_by_name" 356 "Search.step_by_name" 357 358 90 5 135 (.ref 136) .none (.ref 137) (.ref 138) (.ref 139) 366 367),
 (nat_lit 141,⟨(.type "function"),none,.func CQ,#[]⟩),
 (nat_lit 147,cO "settle" 369 "Search.settle" 370 371 95 4 142 (.ref 143) .none (.ref 144) (.ref 145) (.ref 146) 381 382),
 (nat_lit 148,⟨(.type "function"),none,.func CS,#[]⟩),
 (nat_lit 150,⟨(.type "dict"),none,.dict [en P "__module__" 317 (sT "readgrove.leasts" 300),en P "__firstlineno__" 321 (.int 56 320),en P "__init__" 330 (.ref 120),en P "reach" 341 (.ref 127),en P "take_next" 355 (.ref 134),en P "step_by_name" 368 (.ref 141),en P "settle" 383 (.ref 148),en P "__static_attributes__" 392 (.ref 149),en P "__dict__" 394 (.ref 152),en P "__weakref__" 396 (.ref 153),en P "__doc__" 397 .none].toArray 4,#[]⟩),
 (nat_lit 151,⟨(.type "type"),none,.cls ⟨(Dk "Search"),[(.type "object")],[(.ref 151),(.type "object")],150,(Dk "Search"),true,[],[],false,none,false⟩,#[none,none,some (sT "Search" 310),some (sT "Search" 318),some (.builtin "object.__new__"),some (.bool true)]⟩),
 (nat_lit 161,cO "least_trees" 400 "least_trees" 401 402 104 4 156 (.ref 157) .none (.ref 158) (.ref 159) (.ref 160) 410 411),
 (nat_lit 162,⟨(.type "function"),none,.func CT,#[]⟩),
 (nat_lit 166,cO "facts_within" 413 "facts_within" 414 415 112 3 163 (.ref 164) .none .none .none (.ref 165) 416 417),
 (nat_lit 167,⟨(.type "function"),none,.func CU,#[]⟩),
 (nat_lit 173,cO "made_of_best" 419 "made_of_best" 420 421 123 5 168 (.ref 169) .none (.ref 170) (.ref 171) (.ref 172) 435 436),
 (nat_lit 174,⟨(.type "function"),none,.func CV,#[]⟩),
 (nat_lit 180,cO "same_word" 438 "same_word" 439 440 137 3 175 (.ref 176) .none (.ref 177) (.ref 178) (.ref 179) 444 445),
 (nat_lit 181,⟨(.type "function"),none,.func CW,#[]⟩),
 (nat_lit 187,cO "knot_of" 447 "knot_of" 448 449 139 2 182 (.ref 183) .none (.ref 184) (.ref 185) (.ref 186) 452 453),
 (nat_lit 188,⟨(.type "function"),none,.func CY,#[]⟩),
 (nat_lit 194,cO "best_tree" 455 "best_tree" 456 457 141 3 189 (.ref 190) .none (.ref 191) (.ref 192) (.ref 193) 461 462),
 (nat_lit 195,⟨(.type "function"),none,.func CZ,#[]⟩),
 (nat_lit 201,cO "row_trees" 466 "row_trees" 467 468 144 3 196 (.ref 197) .none (.ref 198) (.ref 199) (.ref 200) 472 473),
 (nat_lit 202,⟨(.type "function"),none,.func C0,#[]⟩),
 (nat_lit 208,cO "whole_fact" 477 "whole_fact" 478 479 147 2 203 (.ref 204) .none (.ref 205) (.ref 206) (.ref 207) 482 483),
 (nat_lit 209,⟨(.type "function"),none,.func C1,#[]⟩),
 (nat_lit 213,cO "rule_costs" 487 "rule_costs" 488 489 150 1 210 (.ref 211) .none .none .none (.ref 212) 490 491),
 (nat_lit 214,⟨(.type "function"),none,.func C2,#[]⟩),
 (nat_lit 220,cO "least_reading" 493 "least_reading" 494 495 152 2 215 (.ref 216) .none (.ref 217) (.ref 218) (.ref 219) 500 501),
 (nat_lit 221,⟨(.type "function"),none,.func C3,#[]⟩),
 (nat_lit 227,cO "_law_cell_at" 505 "_law_cell_at" 506 507 159 2 222 (.ref 223) .none (.ref 224) (.ref 225) (.ref 226) 510 511),
 (nat_lit 228,⟨(.type "function"),none,.func C4,#[]⟩),
 (nat_lit 234,cO "_law_mixed" 513 "_law_mixed" 514 515 163 2 229 (.ref 230) .none (.ref 231) (.ref 232) (.ref 233) 519 520),
 (nat_lit 235,⟨(.type "function"),none,.func C5,#[]⟩),
 (nat_lit 241,cO "_law_deck" 522 "_law_deck" 523 524 167 1 236 (.ref 237) .none (.ref 238) (.ref 239) (.ref 240) 530 531),
 (nat_lit 242,⟨(.type "function"),none,.func C6,#[]⟩),
 (nat_lit 248,cO "_law_digit" 533 "_law_digit" 534 535 177 2 243 (.ref 244) .none (.ref 245) (.ref 246) (.ref 247) 539 540),
 (nat_lit 249,⟨(.type "function"),none,.func C7,#[]⟩),
 (nat_lit 255,cO "_law_words" 542 "_law_words" 543 544 183 0 250 (.ref 251) .none (.ref 252) (.ref 253) (.ref 254) 545 546),
 (nat_lit 256,⟨(.type "function"),none,.func C8,#[]⟩),
 (nat_lit 262,cO "_law_rule" 548 "_law_rule" 549 550 185 3 257 (.ref 258) .none (.ref 259) (.ref 260) (.ref 261) 558 559),
 (nat_lit 263,⟨(.type "function"),none,.func C9,#[]⟩),
 (nat_lit 267,cO "_law_grammar" 561 "_law_grammar" 562 563 194 1 264 (.ref 265) .none .none .none (.ref 266) 564 565),
 (nat_lit 268,⟨(.type "function"),none,.func DA,#[]⟩),
 (nat_lit 272,cO "_law_made" 567 "_law_made" 568 569 206 2 269 (.ref 270) .none .none .none (.ref 271) 570 571),
 (nat_lit 273,⟨(.type "function"),none,.func DB,#[]⟩),
 (nat_lit 277,cO "_law_row" 573 "_law_row" 574 575 221 2 274 (.ref 275) .none .none .none (.ref 276) 576 577),
 (nat_lit 278,⟨(.type "function"),none,.func DC,#[]⟩),
 (nat_lit 282,cO "_law_behind" 579 "_law_behind" 580 581 231 5 279 (.ref 280) .none .none .none (.ref 281) 582 583),
 (nat_lit 283,⟨(.type "function"),none,.func DD,#[]⟩),
 (nat_lit 289,cO "_law_costs" 585 "_law_costs" 586 587 245 2 284 (.ref 285) .none (.ref 286) (.ref 287) (.ref 288) 599 600),
 (nat_lit 290,⟨(.type "function"),none,.func DE,#[]⟩),
 (nat_lit 294,cO "_law_walked" 602 "_law_walked" 603 604 259 2 291 (.ref 292) .none .none .none (.ref 293) 605 606),
 (nat_lit 295,⟨(.type "function"),none,.func DF,#[]⟩),
 (nat_lit 301,cO "law" 608 "law" 609 610 280 1 296 (.ref 297) .none (.ref 298) (.ref 299) (.ref 300) 619 620),
 (nat_lit 302,⟨(.type "function"),none,.func r6,#[]⟩)]
noncomputable def MB:List Addr:=[nat_lit 3,nat_lit 20,nat_lit 21,nat_lit 27,nat_lit 28,nat_lit 32,nat_lit 33,nat_lit 39,nat_lit 40,nat_lit 44,nat_lit 45,nat_lit 49,nat_lit 50,nat_lit 63,nat_lit 64,nat_lit 70,nat_lit 71,nat_lit 77,nat_lit 78,nat_lit 84,nat_lit 85,nat_lit 91,nat_lit 92,nat_lit 94,nat_lit 95,nat_lit 105,nat_lit 106,nat_lit 119,nat_lit 120,nat_lit 126,nat_lit 127,nat_lit 133,nat_lit 134,nat_lit 140,nat_lit 141,nat_lit 147,nat_lit 148,nat_lit 150,nat_lit 151,nat_lit 161,nat_lit 162,nat_lit 166,nat_lit 167,nat_lit 173,nat_lit 174,nat_lit 180,nat_lit 181,nat_lit 187,nat_lit 188,nat_lit 194,nat_lit 195,nat_lit 201,nat_lit 202,nat_lit 208,nat_lit 209,nat_lit 213,nat_lit 214,nat_lit 220,nat_lit 221,nat_lit 227,nat_lit 228,nat_lit 234,nat_lit 235,nat_lit 241,nat_lit 242,nat_lit 248,nat_lit 249,nat_lit 255,nat_lit 256,nat_lit 262,nat_lit 263,nat_lit 267,nat_lit 268,nat_lit 272,nat_lit 273,nat_lit 277,nat_lit 278,nat_lit 282,nat_lit 283,nat_lit 289,nat_lit 290,nat_lit 294,nat_lit 295,nat_lit 301,nat_lit 302]
noncomputable def qv:Bq:={PySem.Challenge.pw_readgrove_k33_least_readings with main:={PySem.Challenge.pw_readgrove_k33_least_readings.main with body:=[aU 1,aU 2,aU 4,aU 5,aU 6,aU 7,aU 9,aU 11,aU 12,aU 13,aU 14,aU 15,aU 16,aU 17,aU 18,aU 20,aU 22,aU 24,aU 25,aU 27,aU 28,aU 29,aU 30,aU 31,aU 32,aU 33,aU 34,aU 35,aU 36,aU 37,aU 38,aU 39]}}
noncomputable def hk:PySem.W.Hook:=PySem.W.kHook hpK MB (fun _=>by kernel_rfl)
theorem MC{σ α β:Type}{o:Option σ}{f:σ->α}{g:σ->β}{a:α}{b:β}(h:o.map f=some a)(k:o.map g=some b):o.map (fun s=>(f s,g s))=some (a,b):=by
 cases o with
 | none=>cases h
 | some s=>cases h;cases k;rfl
set_option maxHeartbeats 0 in
open PySem.W in
theorem DG(w:Cj):(openEnds treeTable PySem.Challenge.rw_readgrove_k33_least_readings.row.prog w 3544).map hk.obs=some (hk.val w):=by kernel_rfl
set_option maxHeartbeats 0 in
open PySem.W in
theorem kY(w:Cj):(openEnds treeTable PySem.Challenge.rw_readgrove_k33_least_readings.row.prog w 3544).map (fun s=>openSeen qv [] (importedModules PySem.Challenge.rw_readgrove_k33_least_readings.row.prog.main.body) (fun s=>xlAt qv [] s && recOk (RowW.records (OpenRow.toRowW PySem.Challenge.rw_readgrove_k33_least_readings.row)) s) true s)=some (openGood qv []):=by kernel_rfl
open PySem.W in
theorem MD:LeftO PySem.Challenge.rw_readgrove_k33_least_readings.row.prog qv [] (fun s=>xlAt qv [] s && recOk (RowW.records (OpenRow.toRowW PySem.Challenge.rw_readgrove_k33_least_readings.row)) s) hk.obs hk.val 3544:=fun w=>MC (kY w) (DG w)
end Rg
namespace L2
open PySem PySem.Spec PyProof.Rows
abbrev aD:=Sum Int Str
def m8:aD->Ae->Bool
 | .inl k,v=>Value.isInt k v
 | .inr x,v=>Value.isStrOf x v
def ME(w:Cj):aD->Int
 | .inl k=>hashInt k
 | .inr x=>hashStr w x
theorem kA:∀ {k:aD} {v:Ae},m8 k v=true->(∃ i t,k=Sum.inl i/\v=Value.int i t)\/(∃ x t,k=Sum.inr x/\v=Value.str x t)
 | .inl i,v,h=>by
  obtain⟨t,e⟩:=Value.isInt_shape (k:=i) (v:=v) h
  exact .inl ⟨i,t,rfl,e⟩
 | .inr x,v,h=>by
  obtain⟨t,e⟩:=Value.isStrOf_shape (x:=x) (v:=v) h
  exact .inr ⟨x,t,rfl,e⟩
theorem MF(i:Int)(t:Tok):m8 (.inl i) (.int i t)=true:=by simp[m8,Value.isInt]
theorem MG(x:Str)(t:Tok):m8 (.inr x) (.str x t)=true:=by simp[m8,Value.isStrOf]
theorem MH(a b:Int):decide ((Sum.inl a:aD)=Sum.inl b)=(a == b):=by
 by_cases e:a=b
 ·subst e;simp
 ·have h:¬ (Sum.inl a:aD)=Sum.inl b:=fun q=>e (Sum.inl.inj q)
  rw[decide_eq_false h]
  exact(beq_eq_false_iff_ne.mpr e).symm
theorem MI(a b:Str):decide ((Sum.inr a:aD)=Sum.inr b)=decide (a=b):=by
 by_cases e:a=b
 ·subst e;simp
 ·have h:¬ (Sum.inr a:aD)=Sum.inr b:=fun q=>e (Sum.inr.inj q)
  rw[decide_eq_false h,decide_eq_false e]
theorem MJ(a:Int)(b:Str):decide ((Sum.inl a:aD)=Sum.inr b)=false:=decide_eq_false (fun q=>nomatch q)
theorem MK(a:Str)(b:Int):decide ((Sum.inr a:aD)=Sum.inl b)=false:=decide_eq_false (fun q=>nomatch q)
def c8(prog:Bq)(w:Cj):PySem.KeyKind prog w aD where
 is:=m8
 hash:=ME w
 inj:=fun v a b ha hb=>by
  rcases kA ha with⟨i,t,rfl,rfl⟩ | ⟨x,t,rfl,rfl⟩
  ·rcases kA hb with⟨j,u,rfl,e⟩ | ⟨y,u,rfl,e⟩
   ·injection e with e1 _;rw[e1]
   ·exact nomatch e
  ·rcases kA hb with⟨j,u,rfl,e⟩ | ⟨y,u,rfl,e⟩
   ·exact nomatch e
   ·injection e with e1 _;rw[e1]
 byValue:=fun k v h=>by
  rcases kA h with⟨i,t,rfl,rfl⟩ | ⟨x,t,rfl,rfl⟩ <;> rfl
 pyHash:=fun hv h=>by
  rcases kA hv with⟨i,t,rfl,rfl⟩ | ⟨x,t,rfl,rfl⟩
  ·exact wpAny_pyHash_int h
  ·exact wpAny_pyHash_str h
 eqBool:=fun hu hv h=>by
  rcases kA hu with⟨i,t,rfl,rfl⟩ | ⟨x,t,rfl,rfl⟩
  ·rcases kA hv with⟨j,u,rfl,rfl⟩ | ⟨y,u,rfl,rfl⟩
   ·rw[MH] at h;exact Jt h
   ·rw[MJ] at h;exact SeqAt.EqAt.int_str i t y u _ _ _ _ h
  ·rcases kA hv with⟨j,u,rfl,rfl⟩ | ⟨y,u,rfl,rfl⟩
   ·rw[MK] at h;exact SeqAt.EqAt.str_int x t j u _ _ _ _ h
   ·rw[MI] at h;exact wpAny_eqBool_str h
 «strs»:=fun k x t v h=>by
  rcases kA h with⟨i,u,rfl,e⟩ | ⟨y,u,rfl,e⟩
  ·exact nomatch e
  ·injection e with e1 _
   subst e1
   cases v <;> rfl
theorem ML(prog:Bq)(w:Cj)(i:Int)(t:Tok):(c8 prog w).is (.inl i) (.int i t)=true:=MF i t
theorem MM(prog:Bq)(w:Cj)(x:Str)(t:Tok):(c8 prog w).is (.inr x) (.str x t)=true:=MG x t
inductive V where
 | non | bl (b:Bool) | int (i:Int) | str (x:Str) | byt (b:Array UInt8) | flt (b:UInt64) | ref (a:Addr) | ty (n:String)
 deriving DecidableEq
def RelV:V->Ae->Prop
 | .non,u=>u=Value.none
 | .bl b,u=>u=Value.bool b
 | .int i,u=>∃ t,u=Value.int i t
 | .str x,u=>∃ t,u=Value.str x t
 | .byt b,u=>∃ t,u=Value.bytes b t
 | .flt b,u=>∃ t,u=Value.float b t
 | .ref a,u=>u=Value.ref a
 | .ty n,u=>u=Value.type n
abbrev aZ:List V->List Ae->Prop:=Ha RelV
theorem aZ.length{xs:List V}{us:List Ae}(r:aZ xs us):xs.length=us.length:=Ei r
theorem aZ.get:∀ {xs:List V} {us:List Ae} {i:Nat} {x:V},aZ xs us->xs[i]? = some x->∃ u,us[i]? = some u/\RelV x u
 | _,_,_,_,.nil,e=>by simp at e
 | _,_,0,_,.cons r _,e=>by simp at e;subst e;exact⟨_,rfl,r⟩
 | _,_,i + 1,x,.cons _ t,e=>by
  obtain⟨u,h1,h2⟩:=aZ.get (i:=i) (x:=x) t (by simpa using e)
  exact⟨u,by simpa using h1,h2⟩
theorem aZ.set{x:V}{u:Ae}(r:RelV x u):∀ {xs:List V} {us:List Ae} (i:Nat),aZ xs us->aZ (xs.set i x) (us.set i u)
 | _,_,_,.nil=>.nil
 | _,_,0,.cons _ t=>.cons r t
 | _,_,i + 1,.cons q t=>.cons q (aZ.set r i t)
theorem aZ.append:∀ {xs ys:List V} {us ws:List Ae},aZ xs us->aZ ys ws->aZ (xs ++ ys) (us ++ ws)
 | _,_,_,_,.nil,s=>s
 | _,_,_,_,.cons r t,s=>.cons r (aZ.append t s)
theorem aZ.take:∀ {xs:List V} {us:List Ae} (n:Nat),aZ xs us->aZ (xs.take n) (us.take n)
 | _,_,0,_=>.nil
 | _,_,_ + 1,.nil=>.nil
 | _,_,n + 1,.cons r t=>.cons r (aZ.take n t)
theorem aZ.drop:∀ {xs:List V} {us:List Ae} (n:Nat),aZ xs us->aZ (xs.drop n) (us.drop n)
 | _,_,0,r=>r
 | _,_,_ + 1,.nil=>.nil
 | _,_,n + 1,.cons _ t=>aZ.drop n t
def fM:Option V->Option Ae->Prop
 | some v,some u=>RelV v u
 | none,none=>True
 | _,_=>False
def KV{κ:Type}:List (κ×V)->List (κ×Ae)->Prop:=Ha fun(p:κ×V) (q:κ×Ae)=>p.1=q.1/\RelV p.2 q.2
def kV:aD->V
 | .inl i=>.int i
 | .inr x=>.str x
inductive HO where
 | lst (xs:List V)
 | tup (xs:List V)
 | dK (kvs:List (aD×V)) | dT (kvs:List (List aD×V))
 | set (S:Int->Bool) (n:Nat)
 | ins (C dx:Addr) (fs:List (Str×V))
 | own (x:Addr)
 | xd (fs:List (Str×V))
 | met (f x:Addr)
 | rng (lo hi:Int)
 | frz (o:Obj) (u:HO)
 | tbl (ps:Array Ae)
 | ext (φ:Heap->Prop)
abbrev Hp:=Addr->Option HO
def aS(H:Hp)(a:Addr)(o:HO):Hp:=fun b=>if b=a then some o else H b
theorem cJ{H:Hp}{a:Addr}{o:HO}:aS H a o a=some o:=by unfold aS;rw[if_pos rfl]
theorem bF{H:Hp}{a b:Addr}{o:HO}(h:b≠a):aS H a o b=H b:=by unfold aS;rw[if_neg h]
theorem r9{H:Hp}{a b:Addr}{o u:HO}(h:H a=some o)(h':H b=some u)(d:o≠u):a≠b:=by
 intro e;subst e;rw[h] at h';exact d (Ci h')
theorem eE{H:Hp}{a b:Addr}{o:HO}(h:H a=some o)(h':H b=none):a≠b:=by
 intro e;subst e;rw[h] at h';cases h'
section
variable (P:Bq)(w:Cj)
def cT(H:Hp)(h:Heap)(a:Addr):HO->Prop
 | .lst xs=>xs.length<=Am/\∃ (its:List Ae) (n:Nat),aZ xs its/\h.get? a=some {cls:=.type "list",data:=.seq its.toArray n}
 | .tup xs=>xs.length<=Am/\∃ its:List Ae,aZ xs its/\IsTup h a its.toArray
 | .dK kvs=>kvs.length<=Am/\(a == Fx)=false/\∃ vs,KV kvs vs/\h.DictOf (c8 P w) a vs
 | .dT kvs=>kvs.length<=Am/\(a == Fx)=false/\∃ xs:List (List aD×Addr×Ae),
   Ha (fun(p:List aD×V) (q:List aD×Addr×Ae)=>p.1=q.1/\H q.2.1=some (.tup (p.1.map kV))/\RelV p.2 q.2.2) kvs xs/\
   ∃ o es ep,h.get? a=some o/\o.ExactDict/\o.data=.dict es ep/\es.toList=xs.map (entryOfKey (Fu (c8 P w)))/\(xs.map (·.1)).Nodup
 | .set S n=>h.SetOf (intKind P w) a S n
 | .ins C dx fs=>H dx=some (.own a)/\fs.length<=1000/\dx≠a/\h.get? a=some (Gf C dx)/\
   ∃ mA,h.Ns1 dx mA/\(∀ f,fM (fs.lookup f) (mA f))/\PySem.Within mA (fs.map (·.1))
 | .own _=>∃ o,h.get? a=some o
 | .xd fs=>∃ mA,h.Ns1 a mA/\∀ f,fM (fs.lookup f) (mA f)
 | .rng lo hi=>∃ t u v,h.get? a=some {cls:=.type "range",data:=.fields #[.int lo t,.int hi u,.int 1 v]}
 | .frz o u=>h.get? a=some o/\cT H h a u
 | .tbl ps=>h.get? a=some {cls:=.none,data:=.fields ps}
 | .met f x=>h.get? a=some (PySem.W.methodObj (.ref f) (.ref x))
 | .ext φ=>φ h/\(∃ o,h.get? a=some o)/\∀ h1 h2:Heap,φ h1->(∀ o,h1.get? a=some o->h2.get? a=some o)->φ h2
def cX(H:Hp)(h:Heap):Prop:=∀ a o,H a=some o->cT P w H h a o
end
section
variable {P:Bq}{w:Cj}{H H':Hp}{h h':Heap}{a:Addr}{o:HO}
theorem cT.lt(x:cT P w H h a o):a < h.objs.size:=by
 cases o with
 | lst xs=>obtain⟨_,_,_,_,e⟩:=x;exact Ap e
 | tup xs=>obtain⟨_,_,_,p⟩:=x;exact p.lt
 | dK kvs=>obtain⟨_,_,_,_,o,_,_,e,_⟩:=x;exact Ap e
 | dT kvs=>obtain⟨_,_,_,_,o,_,_,e,_⟩:=x;exact Ap e
 | set S n=>obtain⟨o,_,_,_,e,_⟩:=x;exact Ap e
 | ins C dx fs=>obtain⟨_,_,_,e,_⟩:=x;exact Ap e
 | own y=>obtain⟨_,e⟩:=x;exact Ap e
 | xd fs=>obtain⟨_,⟨_,_,_,e,_⟩,_⟩:=x;exact Ap e
 | rng lo hi=>obtain⟨_,_,_,e⟩:=x;exact Ap e
 | frz ob u=>obtain⟨e,_⟩:=x;exact Ap e
 | tbl ps=>exact Ap (show h.get? a=some _ from x)
 | met f y=>exact Ap (show h.get? a=some _ from x)
 | ext φ=>obtain⟨_,⟨_,e⟩,_⟩:=x;exact Ap e
theorem Paired.mapP{α β:Type}{F G:α->β->Prop}:∀ {l₁:List α} {l₂:List β},Ha F l₁ l₂->(∀ a b,F a b->G a b)->Ha G l₁ l₂
 | _,_,.nil,_=>.nil
 | _,_,.cons r t,f=>.cons (f _ _ r) (Paired.mapP t f)
theorem cT.stay(x:cT P w H h a o)(k:∀ b u,(b=a\/H b=some (.own a))->h.get? b=some u->h'.get? b=some u)
  (ho:∀ b,H b=some (.own a)->H' b=some (.own a)) (ht:∀ b xs,H b=some (.tup xs)->H' b=some (.tup xs)):cT P w H' h' a o:=by
 induction o with
 | lst xs=>obtain⟨z,its,n,r,e⟩:=x;exact⟨z,its,n,r,k _ _ (.inl rfl) e⟩
 | tup xs=>obtain⟨z,its,r,ob,e,c⟩:=x;exact⟨z,its,r,ob,k _ _ (.inl rfl) e,c⟩
 | dK kvs=>obtain⟨z,y,vs,r,ob,es,ep,e,c⟩:=x;exact⟨z,y,vs,r,ob,es,ep,k _ _ (.inl rfl) e,c⟩
 | dT kvs=>
  obtain⟨z,y,xs,r,ob,es,ep,e,c⟩:=x
  exact⟨z,y,xs,Paired.mapP r fun p q z=>⟨z.1,ht _ _ z.2.1,z.2.2⟩,ob,es,ep,k _ _ (.inl rfl) e,c⟩
 | set S n=>obtain⟨ob,es,ep,t,e,c⟩:=x;exact⟨ob,es,ep,t,k _ _ (.inl rfl) e,c⟩
 | ins C dx fs=>
  obtain⟨d,z,ne,e,mA,⟨od,es,ep,e2,c⟩,r⟩:=x
  exact⟨ho _ d,z,ne,k _ _ (.inl rfl) e,mA,⟨od,es,ep,k _ _ (.inr d) e2,c⟩,r⟩
 | own y=>obtain⟨ob,e⟩:=x;exact⟨ob,k _ _ (.inl rfl) e⟩
 | xd fs=>obtain⟨mA,⟨od,es,ep,e,c⟩,r⟩:=x;exact⟨mA,⟨od,es,ep,k _ _ (.inl rfl) e,c⟩,r⟩
 | rng lo hi=>obtain⟨t,u,v,e⟩:=x;exact⟨t,u,v,k _ _ (.inl rfl) e⟩
 | frz ob u ih=>obtain⟨e,q⟩:=x;exact⟨k _ _ (.inl rfl) e,ih q⟩
 | tbl ps=>
  have e:h.get? a=some {cls:=.none,data:=.fields ps}:=x
  show h'.get? a=some {cls:=.none,data:=.fields ps}
  exact k a _ (.inl rfl) e
 | met f y=>
  have e:h.get? a=some (PySem.W.methodObj (.ref f) (.ref y)):=x
  show h'.get? a=some (PySem.W.methodObj (.ref f) (.ref y))
  exact k a _ (.inl rfl) e
 | ext φ=>obtain⟨p,⟨o,e⟩,st⟩:=x;exact⟨st _ _ p fun o q=>k _ _ (.inl rfl) q,⟨o,k _ _ (.inl rfl) e⟩,st⟩
theorem cX.lt(x:cX P w H h)(e:H a=some o):a < h.objs.size:=(x a o e).lt
theorem cX.fresh(x:cX P w H h)(e:h.objs.size<=a):H a=none:=by
 cases q:H a with
 | none=>rfl
 | some u=>exact absurd (Bw (x.lt q) e) (Jp _)
theorem cX.kept(x:cX P w H h)(k:∀ b u,h.get? b=some u->h'.get? b=some u):cX P w H h':=fun a o e=>
 (x a o e).stay (fun b u _ q=>k b u q) (fun _ q=>q) fun _ _ q=>q
theorem cX.laid(x:cX P w H h)(k:∀ b u,h.get? b=some u->h'.get? b=some u)(hp:h.objs.size<=a)(new:cT P w (aS H a o) h' a o):cX P w (aS H a o) h':=fun b u e=>by
 have hn:=x.fresh hp
 by_cases hb:b=a
 ·subst hb;rw[cJ] at e;cases e;exact new
 ·rw[bF hb] at e
  exact(x b u e).stay (fun c v _ q=>k c v q) (fun c q=>by rw[bF (eE q hn)];exact q) fun c xs q=>by rw[bF (eE q hn)];exact q
end
def Rd(H:Hp)(a:Addr)(u:HO):Prop:=H a=some u\/∃ o,H a=some (.frz o u)
theorem Rd.ok{P:Bq}{w:Cj}{H:Hp}{h:Heap}{a:Addr}{u:HO}(r:Rd H a u)(x:cX P w H h):cT P w H h a u:=by
 rcases r with r | ⟨o,r⟩
 ·exact x a u r
 ·obtain⟨_,q⟩:=x a _ r
  exact q
def p6:Option HO->Prop
 | some (.lst _)=>True
 | some (.dK _)=>True
 | some (.dT _)=>True
 | some (.set _ _)=>True
 | some (.ins _ _ _)=>True
 | some (.ext _)=>True
 | _=>False
section
variable {P:Bq}{w:Cj}{H:Hp}{h h':Heap}{x e:Addr}{o':HO}
theorem cX.write(ok:cX P w H h)(mu:p6 (H x))(he:e=x\/H e=some (.own x))(k:∀ b u,b≠e->h.get? b=some u->h'.get? b=some u)(heo:∃ u,h'.get? e=some u)
  (new:cT P w (aS H x o') h' x o'):cX P w (aS H x o') h':=fun b u q=>by
 have nown:∀ c y,H c=some (.own y)->c≠x:=fun c y r z=>by subst z;rw[r] at mu;exact mu
 have ntup:∀ c xs,H c=some (.tup xs)->c≠x:=fun c xs r z=>by subst z;rw[r] at mu;exact mu
 by_cases hb:b=x
 ·subst hb;rw[cJ] at q;cases q;exact new
 ·rw[bF hb] at q
  by_cases hbe:b=e
  ·have q':H b=some (.own x):=by
    rcases he with z | z
    ·exact absurd (hbe.trans z) hb
    ·rw[hbe];exact z
   rw[q] at q';cases q'
   obtain⟨v,hv⟩:=heo
   exact⟨v,by rw[hbe];exact hv⟩
  ·refine(ok b u q).stay (fun c v hc r=>k c v ?_ r) (fun c r=>by rw[bF (nown c b r)];exact r) fun c xs r=>by rw[bF (ntup c xs r)];exact r
   rcases hc with rfl | hc
   ·exact hbe
   ·rintro rfl
    rcases he with z | z
    ·exact nown c b hc z
    ·rw[hc] at z;cases z;exact hb rfl
end
structure Un(fs ex:List Addr)(H H':Hp)(h h':Heap):Prop where
 keep:∀ b o,h.get? b=some o->H b=none->b∉fs->b∉ex->h'.get? b=some o
 slot:∀ b o,h.get? b=some o->H b=none->b∈fs->b∉ex->∃ sl,h'.get? b=some {o with slots:=sl}
 free:∀ b o,h.get? b=some o->H b=none->b∉ex->H' b=none
 there:∀ b o,h.get? b=some o->b∉ex->∃ o',h'.get? b=some o'
 tups:∀ b xs,H b=some (.tup xs)->H' b=some (.tup xs)
 frzs:∀ b o u,H b=some (.frz o u)->H' b=some (.frz o u)
 tbls:∀ b ps,H b=some (.tbl ps)->∃ more,H' b=some (.tbl (ps ++ more))
section
variable {fs fs' ex ex':List Addr}{H H1 H2:Hp}{h h1 h2 h':Heap}{a x e:Addr}{o:HO}
theorem Un.any(u:Un fs ex H H1 h h1){b:Addr}{ob:Obj}(q:h.get? b=some ob)(n:H b=none)(hx:b∉ex):∃ sl,h1.get? b=some {ob with slots:=sl}:=by
 by_cases hb:b∈fs
 ·exact u.slot b ob q n hb hx
 ·exact⟨ob.slots,u.keep b ob q n hb hx⟩
theorem Un.kept(k:∀ b u,h.get? b=some u->h'.get? b=some u):Un fs ex H H h h':=
 ⟨fun b ob q _ _ _=>k b ob q,fun b ob q _ _ _=>⟨ob.slots,k b ob q⟩,fun _ _ _ n _=>n,fun b ob q _=>⟨ob,k b ob q⟩,fun _ _ q=>q,fun _ _ _ q=>q,fun _ ps q=>⟨#[],by rw[q];simp⟩⟩
theorem Un.refl:Un fs ex H H h h:=Un.kept fun _ _ q=>q
theorem Un.laid(k:∀ b u,h.get? b=some u->h'.get? b=some u)(hp:h.objs.size<=a)(hn:H a=none):Un fs ex H (aS H a o) h h' where
 keep:=fun b u q _ _ _=>k b u q
 slot:=fun b u q _ _ _=>⟨u.slots,k b u q⟩
 free:=fun b u q n _=>by rw[bF (Bg (Bw (Ap q) hp))];exact n
 there:=fun b u q _=>⟨u,k b u q⟩
 tups:=fun b xs q=>by rw[bF (eE q hn)];exact q
 frzs:=fun b u xs q=>by rw[bF (eE q hn)];exact q
 tbls:=fun b ps q=>⟨#[],by rw[bF (eE q hn),q];simp⟩
theorem Un.write(mu:p6 (H x))(he:e=x\/H e=some (.own x))(k:∀ b u,b≠e->h.get? b=some u->h'.get? b=some u)(heo:∃ u,h'.get? e=some u):Un fs ex H (aS H x o) h h':=by
 have hx:∀ b,H b=none->b≠x:=fun b n z=>by subst z;rw[n] at mu;exact mu
 have hb:∀ b,H b=none->b≠e:=fun b n z=>by
  subst z
  rcases he with r | r
  ·exact hx b n r
  ·rw[n] at r;cases r
 have hm:∀ b u,H b=some u->¬ p6 (some u)->b≠x:=fun b u q nm z=>by subst z;rw[q] at mu;exact nm mu
 refine⟨fun b u q n _ _=>k b u (hb b n) q,fun b u q n _ _=>⟨u.slots,k b u (hb b n) q⟩,fun b u q n _=>by rw[bF (hx b n)];exact n,fun b u q _=>?_,
  fun b xs q=>by rw[bF (hm b _ q fun z=>z)];exact q,fun b u xs q=>by rw[bF (hm b _ q fun z=>z)];exact q,fun b ps q=>⟨#[],by rw[bF (hm b _ q fun z=>z),q];simp⟩⟩
 by_cases hbe:b=e
 ·subst hbe;exact heo
 ·exact⟨u,k b u hbe q⟩
end
def sA(h:Heap)(H:Hp):List Addr:=(Cw h.objs.size).filter fun a=>(H a).isSome
def kZ(h:Heap)(H:Hp):Heap:=PySem.W.hideAll h (sA h H)
theorem MN(h:Heap)(H:Hp):(kZ h H).objs.size=h.objs.size:=PySem.W.hideAll_size _ _
theorem MP{h:Heap}{H:Hp}{b:Addr}{o:Obj}(e:h.get? b=some o)(n:H b=none):(kZ h H).get? b=some o:=
 PySem.W.hideAll_get _ e fun hm=>by
  have q:(H b).isSome=true:=(Es.mp hm).2
  rw[n] at q;simp at q
theorem MQ{h:Heap}{H:Hp}{b:Addr}{o:Obj}(e:(kZ h H).get? b=some o):h.get? b=some o/\H b=none:=by
 have e':h.get? b=some o:=PySem.W.of_hideAll (sA h H) e
 refine⟨e',?_⟩
 cases q:H b with
 | none=>rfl
 | some x=>
  have hm:b∈sA h H:=Es.mpr ⟨Ht.mpr (Ap e'),by simp[q]⟩
  have z:(kZ h H).get? b=none:=PySem.W.hideAll_none (sA h H) hm
  rw[z] at e;cases e
structure Mod(K:Ac)(mg:Str->Option Ae)(base:Heap):Prop where
 kin:K.In base
 glob:base.Ns Dz mg
 blt:∃ mb,base.Ns builtinsNs mb/\∀ x:Str,x≠"__name__"->mb x=Cp x
 nolimit:base.NoLimit
structure Cx where
 prog:Bq
 w:Cj
 K:Ac
 mg:Str->Option Ae
 base:Heap
 A:Co
 N:List Str
 s₀:Ag
 H₀:Hp
 env:Env
 outer:List Env
 stack:List Env
 ex:List Addr
 fn:Str->Bool
 calm:Bool
 pn:List (Addr×Obj)
 xe:Ae->Ag->Prop
def iG(l:List Env):List Addr:=l.filterMap (·.frame)
abbrev Cx.fs(X:Cx):List Addr:=iG X.outer
def sC(sc:Jb)(x:Str):Prop:=sc.names.lookup x=some .local\/sc.names.lookup x=some .cell\/sc.names.lookup x=some .free
def Loc(sc:Jb)(x:Str):Prop:=sc.names.lookup x=some .local\/sc.names.lookup x=some .cell
def Look(env:Env)(h:Heap)(m:Str->Option Ae)(x:Str)(u:Ae):Prop:=
 (env.kindOf x=some .local/\m x=some u)\/((env.kindOf x=some .cell\/env.kindOf x=some .free)/\∃ c,env.cells.lookup x=some c/\h.IsCell c (some u))
structure Cx.Ok(X:Cx):Prop where
 mod:Mod X.K X.mg X.base
 kind:X.env.scope.kind=.function
 glob:X.env.globals=Dz
 blt:X.env.builtins=builtinsNs
 above:X.s₀.heap.objs.size<=X.env.locals
 inj:∀ x y c,X.env.cells.lookup x=some c->X.env.cells.lookup y=some c->x=y
 has:∀ x,(X.env.kindOf x=some .cell\/X.env.kindOf x=some .free)->∃ c,X.env.cells.lookup x=some c
 cab:∀ x c,X.fn x=true->X.env.cells.lookup x=some c->X.s₀.heap.objs.size<=c
 hd:X.calm=true->X.A.handled=none
 frames:X.A.frames=some X.stack
 stk:X.stack=X.outer\/(X.stack=X.env :: X.outer/\X.env.frame=some X.env.locals)
 exf:∀ b∈X.ex,b≠X.env.locals/\∀ x c,X.env.cells.lookup x=some c->c≠b
 bs:∀ b o,X.base.get? b=some o->X.s₀.heap.get? b=some o/\X.H₀ b=none
 bsz:X.base.objs.size<=X.s₀.heap.objs.size
 noex:∀ b o,X.base.get? b=some o->b∉X.ex
 exfs:∀ b∈X.ex,b∉X.fs
 funs:X.s₀.heap.FunFrames X.base X.outer
 frf:∀ b∈X.fs,X.H₀ b=none
structure Inv(X:Cx)(pins:List (Addr×Obj))(σ:List (Option V))(H:Hp)(s:Ag):Prop where
 ok:X.Ok
 os:s.os=X.s₀.os
 bare:Mo s.gens
 base:Un X.fs X.ex X.H₀ H X.s₀.heap s.heap
 loc:∃ m,s.heap.Ns X.env.locals m/\∀ (i:Nat) (x:Str) (v:V),X.N[i]? = some x->σ[i]? = some (some v)->sC X.env.scope x->∃ u,RelV v u/\Look X.env s.heap m x u
 cell:∀ x c,X.env.cells.lookup x=some c->∃ v,s.heap.IsCell c v
 free:H X.env.locals=none
 freeC:∀ x c,X.env.cells.lookup x=some c->H c=none
 pin:∀ p∈X.pn ++ pins,s.heap.get? p.1=some p.2/\H p.1=none/\p.1≠X.env.locals/\p.1∉X.fs/\∀ v,p.2.data≠.cell v
 hok:cX X.prog X.w H s.heap
 len:σ.length=X.N.length
section
variable {X:Cx}{pins:List (Addr×Obj)}{σ:List (Option V)}{H H':Hp}{s:Ag}{h':Heap}
theorem Cx.Ok.nofr(ok:X.Ok){b:Addr}{o:Obj}(e:X.base.get? b=some o):b∉X.fs:=fun hb=>by
 have:=(ok.funs.mem hb).1
 rw[e] at this;cases this
theorem Inv.bs(I:Inv X pins σ H s):∀ b o,X.base.get? b=some o->s.heap.get? b=some o/\H b=none:=fun b o e=>
 ⟨I.base.keep b o (I.ok.bs b o e).1 (I.ok.bs b o e).2 (I.ok.nofr e) (I.ok.noex b o e),I.base.free b o (I.ok.bs b o e).1 (I.ok.bs b o e).2 (I.ok.noex b o e)⟩
theorem Inv.bk(I:Inv X pins σ H s):∀ b o,X.base.get? b=some o->s.heap.get? b=some o:=fun b o e=>(I.bs b o e).1
theorem Inv.mod(I:Inv X pins σ H s):Mod X.K X.mg X.base:=I.ok.mod
theorem Inv.kIn(I:Inv X pins σ H s):X.K.In s.heap:=I.ok.mod.kin.keeps I.bk
theorem Inv.lt(I:Inv X pins σ H s):X.env.locals < s.heap.objs.size:=let ⟨_,hn,_⟩:=I.loc;hn.lt
theorem Inv.sz(I:Inv X pins σ H s):X.s₀.heap.objs.size<=s.heap.objs.size:=Bh I.ok.above (Je I.lt)
theorem Inv.nofs(I:Inv X pins σ H s){a:Addr}(h:s.heap.objs.size<=a):a∉X.fs:=fun hb=>by
 obtain⟨_,o,ho,_⟩:=I.ok.funs.mem hb
 exact absurd (Bw (Ap ho) (Bh I.sz h)) (Jp _)
theorem Inv.cne(I:Inv X pins σ H s):∀ x c,X.env.cells.lookup x=some c->c≠X.env.locals:=fun x c e z=>by
 obtain⟨v,o,ho,hd⟩:=I.cell x c e
 obtain⟨m,⟨o',es,ep,ho',hd',_⟩,_⟩:=I.loc
 rw[z,ho'] at ho;cases ho;rw[hd'] at hd;cases hd
theorem Inv.funs(I:Inv X pins σ H s):s.heap.FunFrames X.base X.outer:=by
 have all:∀ (l:List Env),(∀ b∈iG l,b∈X.fs)->X.s₀.heap.FunFrames X.base l->s.heap.FunFrames X.base l:=by
  intro l
  induction l with
  | nil=>intro _ _;trivial
  | cons env r ih=>
   intro hs hl
   obtain⟨hk,⟨L,o,hf,hn,ho,hd⟩,hr⟩:=hl
   have hL:L∈X.fs:=hs L (by unfold iG;rw[Gr,hf];exact Bd)
   obtain⟨sl,e⟩:=I.base.slot L o ho (I.ok.frf L hL) hL fun z=>I.ok.exfs L z hL
   exact⟨hk,⟨L,_,hf,hn,e,hd⟩,ih (fun b hb=>hs b (by unfold iG;rw[Gr,hf];exact Au _ hb)) hr⟩
 exact all X.outer (fun _ hb=>hb) I.ok.funs
theorem Inv.stack(I:Inv X pins σ H s):s.heap.FunFrames X.base X.stack:=by
 rcases I.ok.stk with e | ⟨e,hf⟩
 ·rw[e];exact I.funs
 ·rw[e]
  obtain⟨m,hn,_⟩:=I.loc
  refine .cons (by rw[I.ok.kind];decide) hf hn ?_ I.funs
  exact Heap.get?_none_of_le (Bh I.ok.bsz I.ok.above)
theorem Inv.stkSub(I:Inv X pins σ H s):∀ b∈iG X.stack,b∈X.env.locals :: X.fs:=fun b hb=>by
 rcases I.ok.stk with e | ⟨e,hf⟩
 ·rw[e] at hb;exact Au _ hb
 ·rw[e] at hb
  unfold iG at hb
  rw[Gr,hf] at hb
  exact hb
theorem Inv.stkFree(I:Inv X pins σ H s):∀ b∈iG X.stack,H b=none:=fun b hb=>by
 rcases Ar.mp (I.stkSub b hb) with e | hb
 ·rw[e];exact I.free
 ·obtain⟨_,o,ho,_⟩:=I.ok.funs.mem hb
  exact I.base.free b o ho (I.ok.frf b hb) fun z=>I.ok.exfs b z hb
theorem Inv.step{g':Array GenState}{t':Nat}{d':Drawn}{ch:List Addr}(I:Inv X pins σ H s)
  (hch:∀ b∈ch,(b∈X.ex\/X.s₀.heap.objs.size<=b)/\b≠X.env.locals/\(∀ x c,X.env.cells.lookup x=some c->c≠b)/\∀ p∈X.pn ++ pins,p.1≠b)
  (keep:∀ b o,b≠X.env.locals->b∉X.fs->b∉ch->s.heap.get? b=some o->H b=none->h'.get? b=some o)
  (slot:∀ b o,b≠X.env.locals->b∈X.fs->b∉ch->s.heap.get? b=some o->H b=none->∃ sl,h'.get? b=some {o with slots:=sl}) (free:∀ b o,b∉ch->s.heap.get? b=some o->H b=none->H' b=none)
  (there:∀ b o,b∉ch->s.heap.get? b=some o->∃ o',h'.get? b=some o')
  (tups:∀ b xs,H b=some (.tup xs)->H' b=some (.tup xs)) (frzs:∀ b o u,H b=some (.frz o u)->H' b=some (.frz o u)) (tbls:∀ b ps,H b=some (.tbl ps)->∃ more,H' b=some (.tbl (ps ++ more)))
  (ns:∀ m,s.heap.Ns X.env.locals m->h'.Ns X.env.locals m) (hok:cX X.prog X.w H' h') (hg:Mo g') :
  Inv X pins σ H' {s with heap:=h',gens:=g',drawn:=d',toks:=t'}:=by
 have neL:∀ b o,X.s₀.heap.get? b=some o->b≠X.env.locals:=fun b o e=>Bg (Bw (Ap e) I.ok.above)
 have neC:∀ b o,X.s₀.heap.get? b=some o->b∉X.ex->b∉ch:=fun b o e hx hb=>by
  rcases(hch b hb).1 with z | z
  ·exact hx z
  ·exact absurd (Bw (Ap e) z) (Jp _)
 have cellK:∀ x c,X.env.cells.lookup x=some c->∀ v,s.heap.IsCell c v->h'.IsCell c v:=fun x c e v ⟨o,ho,hd⟩=>by
  have nch:c∉ch:=fun z=>(hch c z).2.2.1 x c e rfl
  by_cases hc:c∈X.fs
  ·obtain⟨sl,q⟩:=slot c o (I.cne x c e) hc nch ho (I.freeC x c e)
   exact⟨_,q,hd⟩
  ·exact⟨o,keep c o (I.cne x c e) hc nch ho (I.freeC x c e),hd⟩
 refine⟨I.ok,I.os,hg,⟨fun b o e n hb hx=>?_,fun b o e n hb hx=>?_,fun b o e n hx=>?_,fun b o e hx=>?_,fun b xs e=>tups b xs (I.base.tups b xs e),fun b o xs e=>frzs b o xs (I.base.frzs b o xs e),fun b ps e=>?_⟩,?_,fun x c e=>?_,?_,fun x c e=>?_,fun p hp=>?_,hok,I.len⟩
 ·exact keep b o (neL b o e) hb (neC b o e hx) (I.base.keep b o e n hb hx) (I.base.free b o e n hx)
 ·obtain⟨sl,e1⟩:=I.base.slot b o e n hb hx
  obtain⟨sl',e2⟩:=slot b _ (neL b o e) hb (neC b o e hx) e1 (I.base.free b o e n hx)
  exact⟨sl',e2⟩
 ·obtain⟨o',e1⟩:=I.base.there b o e hx
  exact free b o' (neC b o e hx) e1 (I.base.free b o e n hx)
 ·obtain⟨o',e1⟩:=I.base.there b o e hx
  exact there b o' (neC b o e hx) e1
 ·obtain⟨m1,e1⟩:=I.base.tbls b ps e
  obtain⟨m2,e2⟩:=tbls b _ e1
  exact⟨m1 ++ m2,by rw[e2,Array.append_assoc]⟩
 ·obtain⟨m,hn,hl⟩:=I.loc
  refine⟨m,ns m hn,fun i x v e1 e2 e3=>?_⟩
  obtain⟨u,r,l⟩:=hl i x v e1 e2 e3
  refine⟨u,r,?_⟩
  rcases l with l | ⟨k,c,e,z⟩
  ·exact .inl l
  ·exact .inr ⟨k,c,e,cellK x c e _ z⟩
 ·obtain⟨v,z⟩:=I.cell x c e
  exact⟨v,cellK x c e v z⟩
 ·obtain⟨m,⟨o,_,_,ho,_⟩,_⟩:=I.loc
  exact free _ o (fun z=>(hch _ z).2.1 rfl) ho I.free
 ·obtain⟨v,o,ho,hd⟩:=I.cell x c e
  exact free c o (fun z=>(hch c z).2.2.1 x c e rfl) ho (I.freeC x c e)
 ·obtain⟨e,n,ne,nf,d⟩:=I.pin p hp
  have nch:p.1∉ch:=fun z=>(hch p.1 z).2.2.2 p hp rfl
  exact⟨keep p.1 p.2 ne nf nch e n,free p.1 p.2 nch e n,ne,nf,d⟩
theorem Inv.un{t':Nat}(I:Inv X pins σ H s)(u:Un X.fs [] H H' s.heap h')(hok:cX X.prog X.w H' h'):Inv X pins σ H' {s with heap:=h',toks:=t'}:=by
 obtain⟨m,⟨o,es,ep,ho,r⟩,_⟩:=id I.loc
 obtain⟨sl,hL⟩:=u.any ho I.free (by simp)
 exact I.step (g':=s.gens) (d':=s.drawn) (ch:=[]) (fun _ z=>nomatch z) (fun b o _ hb _ e n=>u.keep b o e n hb (by simp)) (fun b o _ hb _ e n=>u.slot b o e n hb (by simp)) (fun b o _ e n=>u.free b o e n (by simp)) (fun b o _ e=>u.there b o e (by simp)) u.tups u.frzs u.tbls (fun m' hm=>by
  obtain⟨o',es',ep',ho',r'⟩:=hm
  rw[ho] at ho';cases ho'
  exact⟨_,es',ep',hL,r'⟩) hok I.bare
theorem Inv.call{g':Array GenState}{t':Nat}{d':Drawn}{ch:List Addr}(I:Inv X pins σ H s)(u:Un (iG X.stack) ch H H' s.heap h')(hok:cX X.prog X.w H' h')(hg:Mo g')
  (hch:∀ b∈ch,(b∈X.ex\/X.s₀.heap.objs.size<=b)/\b≠X.env.locals/\(∀ x c,X.env.cells.lookup x=some c->c≠b)/\∀ p∈X.pn ++ pins,p.1≠b) :
  Inv X pins σ H' {s with heap:=h',gens:=g',drawn:=d',toks:=t'}:=by
 obtain⟨m,⟨o,es,ep,ho,r⟩,_⟩:=id I.loc
 obtain⟨sl,hL⟩:=u.any ho I.free fun z=>(hch _ z).2.1 rfl
 exact I.step (ch:=ch) hch (fun b o hL hb hc e n=>u.keep b o e n (fun z=>(Ar.mp (I.stkSub b z)).elim hL hb) hc) (fun b o _ _ hc e n=>u.any e n hc) (fun b o hc e n=>u.free b o e n hc) (fun b o hc e=>u.there b o e hc) u.tups u.frzs u.tbls (fun m' hm=>by
  obtain⟨o',es',ep',ho',r'⟩:=hm
  rw[ho] at ho';cases ho'
  exact⟨_,es',ep',hL,r'⟩) hok hg
theorem Inv.turned{t':Nat}{it:Addr}(I:Inv X pins σ H s)(k:∀ b o,b≠it->s.heap.get? b=some o->h'.get? b=some o)(hn:H it=none)(hL:it≠X.env.locals)
  (h1:it∈X.ex\/X.s₀.heap.objs.size<=it) (h2:∀ x c,X.env.cells.lookup x=some c->c≠it) (h3:∀ p∈X.pn ++ pins,p.1≠it):Inv X pins σ H {s with heap:=h',toks:=t'}:=by
 have nit:∀ b u,H b=some u->b≠it:=fun b u e z=>by rw[z,hn] at e;cases e
 refine I.step (g':=s.gens) (d':=s.drawn) (ch:=[it]) (fun b hb=>?_) (fun b o _ _ hc e _=>k b o (fun z=>hc (by simp[z])) e) (fun b o _ _ hc e _=>⟨o.slots,k b o (fun z=>hc (by simp[z])) e⟩) (fun _ _ _ _ n=>n)
  (fun b o hc e=>⟨o,k b o (fun z=>hc (by simp[z])) e⟩) (fun _ _ e=>e) (fun _ _ _ e=>e) (fun b ps e=>⟨#[],by rw[e];simp⟩) (fun m hm=>?_) (fun b u e=>?_) I.bare
 ·have e:b=it:=by simpa using hb
  subst e
  exact⟨h1,hL,h2,h3⟩
 ·obtain⟨o,es,ep,ho,r⟩:=hm
  exact⟨o,es,ep,k _ o (Bf hL) ho,r⟩
 ·refine(I.hok b u e).stay (fun c v hc q=>k c v ?_ q) (fun _ q=>q) fun _ _ q=>q
  rcases hc with z | z
  ·rw[z];exact nit b u e
  ·exact nit c _ z
theorem Inv.tok(I:Inv X pins σ H s)(t:Nat):Inv X pins σ H {s with toks:=t}:=I.un (h':=s.heap) (t':=t) Un.refl I.hok
theorem Inv.kept{t':Nat}(I:Inv X pins σ H s)(k:∀ b u,s.heap.get? b=some u->h'.get? b=some u):Inv X pins σ H {s with heap:=h',toks:=t'}:=I.un (Un.kept k) (I.hok.kept k)
theorem Inv.laid{a:Addr}{o:HO}{t':Nat}(I:Inv X pins σ H s)(k:∀ b u,s.heap.get? b=some u->h'.get? b=some u)(hp:s.heap.objs.size<=a)(new:cT X.prog X.w (aS H a o) h' a o) :
  Inv X pins σ (aS H a o) {s with heap:=h',toks:=t'}:=I.un (Un.laid k hp (I.hok.fresh hp)) (I.hok.laid k hp new)
theorem Inv.write{x e:Addr}{o:HO}{t':Nat}(I:Inv X pins σ H s)(mu:p6 (H x))(he:e=x\/H e=some (.own x))(k:∀ b u,b≠e->s.heap.get? b=some u->h'.get? b=some u)(heo:∃ u,h'.get? e=some u)
  (new:cT X.prog X.w (aS H x o) h' x o):Inv X pins σ (aS H x o) {s with heap:=h',toks:=t'}:=I.un (Un.write mu he k heo) (I.hok.write mu he k heo new)
theorem Inv.pins_of{pins':List (Addr×Obj)}(I:Inv X pins σ H s)(h:∀ p∈pins',s.heap.get? p.1=some p.2/\H p.1=none/\p.1≠X.env.locals/\p.1∉X.fs/\∀ v,p.2.data≠.cell v):Inv X pins' σ H s:=
 ⟨I.ok,I.os,I.bare,I.base,I.loc,I.cell,I.free,I.freeC,fun p hp=>(Bo.mp hp).elim (fun z=>I.pin p (Bu _ z)) (h p),I.hok,I.len⟩
theorem DH{N:List Str}(hN:N.Nodup){i j:Nat}{x:Str}(a:N[i]? = some x)(b:N[j]? = some x):i=j:=by
 obtain⟨h1,e1⟩:=Aj.mp a
 obtain⟨h2,e2⟩:=Aj.mp b
 exact(List.getElem_inj hN).mp (e1.trans e2.symm)
theorem DJ{M:Model}{A:Co}{E:Ae->Ag->Prop}{i:Nat}{x:Str}{v:V}{u:Ae}{Q:Unit->Ag->Prop}(I:Inv X pins σ H s)(hN:X.N.Nodup)(hi:X.N[i]? = some x)(hx:Loc X.env.scope x)(r:RelV v u)
  (h:∀ s',Inv X pins (σ.set i (some v)) H s'->(∃ a,Ff a s.heap s'.heap/\(a=X.env.locals\/X.env.cells.lookup x=some a))->Q () s') (hf:X.fn x=true\/X.env.scope.names.lookup x=some .local:=by first | exact .inl rfl | exact .inr rfl | assumption):Bc M A (storeName X.env x u) Q E s:=by
 obtain⟨m,hn,hl⟩:=id I.loc
 have hcls:(X.env.scope.kind == .class || (X.env.scope.kind == .module && X.env.locals != X.env.globals))=false:=by rw[I.ok.kind];rfl
 have hiσ:i < σ.length:=by rw[I.len];exact(Aj.mp hi).1
 have cne:=I.cne
 have tracked:∀ {a:Addr} {h':Heap},(∃ o,s.heap.get? a=some o/\H a=none)->Ff a s.heap h'->cX X.prog X.w H h':=fun {a h'} ha hs b ob e=>by
  obtain⟨_,_,hfree⟩:=ha
  refine(I.hok b ob e).stay (fun c w' hc q=>(hs.2 c ?_).trans q) (fun _ q=>q) fun _ _ q=>q
  rintro rfl
  rcases hc with rfl | hc
  ·rw[hfree] at e;cases e
  ·rw[hfree] at hc;cases hc
 rcases hx with hk | hk
 ·refine wpAny_storeName_local hk hn (fun h' hn' hs=>?_) hcls
  obtain⟨oL,_,_,hoL,_⟩:=id hn
  refine h _ ⟨I.ok,I.os,I.bare,⟨fun b o e n hb hx=>?_,fun b o e n hb hx=>?_,I.base.free,fun b o e hx=>?_,I.base.tups,I.base.frzs,I.base.tbls⟩,⟨_,hn',fun j y v' e1 e2 e3=>?_⟩,fun y c e=>?_,I.free,I.freeC,fun p hp=>?_,tracked ⟨oL,hoL,I.free⟩ hs,by simpa using I.len⟩ ⟨_,hs,.inl rfl⟩
  ·exact(hs.2 b (Bg (Bw (Ap e) I.ok.above))).trans (I.base.keep b o e n hb hx)
  ·obtain⟨sl,e1⟩:=I.base.slot b o e n hb hx
   exact⟨sl,(hs.2 b (Bg (Bw (Ap e) I.ok.above))).trans e1⟩
  ·obtain⟨o',e1⟩:=I.base.there b o e hx
   exact⟨o',(hs.2 b (Bg (Bw (Ap e) I.ok.above))).trans e1⟩
  ·by_cases hj:j=i
   ·subst hj
    rw[hi] at e1;cases e1
    rw[List.getElem?_set_self hiσ] at e2
    cases e2
    exact⟨u,r,.inl ⟨hk,by simp⟩⟩
   ·rw[List.getElem?_set_ne (Bf hj)] at e2
    obtain⟨u',r',q⟩:=hl j y v' e1 e2 e3
    refine⟨u',r',?_⟩
    rcases q with⟨k,e⟩ | ⟨k,c,e,z⟩
    ·refine .inl ⟨k,?_⟩
     have:y≠x:=fun e=>hj (DH hN e1 (e ▸ hi))
     simp[this,e]
    ·exact .inr ⟨k,c,e,z.sameBut hs (cne y c e)⟩
  ·obtain⟨w',z⟩:=I.cell y c e
   exact⟨w',z.sameBut hs (cne y c e)⟩
  ·obtain⟨e,n,ne,nf,d⟩:=I.pin p hp
   exact⟨(hs.2 p.1 ne).trans e,n,ne,nf,d⟩
 ·have hfn:X.fn x=true:=by
   rcases hf with z | z
   ·exact z
   ·rw[z] at hk;cases hk
  obtain⟨c,hc⟩:=I.ok.has x (.inl hk)
  obtain⟨w',z⟩:=I.cell x c hc
  refine wpAny_storeName_cell I.ok.kind hk hc z (fun h' hc' hs=>?_)
  obtain⟨oc,hoc,hocd⟩:=id z
  refine h {s with heap:=h'} ⟨I.ok,I.os,I.bare,⟨fun b o e n hb hx=>?_,fun b o e n hb hx=>?_,I.base.free,fun b o e hx=>?_,I.base.tups,I.base.frzs,I.base.tbls⟩,⟨m,hn.sameBut hs (Bf (cne x c hc)),fun j y v' e1 e2 e3=>?_⟩,fun y c' e=>?_,I.free,I.freeC,fun p hp=>?_,tracked ⟨oc,hoc,I.freeC x c hc⟩ hs,by simpa using I.len⟩ ⟨c,hs,.inr hc⟩
  ·exact(hs.2 b (Bg (Bw (Ap e) (I.ok.cab x c hfn hc)))).trans (I.base.keep b o e n hb hx)
  ·obtain⟨sl,e1⟩:=I.base.slot b o e n hb hx
   exact⟨sl,(hs.2 b (Bg (Bw (Ap e) (I.ok.cab x c hfn hc)))).trans e1⟩
  ·obtain⟨o',e1⟩:=I.base.there b o e hx
   exact⟨o',(hs.2 b (Bg (Bw (Ap e) (I.ok.cab x c hfn hc)))).trans e1⟩
  ·by_cases hj:j=i
   ·subst hj
    rw[hi] at e1;cases e1
    rw[List.getElem?_set_self hiσ] at e2
    cases e2
    exact⟨u,r,.inr ⟨.inl hk,c,hc,hc'⟩⟩
   ·rw[List.getElem?_set_ne (Bf hj)] at e2
    obtain⟨u',r',q⟩:=hl j y v' e1 e2 e3
    refine⟨u',r',?_⟩
    rcases q with q | ⟨k,c',e,z'⟩
    ·exact .inl q
    ·refine .inr ⟨k,c',e,z'.sameBut hs ?_⟩
     rintro rfl
     exact hj (DH hN e1 (I.ok.inj _ _ _ e hc ▸ hi))
  ·by_cases hcc:c'=c
   ·subst hcc;exact⟨_,hc'⟩
   ·obtain⟨w2,z2⟩:=I.cell y c' e
    exact⟨w2,z2.sameBut hs hcc⟩
  ·obtain⟨e,n,ne,nf,d⟩:=I.pin p hp
   refine⟨(hs.2 p.1 ?_).trans e,n,ne,nf,d⟩
   intro q
   rw[q,hoc] at e
   have q':oc=p.2:=Ci e
   exact d w' (by rw[<-q'];exact hocd)
theorem DK{M:Model}{A:Co}{E:Ae->Ag->Prop}{i:Nat}{x:Str}{v:V}{u:Ae}{Q:Unit->Ag->Prop}(I:Inv X pins σ H s)(hN:X.N.Nodup)(hi:X.N[i]? = some x)(hx:Loc X.env.scope x)(r:RelV v u)
  (h:∀ s',Inv X pins (σ.set i (some v)) H s'->Q () s') (hf:X.fn x=true\/X.env.scope.names.lookup x=some .local:=by first | exact .inl rfl | exact .inr rfl | assumption):Bc M A (storeName X.env x u) Q E s:=
 DJ I hN hi hx r (fun s' I' _=>h s' I') hf
theorem Inv.call'{s':Ag}{ch:List Addr}(I:Inv X pins σ H s)(ho:s'.os=s.os)(u:Un (iG X.stack) ch H H' s.heap s'.heap)(hok:cX X.prog X.w H' s'.heap)(hg:Mo s'.gens)
  (hch:∀ b∈ch,(b∈X.ex\/X.s₀.heap.objs.size<=b)/\b≠X.env.locals/\(∀ x c,X.env.cells.lookup x=some c->c≠b)/\∀ p∈X.pn ++ pins,p.1≠b):Inv X pins σ H' s':=by
 obtain⟨h',g',d',t',o'⟩:=s'
 have e:o'=s.os:=ho
 subst e
 exact I.call (g':=g') (t':=t') (d':=d') u hok hg hch
end
abbrev XK:=Ae->Option Addr->Hp->Prop
abbrev St:=List (Option V)
abbrev VK:=V->Hp->Prop
abbrev TE:=St->Hp->VK->Prop
abbrev TT:=St->Hp->(Bool->Hp->Prop)->Prop
abbrev TA:=St->Hp->(List V->Hp->Prop)->Prop
structure k7 where
 nx:St->Hp->Prop
 rt:VK
 bk:St->Hp->Prop:=fun _ _=>False
 ct:St->Hp->Prop:=fun _ _=>False
abbrev TS:=k7->St->Hp->Prop
def EP(X:Cx)(pins:List (Addr×Obj))(σ:St)(Q:VK)(u:Ae)(s':Ag):Prop:=∃ v H',Inv X pins σ H' s'/\RelV v u/\Q v H'
def TP(X:Cx)(pins:List (Addr×Obj))(σ:St)(Q:Bool->Hp->Prop)(b:Bool)(s':Ag):Prop:=∃ H',Inv X pins σ H' s'/\Q b H'
def AP(X:Cx)(pins:List (Addr×Obj))(σ:St)(Q:List V->Hp->Prop)(us:List Ae)(s':Ag):Prop:=∃ vs H',Inv X pins σ H' s'/\aZ vs us/\Q vs H'
def SP(X:Cx)(pins:List (Addr×Obj))(D:k7)(f:Flow)(s':Ag):Prop:=
 match f with
 | .next=>∃ σ' H',Inv X pins σ' H' s'/\D.nx σ' H'
 | .brk=>∃ σ' H',Inv X pins σ' H' s'/\D.bk σ' H'
 | .cont=>∃ σ' H',Inv X pins σ' H' s'/\D.ct σ' H'
 | .ret u=>∃ v σ' H',Inv X pins σ' H' s'/\RelV v u/\D.rt v H'
def PE(X:Cx)(e:Expr)(t:TE):Prop:=
 ∀ (pins:List (Addr×Obj)) (s:Ag) (σ:St) (H:Hp) (Q:VK),Inv X pins σ H s->t σ H Q->Bc (Bn X.prog X.w) X.A (eval e X.env) (EP X pins σ Q) X.xe s
def PT(X:Cx)(e:Expr)(t:TT):Prop:=
 ∀ (pins:List (Addr×Obj)) (s:Ag) (σ:St) (H:Hp) (Q:Bool->Hp->Prop),Inv X pins σ H s->t σ H Q->Bc (Bn X.prog X.w) X.A (isTrue e X.env (eval e X.env)) (TP X pins σ Q) X.xe s
def PW(X:Cx)(e:Expr)(t:TT):Prop:=
 ∀ (whole:Sem Ae) (pins:List (Addr×Obj)) (s:Ag) (σ:St) (H:Hp) (Q:Bool->Hp->Prop),Inv X pins σ H s->t σ H Q->Bc (Bn X.prog X.w) X.A (isTrue e X.env whole) (TP X pins σ Q) X.xe s
theorem PW.pt{X:Cx}{e:Expr}{t:TT}(h:PW X e t):PT X e t:=h _
def PA(X:Cx)(es:List Expr)(t:TA):Prop:=
 ∀ (pos:Pos) (pins:List (Addr×Obj)) (s:Ag) (σ:St) (H:Hp) (Q:List V->Hp->Prop),Inv X pins σ H s->t σ H Q->Bc (Bn X.prog X.w) X.A (spliced (Gu pos (Bi es X.env))) (AP X pins σ Q) X.xe s
def PS(X:Cx)(st:Stmt)(t:TS):Prop:=
 ∀ (pins:List (Addr×Obj)) (s:Ag) (σ:St) (H:Hp) (D:k7),Inv X pins σ H s->t D σ H->Bc (Bn X.prog X.w) X.A (exec st X.env) (SP X pins D) X.xe s
def fW(X:Cx)(st:List Stmt)(t:TS):Prop:=
 ∀ (pins:List (Addr×Obj)) (s:Ag) (σ:St) (H:Hp) (D:k7),Inv X pins σ H s->t D σ H->Bc (Bn X.prog X.w) X.A (execs st X.env) (SP X pins D) X.xe s
theorem a7{α:Type}{t:Sem α}{Q Q':α->Ag->Prop}{M:Model}{A:Co}{E:Ae->Ag->Prop}{s:Ag}(h:Bc M A t Q E s)(hQ:∀ a s,Q a s->Q' a s):Bc M A t Q' E s:=Ij h hQ fun _ _ x=>x
section
variable {X:Cx}
def MR(i:Nat):TE:=fun σ H Q=>∃ v,σ[i]? = some (some v)/\Q v H
def tC(v:V):TE:=fun _ H Q=>Q v H
theorem DL{i:Nat}{x:Str}{pos:Pos}(hN:X.N[i]? = some x)(hv:sC X.env.scope x)(hd:(x == ("__debug__" : Str))=false:=by decide)(hcd:(x == ("__classdict__" : Str))=false:=by decide):PE X (.Name x pos) (MR i):=by
 intro pins s σ H Q I h
 obtain⟨v,e,h⟩:=h
 obtain⟨m,hn,hl⟩:=I.loc
 obtain⟨u,r,l⟩:=hl i x v hN e hv
 have fin:EP X pins σ Q u s:=⟨v,H,I,r,h⟩
 rcases l with⟨hk,hm⟩ | ⟨hk,c,hc,hcell⟩
 ·exact wpAny_Name (wpAny_loadName_local I.ok.kind hk hn hm fin) hd
 ·rcases hk with hk | hk
  ·exact wpAny_Name (wpAny_loadName_cell I.ok.kind hk hc hcell fin) hd
  ·exact wpAny_Name (wpAny_loadName_free I.ok.kind hk hc hcell fin hcd) hd
theorem MS{i j pos}:PE X (.Constant (.int i) j pos) (tC (.int i)):=fun _ _ _ H _ I h=>wpAny_Constant_int ⟨.int i,H,I.tok _,⟨_,rfl⟩,h⟩
theorem MT{b j pos}:PE X (.Constant (.bool b) j pos) (tC (.bl b)):=fun _ _ _ H _ I h=>Constant_bool ⟨.bl b,H,I,rfl,h⟩
theorem MU{j pos}:PE X (.Constant .none j pos) (tC .non):=fun _ _ _ H _ I h=>Constant_none ⟨.non,H,I,rfl,h⟩
theorem MV{x j pos}:PE X (.Constant (.str x) j pos) (tC (.str x)):=fun _ _ _ H _ I h=>Calls.Constant_str ⟨.str x,H,I.tok _,⟨_,rfl⟩,h⟩
def Gl(X:Cx)(x:Str):Prop:=X.env.kindOf x=some .globalImplicit
theorem p7{E:Ae->Ag->Prop}{pins:List (Addr×Obj)}{s:Ag}{σ:St}{H:Hp}{x:Str}{u:Ae}{pos:Pos}{Q:Ae->Ag->Prop}(I:Inv X pins σ H s)(hg:Gl X x)(hm:X.mg x=some u)(h:Q u s)
  (hd:(x == ("__debug__" : Str))=false:=by decide):Bc (Bn X.prog X.w) X.A (eval (.Name x pos) X.env) Q E s:=
 Calls.Name_function_global I.ok.kind hg (Calls.loadGlobal_global (by rw[I.ok.glob];exact I.mod.glob.keeps I.bk) hm h) hd
theorem iY{E:Ae->Ag->Prop}{pins:List (Addr×Obj)}{s:Ag}{σ:St}{H:Hp}{x:Str}{u:Ae}{pos:Pos}{Q:Ae->Ag->Prop}(I:Inv X pins σ H s)(hg:Gl X x)(hm:X.mg x=none)(hv:Cp x=some u)(h:Q u s)
  (hn:x≠"__name__":=by decide) (hd:(x == ("__debug__" : Str))=false:=by decide):Bc (Bn X.prog X.w) X.A (eval (.Name x pos) X.env) Q E s:=by
 obtain⟨mb,h1,h2⟩:=I.mod.blt
 exact Calls.Name_function_global I.ok.kind hg (Calls.loadGlobal_builtin (by rw[I.ok.glob];exact I.mod.glob.keeps I.bk) hm (by rw[I.ok.blt];exact h1.keeps I.bk) ((h2 x hn).trans hv) h) hd
theorem MW{x:Str}{v:V}{u:Ae}{pos:Pos}(hg:Gl X x)(hm:X.mg x=some u)(r:RelV v u)(hd:(x == ("__debug__" : Str))=false:=by decide):PE X (.Name x pos) (tC v):=
 fun _ _ _ H _ I h=>p7 I hg hm ⟨v,H,I,r,h⟩ hd
theorem MX{x:Str}{v:V}{u:Ae}{pos:Pos}(hg:Gl X x)(hm:X.mg x=none)(hv:Cp x=some u)(r:RelV v u)(hn:x≠"__name__":=by decide)(hd:(x == ("__debug__" : Str))=false:=by decide):PE X (.Name x pos) (tC v):=
 fun _ _ _ H _ I h=>iY I hg hm hv ⟨v,H,I,r,h⟩ hn hd
variable {a b:Expr}{ta tb:TE}{pos:Pos}
variable {tA tB':TT}{rest:List Expr}
def MY(t u:TT):TT:=fun σ H Q=>t σ H fun c H1=>if c=true then u σ H1 Q else Q false H1
def MZ(t u:TT):TT:=fun σ H Q=>t σ H fun c H1=>if c=true then Q true H1 else u σ H1 Q
def M8(t:TT):TT:=fun σ H Q=>t σ H fun c H1=>Q (!c) H1
theorem M9(ha:PT X a tA):PW X (.BoolOp .And [a] pos) tA:=by
 intro wh pins s σ H Q I h
 refine isTrue_and (a7 (ha pins s σ H Q I h) fun c s1 e=>?_)
 cases c with
 | true=>exact isTrue_and_nil e
 | false=>exact e
theorem NA(ha:PT X a tA):PW X (.BoolOp .Or [a] pos) tA:=by
 intro wh pins s σ H Q I h
 refine isTrue_or (a7 (ha pins s σ H Q I h) fun c s1 e=>?_)
 cases c with
 | false=>exact isTrue_or_nil e
 | true=>exact e
theorem NB(ha:PT X a tA)(hb:PW X (.BoolOp .And (b :: rest) pos) tB'):PW X (.BoolOp .And (a :: b :: rest) pos) (MY tA tB'):=by
 intro wh pins s σ H Q I h
 refine isTrue_and (a7 (ha pins s σ H _ I h) fun c s1 ⟨H1,I1,q1⟩=>?_)
 cases c with
 | true=>exact hb wh pins s1 σ H1 Q I1 q1
 | false=>exact⟨H1,I1,q1⟩
theorem NC(ha:PT X a tA)(hb:PW X (.BoolOp .Or (b :: rest) pos) tB'):PW X (.BoolOp .Or (a :: b :: rest) pos) (MZ tA tB'):=by
 intro wh pins s σ H Q I h
 refine isTrue_or (a7 (ha pins s σ H _ I h) fun c s1 ⟨H1,I1,q1⟩=>?_)
 cases c with
 | true=>exact⟨H1,I1,q1⟩
 | false=>exact hb wh pins s1 σ H1 Q I1 q1
theorem ND(ha:PT X a tA):PT X (.UnaryOp .Not a pos) (M8 tA):=by
 intro pins s σ H Q I h
 exact isTrue_not (ha pins s σ H (fun c H1=>Q (!c) H1) I h)
def NF(ta tb:TE):TE:=fun σ H Q=>ta σ H fun x H1=>∃ c,x=.bl c/\if c=true then tb σ H1 Q else Q (.bl false) H1
theorem NG{op}{t:TE}(h:PE X a t):PE X (.BoolOp op [a] pos) t:=fun pins s σ H Q I hw=>BoolOp_one (h pins s σ H Q I hw)
theorem NH(ha:PE X a ta)(hb:PE X (.BoolOp .And (b :: rest) pos) tb):PE X (.BoolOp .And (a :: b :: rest) pos) (NF ta tb):=by
 intro pins s σ H Q I h
 refine BoolOp_and (a7 (ha pins s σ H _ I h) fun v s1 ⟨x,H1,I1,r1,q1⟩=>?_)
 obtain⟨c,rfl,q1⟩:=q1
 cases r1
 refine Jk ?_
 cases c with
 | true=>exact hb pins s1 σ H1 Q I1 q1
 | false=>exact⟨.bl false,H1,I1,rfl,q1⟩
end
def bD(K:Ac)(H:Hp)(a:Addr)(xs:List V):Prop:=
 Rd H a (.lst xs)\/
  ∃ (o:Obj) (its:Array Ae) (n:Nat),K.lookup a=some o/\o.cls=.type "list"/\o.dict=none/\o.data=.seq its n/\its.size<=Am/\aZ xs its.toList
def bL(K:Ac)(H:Hp)(a:Addr)(xs:List V):Prop:=
 Rd H a (.tup xs)\/
  ∃ (o:Obj) (its:Array Ae) (n:Nat),K.lookup a=some o/\o.cls=.type "tuple"/\o.data=.seq its n/\its.size<=Am/\aZ xs its.toList
def NI:Ae->Option V
 | .none=>some .non
 | .bool b=>some (.bl b)
 | .int i _=>some (.int i)
 | .str x _=>some (.str x)
 | .bytes b _=>some (.byt b)
 | .float b _=>some (.flt b)
 | .ref a=>some (.ref a)
 | .type n=>some (.ty n)
 | _=>none
theorem RelV.abs{x:V}{u:Ae}(r:RelV x u):NI u=some x:=by
 cases x with
 | non=>cases r;rfl
 | bl _=>cases r;rfl
 | int _=>obtain⟨t,rfl⟩:=r;rfl
 | str _=>obtain⟨t,rfl⟩:=r;rfl
 | byt _=>obtain⟨t,rfl⟩:=r;rfl
 | flt _=>obtain⟨t,rfl⟩:=r;rfl
 | ref _=>cases r;rfl
 | ty _=>cases r;rfl
theorem RelV.inj{x y:V}{u:Ae}(r:RelV x u)(q:RelV y u):x=y:=Ci (r.abs.symm.trans q.abs)
theorem aZ.inj:∀ {xs ys:List V} {us:List Ae},aZ xs us->aZ ys us->xs=ys
 | _,_,_,.nil,.nil=>rfl
 | _,_,_,.cons r t,.cons r' t'=>by rw[r.inj r',aZ.inj t t']
section
variable {X:Cx}{pins:List (Addr×Obj)}{σ:St}{H:Hp}{s:Ag}{a:Addr}{xs ys:List V}
theorem bD.of{K:Ac}(h:H a=some (.lst xs)):bD K H a xs:=.inl (.inl h)
theorem bL.of{K:Ac}(h:H a=some (.tup xs)):bL K H a xs:=.inl (.inl h)
theorem Inv.list(I:Inv X pins σ H s)(h:bD X.K H a xs):∃ its:List Ae,aZ xs its/\PlainL s.heap a its.toArray/\xs.length<=Am:=by
 rcases h with h | ⟨o,its,n,hk,hc,hd,hs,hz,r⟩
 ·obtain⟨z,its,n,r,e⟩:=h.ok I.hok
  exact⟨its,r,⟨_,n,e,rfl,rfl,rfl⟩,z⟩
 ·refine⟨its.toList,r,⟨o,n,I.kIn a o hk,hc,hd,by simpa using hs⟩,?_⟩
  have e:=r.length
  simp only[Gp] at e
  lia
theorem Inv.tuple(I:Inv X pins σ H s)(h:bL X.K H a xs):∃ its:List Ae,aZ xs its/\IsTup s.heap a its.toArray/\xs.length<=Am:=by
 rcases h with h | ⟨o,its,n,hk,hc,hs,hz,r⟩
 ·obtain⟨z,its,r,p⟩:=h.ok I.hok
  exact⟨its,r,p,z⟩
 ·refine⟨its.toList,r,⟨o,I.kIn a o hk,hc,n,by simpa using hs⟩,?_⟩
  have e:=r.length
  simp only[Gp] at e
  lia
theorem Inv.list_inj(I:Inv X pins σ H s)(h:bD X.K H a xs)(h':bD X.K H a ys):xs=ys:=by
 obtain⟨its,r,⟨o,n,e,_,_,d⟩,_⟩:=I.list h
 obtain⟨its',r',⟨o',n',e',_,_,d'⟩,_⟩:=I.list h'
 rw[e] at e';cases e'
 rw[d] at d'
 injection d' with d1 _
 have:its=its':=by simpa using congrArg Array.toList d1
 subst this
 exact r.inj r'
theorem Inv.tuple_inj(I:Inv X pins σ H s)(h:bL X.K H a xs)(h':bL X.K H a ys):xs=ys:=by
 obtain⟨its,r,⟨o,e,_,n,d⟩,_⟩:=I.tuple h
 obtain⟨its',r',⟨o',e',_,n',d'⟩,_⟩:=I.tuple h'
 rw[e] at e';cases e'
 rw[d] at d'
 injection d' with d1 _
 have:its=its':=by simpa using congrArg Array.toList d1
 subst this
 exact r.inj r'
end
abbrev Cx.wish(X:Cx)(E:Ae->Ag->Prop):Cx:={X with xe:=E}
abbrev Cx.nox(X:Cx):Cx:=X.wish fun _ _=>False
theorem Cx.Ok.wish{X:Cx}(ok:X.Ok)(E:Ae->Ag->Prop):(X.wish E).Ok:=
 ⟨ok.mod,ok.kind,ok.glob,ok.blt,ok.above,ok.inj,ok.has,ok.cab,ok.hd,ok.frames,ok.stk,ok.exf,ok.bs,ok.bsz,ok.noex,ok.exfs,ok.funs,ok.frf⟩
theorem Cx.Ok.unwish{X:Cx}{E:Ae->Ag->Prop}(ok:(X.wish E).Ok):X.Ok:=
 ⟨ok.mod,ok.kind,ok.glob,ok.blt,ok.above,ok.inj,ok.has,ok.cab,ok.hd,ok.frames,ok.stk,ok.exf,ok.bs,ok.bsz,ok.noex,ok.exfs,ok.funs,ok.frf⟩
section
variable {X:Cx}{pins:List (Addr×Obj)}{σ:St}{H:Hp}{s:Ag}{E:Ae->Ag->Prop}
theorem Inv.wish(I:Inv X pins σ H s)(E:Ae->Ag->Prop):Inv (X.wish E) pins σ H s:=⟨I.ok.wish E,I.os,I.bare,I.base,I.loc,I.cell,I.free,I.freeC,I.pin,I.hok,I.len⟩
theorem Inv.unwish(I:Inv (X.wish E) pins σ H s):Inv X pins σ H s:=⟨I.ok.unwish,I.os,I.bare,I.base,I.loc,I.cell,I.free,I.freeC,I.pin,I.hok,I.len⟩
theorem SP.unwish{D:k7}{f:Flow}{s':Ag}(h:SP (X.wish E) pins D f s'):SP X pins D f s':=by
 cases f with
 | next=>obtain⟨σ',H',I,q⟩:=h;exact⟨σ',H',I.unwish,q⟩
 | brk=>obtain⟨σ',H',I,q⟩:=h;exact⟨σ',H',I.unwish,q⟩
 | cont=>obtain⟨σ',H',I,q⟩:=h;exact⟨σ',H',I.unwish,q⟩
 | ret u=>obtain⟨v,σ',H',I,r,q⟩:=h;exact⟨v,σ',H',I.unwish,r,q⟩
theorem fW.nox{st:List Stmt}{t:TS}(h:fW X.nox st t):fW X st t:=fun pins s σ H D I hw=>
 Ij (h pins s σ H D (I.wish _) hw) (fun _ _ q=>q.unwish) fun _ _ z=>Gd z
end
section
variable {X:Cx}{st:Stmt}{rest:List Stmt}{t u:TS}{e:Expr}{te:TE}{pos:Pos}
def NJ:TS:=fun D σ H=>D.nx σ H
def NK(t u:TS):TS:=fun D σ H=>t {D with nx:=u D} σ H
theorem NL:fW X [] NJ:=fun _ _ σ H _ I h=>Mq ⟨σ,H,I,h⟩
theorem NM(h1:PS X st t)(h2:fW X rest u):fW X (st :: rest) (NK t u):=by
 intro pins s σ H D I h
 refine wpAny_execs_cons (a7 (h1 pins s σ H {D with nx:=u D} I h) fun f s1 q=>?_)
 cases f with
 | next=>
  obtain⟨σ',H',I',q⟩:=q
  exact h2 pins s1 σ' H' D I' q
 | ret v=>exact q
 | brk=>exact q
 | cont=>exact q
theorem NN(h1:PS X st t):fW X [st] t:=by
 intro pins s σ H D I h
 refine wpAny_execs_cons (a7 (h1 pins s σ H D I h) fun f s1 q=>?_)
 cases f with
 | next=>exact Mq q
 | ret v=>exact q
 | brk=>exact q
 | cont=>exact q
def NO:TS:=fun D σ H=>D.bk σ H
theorem NP:PS X (.Break pos) NO:=fun _ _ σ H _ I h=>wpAny_Break ⟨σ,H,I,h⟩
theorem Inv.quiet{pins:List (Addr×Obj)}{σ:St}{H:Hp}{s:Ag}(I:Inv X pins σ H s):interactive X.env=false:=by simp[interactive,I.ok.kind]
def NQ(te:TE):TS:=fun D σ H=>te σ H fun _ H1=>D.nx σ H1
theorem NR(he:PE X e te)(hs:Jf e none pos.line X.env=pure false:=by rfl):PS X (.Expr e pos) (NQ te):=by
 intro pins s σ H D I h
 exact wpAny_Expr_any (a7 (he pins s σ H _ I h) fun v s1 ⟨x,H1,I1,r1,q1⟩=>⟨σ,H1,I1,q1⟩) I.quiet hs
def NS(te:TE):TS:=fun D σ H=>te σ H D.rt
theorem NT(he:PE X e te):PS X (.Return (some e) pos) (NS te):=by
 intro pins s σ H D I h
 exact wpAny_Return_some (a7 (he pins s σ H _ I h) fun v s1 ⟨x,H1,I1,r1,q1⟩=>⟨x,σ,H1,I1,r1,q1⟩)
def NU:TS:=fun D _ H=>D.rt .non H
theorem NV:PS X (.Return none pos) NU:=fun _ _ σ H _ I h=>wpAny_Return_none ⟨.non,σ,H,I,rfl,h⟩
def NW(c:TT)(t u:TS):TS:=fun D σ H=>c σ H fun b H1=>if b=true then t D σ H1 else u D σ H1
theorem NX{c:Expr}{a b:List Stmt}{tc:TT}(hc:PT X c tc)(ha:fW X a t)(hb:fW X b u):PS X (.If c a b pos) (NW tc t u):=by
 intro pins s σ H D I h
 refine wpAny_If (a7 (hc pins s σ H _ I h) fun d s1 ⟨H1,I1,q1⟩=>?_)
 cases d with
 | true=>exact ha pins s1 σ H1 D I1 q1
 | false=>exact hb pins s1 σ H1 D I1 q1
end
abbrev TG:=V->St->Hp->(St->Hp->Prop)->Prop
abbrev jN:=List V->St->Hp->(St->Hp->Prop)->Prop
def PG(X:Cx)(target:Expr)(t:TG):Prop:=
 ∀ (pins:List (Addr×Obj)) (s:Ag) (σ:St) (H:Hp) (v:V) (u:Ae) (Q:St->Hp->Prop),Inv X pins σ H s->RelV v u->t v σ H Q->
  Bc (Bn X.prog X.w) X.A (Lg target X.env u) (fun _ s'=>∃ σ' H',Inv X pins σ' H' s'/\Q σ' H') X.xe s
def iZ(X:Cx)(ts:List Expr)(t:jN):Prop:=
 ∀ (pins:List (Addr×Obj)) (s:Ag) (σ:St) (H:Hp) (vs:List V) (us:List Ae) (Q:St->Hp->Prop),Inv X pins σ H s->aZ vs us->t vs σ H Q->
  Bc (Bn X.prog X.w) X.A (assignInOrder ((Gi ts X.env).map (·.2)) us) (fun _ s'=>∃ σ' H',Inv X pins σ' H' s'/\Q σ' H') X.xe s
abbrev sD:=V->V->V->Hp->(Hp->Prop)->Prop
def sE(X:Cx)(t:sD):Prop:=
 ∀ (pins:List (Addr×Obj)) (s:Ag) (σ:St) (H:Hp) (o i v:V) (ov iv u:Ae) (Q:Hp->Prop),Inv X pins σ H s->RelV o ov->RelV i iv->RelV v u->t o i v H Q->
  Bc (Bn X.prog X.w) X.A (setItem ov iv u) (fun _ s'=>∃ H',Inv X pins σ H' s'/\Q H') X.xe s
section
variable {X:Cx}{pos:Pos}
def vR(i:Nat):TG:=fun v σ H Q=>Q (σ.set i (some v)) H
theorem NY{i:Nat}{x:Str}(hN:X.N.Nodup)(hi:X.N[i]? = some x)(hx:Loc X.env.scope x)(hf:X.fn x=true\/X.env.scope.names.lookup x=some .local:=by first | exact .inl rfl | exact .inr rfl | assumption):PG X (.Name x pos) (vR i):=by
 intro pins s σ H v u Q I r h
 exact wpAny_assign_Name (DK I hN hi hx r (fun s' I'=>⟨_,H,I',h⟩) hf)
def NZ:jN:=fun vs σ H Q=>vs=[]/\Q σ H
def N0(t:TG)(u:jN):jN:=fun vs σ H Q=>∃ v r,vs=v :: r/\t v σ H fun σ' H'=>u r σ' H' Q
theorem N2:iZ X [] NZ:=by
 intro pins s σ H vs us Q I r h
 obtain⟨e,h⟩:=h
 subst e
 cases r
 exact assignInOrder_nil ⟨σ,H,I,h⟩
theorem N3{e:Expr}{es:List Expr}{t:TG}{u:jN}(h1:PG X e t)(h2:iZ X es u)
  (hs:(Gi (e :: es) X.env).map (·.2)=Lg e X.env :: (Gi es X.env).map (·.2):=by rfl):iZ X (e :: es) (N0 t u):=by
 intro pins s σ H vs us Q I r h
 obtain⟨v,vr,e1,h⟩:=h
 subst e1
 cases r with
 | cons r rr=>
  rw[hs]
  refine assignInOrder_cons (a7 (h1 pins s σ H _ _ _ I r h) fun _ s1 ⟨σ1,H1,I1,q1⟩=>?_)
  exact h2 pins s1 σ1 H1 _ _ Q I1 rr q1
def N4(K:Ac)(n:Nat)(t:jN):TG:=fun v σ H Q=>∃ a xs,v=.ref a/\bL K H a xs/\xs.length=n/\t xs σ H Q
theorem N5{es:List Expr}{k:Nat}{t:jN}{n:Nat}(hc:X.calm=true)(h:iZ X es t)
  (hn:(Gi es X.env).length=n:=by rfl) (hst:(Gi es X.env).findIdx? (·.1)=none:=by rfl):PG X (.Tuple es k pos) (N4 X.K n t):=by
 intro pins s σ H v u Q I r hw
 obtain⟨a,xs,e1,hq,hl,hw⟩:=hw
 subst e1
 cases r
 obtain⟨its,rv,ht,hz⟩:=I.tuple hq
 refine assign_Tuple_tuple (I.ok.hd hc) ht (by simp[hn,<-hl,rv.length]) hst fun h' hx=>?_
 have I1:Inv X pins σ H {s with heap:=h'}:=I.kept (t':=s.toks) fun b o e=>hx b o (Bg (Ap e)) e
 exact h pins _ σ H xs _ Q I1 (by simpa using rv) hw
def N6(to ti:TE)(t:sD):TG:=fun v σ H Q=>to σ H fun o H1=>ti σ H1 fun i H2=>t o i v H2 fun H3=>Q σ H3
theorem N7{o i:Expr}{to ti:TE}{t:sD}(ho:PE X o to)(hi:PE X i ti)(hs:sE X t)
  (ha:∀ v,Lg (.Subscript o i pos) X.env v=(do
   let ov <-Hz [v] (eval o X.env)
   let iv <-Hz [v,ov] (eval i X.env)
   Nb pos
   Hz [v,ov,iv] (setItem ov iv v)
   release [v,ov,iv] []):=by intro _;rfl):PG X (.Subscript o i pos) (N6 to ti t):=by
 intro pins s σ H v u Q I r h
 rw[ha]
 refine Aa (Dg (a7 (ho pins s σ H _ I h) fun ov s1 ⟨x,H1,I1,r1,q1⟩=>?_))
 refine Aa (Dg (a7 (hi pins s1 σ H1 _ I1 q1) fun iv s2 ⟨y,H2,I2,r2,q2⟩=>?_))
 refine Aa (Nf (Aa (Dg (a7 (hs pins s2 σ H2 x y v ov iv u _ I2 r1 r2 r q2) fun _ s3 ⟨H3,I3,q3⟩=>?_))))
 exact wpAny_release ⟨σ,H3,I3,q3⟩
def sF(te:TE)(g:TG):TS:=fun D σ H=>te σ H fun x H1=>g x σ H1 D.nx
theorem N8{tg e:Expr}{te:TE}{g:TG}(he:PE X e te)(hg:PG X tg g)(hs:swapsWithSole [tg] e pos.line X.env=pure false:=by rfl)(hw:swappedStores [tg] e X.env=pure none:=by rfl)
  (h1:(Gi [tg] X.env).map (·.2)=[Lg tg X.env]:=by rfl):PS X (.Assign [tg] e pos) (sF te g):=by
 intro pins s σ H D I h
 refine wpAny_Assign_stores (a7 (he pins s σ H _ I h) fun v s1 ⟨x,H1,I1,r1,q1⟩=>?_) hs hw
 rw[h1]
 exact a7 (hg pins s1 σ H1 x v _ I1 r1 q1) fun _ s2 q=>q
theorem N9{i:Nat}{x:Str}{e:Expr}{te:TE}{pos':Pos}(hN:X.N.Nodup)(hi:X.N[i]? = some x)(hx:Loc X.env.scope x)(he:PE X e te)(hs:Jf e (some (.Name x pos')) pos.line X.env=pure false:=by rfl)(hf:X.fn x=true\/X.env.scope.names.lookup x=some .local:=by first | exact .inl rfl | exact .inr rfl | assumption) :
  PS X (.Assign [.Name x pos'] e pos) (sF te (vR i)):=by
 intro pins s σ H D I h
 refine wpAny_Assign_Name (a7 (he pins s σ H _ I h) fun v s1 ⟨y,H1,I1,r1,q1⟩=>?_) hs
 exact DK I1 hN hi hx r1 (fun s2 I2=>⟨_,H1,I2,q1⟩) hf
end
section
variable {X:Cx}{pos:Pos}
def OA(c:TT)(tb:TS):TS:=fun D σ H=>∃ W:Nat->St->Hp->Prop,(∃ m,W m σ H)/\∀ m σ H,W m σ H->
 c σ H fun b H1=>if b=true then ∃ N:St->Hp->Prop,(∀ σ' H',N σ' H'->∃ m',m' < m/\W m' σ' H')/\tb {D with nx:=N,ct:=N,bk:=D.nx} σ H1 else D.nx σ H1
theorem OB{c:Expr}{body:List Stmt}{tc:TT}{tb:TS}(hp:PassesOwn (Bn X.prog X.w) X.A X.env X.xe)(hc:PT X c tc)(hb:fW X body tb):PS X (.While c body [] pos) (OA tc tb):=by
 intro pins s σ H D I h
 obtain⟨W,⟨m0,w0⟩,turn⟩:=h
 refine wpAny_While (codeAny_whileLoop (fun n s'=>∃ σ' H',Inv X pins σ' H' s'/\W n σ' H') ?_ m0 ⟨σ,H,I,w0⟩)
 rintro n s1 ⟨σ1,H1,I1,w1⟩
 refine Hm hp (a7 (hc pins s1 σ1 H1 _ I1 (turn n σ1 H1 w1)) fun b s2 ⟨H2,I2,q2⟩=>?_)
 cases b with
 | true=>
  obtain⟨N,hN,q2⟩:=q2
  rw[if_pos rfl]
  refine Hm hp (a7 (hb pins s2 σ1 H2 _ I2 q2) fun f s3 q3=>?_)
  cases f with
  | next=>
   obtain⟨σ3,H3,I3,n3⟩:=q3
   obtain⟨m',hm,w3⟩:=hN σ3 H3 n3
   exact⟨m',hm,σ3,H3,I3,w3⟩
  | cont=>
   obtain⟨σ3,H3,I3,n3⟩:=q3
   obtain⟨m',hm,w3⟩:=hN σ3 H3 n3
   exact⟨m',hm,σ3,H3,I3,w3⟩
  | brk=>exact q3
  | ret v=>exact q3
 | false=>
  rw[if_neg Ao]
  exact Mq ⟨σ1,H2,I2,q2⟩
end
structure It where
 go:Nat->Hp->Prop
 yld:Nat->Hp->V->Hp->Prop
 stop:Nat->Hp->Prop
def gX(X:Cx)(pins:List (Addr×Obj))(H:Hp)(b:Addr):Prop:=
 H b=none/\b≠X.env.locals/\b∉X.fs/\(b∈X.ex\/X.s₀.heap.objs.size<=b)/\(∀ x c,X.env.cells.lookup x=some c->c≠b)/\∀ p∈X.pn ++ pins,p.1≠b
theorem Inv.fpOk{X:Cx}{pins:List (Addr×Obj)}{σ:St}{H H':Hp}{s:Ag}{b:Addr}(I:Inv X pins σ H s)(hb:s.heap.objs.size<=b)(hn:H' b=none):gX X pins H' b:=by
 refine⟨hn,Ct (Bw I.lt hb),I.nofs hb,.inr (Bh I.sz hb),fun x c e z=>?_,fun p hp z=>?_⟩
 ·obtain⟨v,q⟩:=I.cell x c e
  exact absurd (Bw q.lt (by rw[z];exact hb)) (Jp _)
 ·exact absurd (Bw (Ap (I.pin p hp).1) (by rw[z];exact hb)) (Jp _)
structure i0(P:Bq)(w:Cj)(K:Ac)(tg:Expr)(J:It)(fp:List Addr)(it:Addr)(tn:Nat->Heap->Prop):Prop where
 mem:it∈fp
 obj:∀ i h,tn i h->∀ b∈fp,∃ o,h.get? b=some o/\∀ v,o.data≠.cell v
 keep:∀ i h h',tn i h->(∀ b∈fp,∀ o,h.get? b=some o->h'.get? b=some o)->tn i h'
 item:∀ (X:Cx),X.prog=P->X.w=w->X.K=K->X.calm=true->∀ (i:Nat) (pins:List (Addr×Obj)) (s:Ag) (σ:St) (H:Hp) (E:Ae->Ag->Prop),Inv X pins σ H s->(∀ b∈fp,gX X pins H b)->tn i s.heap->J.go i H->
  Bc (Bn P w) X.A (Gz (.ref it)) (fun r s1=>∃ u,r=some u/\
   Bc (Bn P w) X.A (Ms tg (.ref it) u) (fun _ s2=>∃ x H',Inv X pins σ H' s2/\RelV x u/\J.yld i H x H'/\tn (i + 1) s2.heap/\∀ b∈fp,H' b=none) E s1) E s
 done:∀ (X:Cx),X.prog=P->X.w=w->X.K=K->X.calm=true->∀ (i:Nat) (pins:List (Addr×Obj)) (s:Ag) (σ:St) (H:Hp) (E:Ae->Ag->Prop),Inv X pins σ H s->(∀ b∈fp,gX X pins H b)->tn i s.heap->J.stop i H->
  Bc (Bn P w) X.A (Gz (.ref it)) (fun r s1=>r=none/\Inv X pins σ H s1) E s
 self:∀ (A:Co) (i:Nat) (s:Ag) (Q:Ae->Ag->Prop) (E:Ae->Ag->Prop),tn i s.heap->Q (.ref it) s->Bc (Bn P w) A (pyIter (.ref it)) Q E s
abbrev TI:=St->Hp->(It->Hp->Prop)->Prop
def p8(X:Cx)(pins:List (Addr×Obj))(σ:St)(tg:Expr)(R:It->Hp->Prop)(itv:Ae)(s2:Ag):Prop:=
 ∃ (it:Addr) (fp:List Addr) (tn:Nat->Heap->Prop) (J:It) (H':Hp),itv=.ref it/\Inv X pins σ H' s2/\i0 X.prog X.w X.K tg J fp it tn/\tn 0 s2.heap/\(∀ b∈fp,gX X pins H' b)/\R J H'
def PI(X:Cx)(tg iter:Expr)(wi:TI):Prop:=
 ∀ (pins:List (Addr×Obj)) (s:Ag) (σ:St) (H:Hp) (R:It->Hp->Prop),Inv X pins σ H s->wi σ H R->
  Bc (Bn X.prog X.w) X.A (eval iter X.env) (fun v s1=>Bc (Bn X.prog X.w) X.A (pyIter v) (p8 X pins σ tg R) X.xe s1) X.xe s
theorem p9{M:Model}{A:Co}{E:Ae->Ag->Prop}{s:Ag}{tg:Expr}{it:Addr}{u:Ae}{o:Obj}{n:String}{vs:Array Ae}{Q:Unit->Ag->Prop}(ho:s.heap.get? it=some o)(hc:o.cls=.type n)(hd:o.data=.fields vs)
  (hn : ["enumerate","zip","dict_itemiterator","dict_reverseitemiterator","odict_iterator","itertools.zip_longest","itertools.pairwise"].contains n=false) (hQ:Q () s):Bc M A (Ms tg (.ref it) u) Q E s:=by
 unfold Ms
 cases tg <;> first
  | exact Ah hQ
  | (cases u <;> first
    | exact Ah hQ
    | (refine Aa (wpAny_load ho ?_)
       rw[hc,hd]
       show Bc M A (if (["enumerate","zip","dict_itemiterator","dict_reverseitemiterator","odict_iterator","itertools.zip_longest","itertools.pairwise"].contains n && vs[0]? == some (Hj _))=true then _ else _) Q E s
       rw[if_neg (by intro h;rw[hn,Bool.false_and] at h;cases h)]
       exact Ah hQ))
def oI(K:Ac)(a:Addr):It:=
 ⟨fun i H=>∃ xs x,bD K H a xs/\xs[i]? = some x,fun i H x H'=>H'=H/\∀ xs,bD K H a xs->xs[i]? = some x,fun i H=>∃ xs,bD K H a xs/\xs.length<=i⟩
def vS(K:Ac)(a:Addr):It:=
 ⟨fun i H=>∃ xs x,bL K H a xs/\xs[i]? = some x,fun i H x H'=>H'=H/\∀ xs,bL K H a xs->xs[i]? = some x,fun i H=>∃ xs,bL K H a xs/\xs.length<=i⟩
def sG(lo:Int)(n:Nat):It:=⟨fun i _=>i < n,fun i H x H'=>H'=H/\x=.int (lo + i),fun i _=>n<=i⟩
theorem OC{P:Bq}{w:Cj}{K:Ac}{tg:Expr}(a it:Addr):i0 P w K tg (oI K a) [it] it (fun i h=>h.IsListIter it a i) where
 mem:=by simp
 obj:=fun i h st b hb=>by
  have e:b=it:=by simpa using hb
  subst e
  obtain⟨o,e,c,d⟩:=st
  exact⟨o,e,fun v z=>by rw[d] at z;cases z⟩
 keep:=fun i h h' st k=>st.at fun o e=>k it (by simp) o e
 item:=by
  intro X hP hw hK hc i pins s σ H E I hf st hg
  subst hP hw hK
  obtain⟨xs,x,hq,hx⟩:=hg
  obtain⟨its,rv,p,hz⟩:=I.list hq
  obtain⟨u,hu,ru⟩:=rv.get hx
  obtain⟨f0,f1,f2,f3,f4,f5⟩:=hf it (by simp)
  refine wpAny_pyNext_list_item st p.isList (x:=u) (by simpa using hu) fun h' st' sb=>?_
  have I1:Inv X pins σ H {s with heap:=h'}:=I.turned (t':=s.toks) (fun b o hb e=>(sb.2 b hb).trans e) f0 f1 f3 f4 f5
  obtain⟨o,e,c,d⟩:=id st'
  exact⟨u,rfl,p9 (s:={s with heap:=h'}) e c d (by decide) ⟨x,H,I1,ru,⟨rfl,fun ys hy=>by rw[I.list_inj hy hq];exact hx⟩,st',fun b hb=>(hf b hb).1⟩⟩
 done:=by
  intro X hP hw hK hc i pins s σ H E I hf st hg
  subst hP hw hK
  obtain⟨xs,hq,hx⟩:=hg
  obtain⟨its,rv,p,hz⟩:=I.list hq
  obtain⟨f0,f1,f2,f3,f4,f5⟩:=hf it (by simp)
  have hl:=rv.length
  exact wpAny_pyNext_list_end (I.ok.hd hc) st p.isList (by simp;lia) fun h' eb=>⟨rfl,I.turned (t':=s.toks) (fun b o hb e=>eb b o hb e) f0 f1 f3 f4 f5⟩
 self:=fun _ _ _ _ _ st h=>wpAny_pyIter_listiter st h
theorem OD{P:Bq}{w:Cj}{K:Ac}{tg:Expr}(a it:Addr):i0 P w K tg (vS K a) [it] it (fun i h=>h.IsTupleIter it a i) where
 mem:=by simp
 obj:=fun i h st b hb=>by
  have e:b=it:=by simpa using hb
  subst e
  obtain⟨o,e,c,d⟩:=st
  exact⟨o,e,fun v z=>by rw[d] at z;cases z⟩
 keep:=fun i h h' st k=>st.at fun o e=>k it (by simp) o e
 item:=by
  intro X hP hw hK hc i pins s σ H E I hf st hg
  subst hP hw hK
  obtain⟨xs,x,hq,hx⟩:=hg
  obtain⟨its,rv,p,hz⟩:=I.tuple hq
  obtain⟨u,hu,ru⟩:=rv.get hx
  obtain⟨f0,f1,f2,f3,f4,f5⟩:=hf it (by simp)
  refine wpAny_pyNext_tuple_item st (show s.heap.IsTuple a its.toArray from p) (x:=u) (by simpa using hu) fun h' st' sb=>?_
  have I1:Inv X pins σ H {s with heap:=h'}:=I.turned (t':=s.toks) (fun b o hb e=>(sb.2 b hb).trans e) f0 f1 f3 f4 f5
  obtain⟨o,e,c,d⟩:=id st'
  exact⟨u,rfl,p9 (s:={s with heap:=h'}) e c d (by decide) ⟨x,H,I1,ru,⟨rfl,fun ys hy=>by rw[I.tuple_inj hy hq];exact hx⟩,st',fun b hb=>(hf b hb).1⟩⟩
 done:=by
  intro X hP hw hK hc i pins s σ H E I hf st hg
  subst hP hw hK
  obtain⟨xs,hq,hx⟩:=hg
  obtain⟨its,rv,p,hz⟩:=I.tuple hq
  obtain⟨f0,f1,f2,f3,f4,f5⟩:=hf it (by simp)
  have hl:=rv.length
  exact wpAny_pyNext_tuple_end (I.ok.hd hc) st (show s.heap.IsTuple a its.toArray from p) (by simp;lia) fun h' eb=>⟨rfl,I.turned (t':=s.toks) (fun b o hb e=>eb b o hb e) f0 f1 f3 f4 f5⟩
 self:=fun _ _ _ _ _ st h=>wpAny_pyIter_tupleiter st h
theorem OE{P:Bq}{w:Cj}{K:Ac}{tg:Expr}(it:Addr)(lo:Int)(n:Nat):i0 P w K tg (sG lo n) [it] it (fun i h=>IsRangeIter h it (lo + (i:Nat) * 1) ((n:Int) - (i:Nat)) 1) where
 mem:=by simp
 obj:=fun i h st b hb=>by
  have e:b=it:=by simpa using hb
  subst e
  exact⟨_,st,fun v z=>by
   have z':Data.fields _=Data.cell v:=z
   cases z'⟩
 keep:=fun i h h' st k=>k it (by simp) _ st
 item:=by
  intro X hP hw hK hc i pins s σ H E I hf st hg
  subst hP hw hK
  obtain⟨f0,f1,f2,f3,f4,f5⟩:=hf it (by simp)
  have W:=Walks.range (prog:=X.prog) (w:=X.w) (I.ok.hd hc) it lo 1 n
  refine W.item i s _ _ hg st fun v h' tk hv st' kk=>?_
  obtain⟨t,rfl⟩:=hv
  have I1:Inv X pins σ H {s with heap:=h',toks:=tk}:=I.turned (fun b o hb e=>kk b o (by simpa using hb) e) f0 f1 f3 f4 f5
  refine⟨_,rfl,p9 (s:={s with heap:=h',toks:=tk}) (n:="range_iterator") st' rfl rfl (by decide) ⟨.int (lo + i),H,I1,⟨t,?_⟩,⟨rfl,rfl⟩,st',fun b hb=>(hf b hb).1⟩⟩
  rw[Int.mul_one]
 done:=by
  intro X hP hw hK hc i pins s σ H E I hf st hg
  subst hP hw hK
  obtain⟨f0,f1,f2,f3,f4,f5⟩:=hf it (by simp)
  exact wpAny_pyNext_range_end (I.ok.hd hc) st (by have:n<=i:=hg;lia) fun h' eb=>⟨rfl,I.turned (t':=s.toks) (fun b o hb e=>eb b o hb e) f0 f1 f3 f4 f5⟩
 self:=fun _ _ _ _ _ st h=>wpAny_pyIter_rangeiter st h
section
variable {X:Cx}{tg:Expr}
theorem OF{pins:List (Addr×Obj)}{σ:St}{H:Hp}{s:Ag}{R:It->Hp->Prop}{E:Ae->Ag->Prop}{lo hi:Int}{t u v:Tok}{tk:Nat}(I:Inv X pins σ H s)(h1 : -(2 ^ 62)<=lo)(h2:lo < 2 ^ 62)(h3 : -(2 ^ 62)<=hi)(h4:hi < 2 ^ 62)
  (q:R (sG lo (hi - lo).toNat) H):Bc (Bn X.prog X.w) X.A (pyIter (.ref s.heap.objs.size)) (p8 X pins σ tg R) E {s with heap:=s.heap.push {cls:=.type "range",data:=.fields #[.int lo t,.int hi u,.int 1 v]},toks:=tk}:=by
 refine wpAny_pyIter_range (IsRange.new ..) (small_one h1 h2 h3 h4) ?_
 have I1:Inv X pins σ H {s with heap:=s.heap.push {cls:=.type "range",data:=.fields #[.int lo t,.int hi u,.int 1 v]},toks:=tk}:=I.kept fun b o e=>Af _ e
 refine⟨(s.heap.push {cls:=.type "range",data:=.fields #[.int lo t,.int hi u,.int 1 v]}).objs.size,[(s.heap.push {cls:=.type "range",data:=.fields #[.int lo t,.int hi u,.int 1 v]}).objs.size],_,_,H,rfl,
  I1.kept (t':=tk) fun b o e=>Af _ e,OE _ lo (hi - lo).toNat,?_,fun b hb=>?_,q⟩
 ·have e1:lo + ((0:Nat):Int) * 1=lo:=by simp
  have e2:(((hi - lo).toNat:Nat):Int) - ((0:Nat):Int)=Builtin.Range.rangeSize lo hi 1:=by rw[rangeSize_one];split <;> lia
  show IsRangeIter _ _ (lo + ((0:Nat):Int) * 1) ((((hi - lo).toNat:Nat):Int) - ((0:Nat):Int)) 1
  rw[e1,e2]
  exact Az _ rfl
 ·have e:b=(s.heap.push {cls:=.type "range",data:=.fields #[.int lo t,.int hi u,.int 1 v]}).objs.size:=by simpa using hb
  subst e
  exact I1.fpOk (Ai _) (I1.hok.fresh (Ai _))
def OG(ta:TA):TI:=fun σ H R=>ta σ H fun vs H1=>∃ j:Int,vs=[.int j]/\-(2 ^ 62)<=j/\j < 2 ^ 62/\R (sG 0 j.toNat) H1
theorem OH{a:Expr}{ta:TA}{p pos:Pos}(hg:Gl X "range")(hm:X.mg "range" = none)(ha:PA X [a] ta)(hs:Bi [a] X.env=[(false,eval a X.env)]:=by rfl):PI X tg (.Call (.Name "range" p) [a] [] pos) (OG ta):=by
 intro pins s σ H R I h
 refine Call_ (iY I hg hm boot_range (Ck (a7 (ha pos pins s σ H _ I h) fun us s1 ⟨vs,H1,I1,r1,q1⟩=>?_) hs rfl))
 obtain⟨j,e,q1,q2,q⟩:=q1
 subst e
 cases r1 with
 | cons r rr=>
  cases rr
  obtain⟨t,rfl⟩:=r
  exact call_range_1 (OF I1 (by lia) (by lia) q1 q2 (by simpa using q))
def OI(wi:TI)(g:TG)(tb:TS):TS:=fun D σ H=>wi σ H fun J H1=>∃ W:Nat->Nat->St->Hp->Prop,(∃ m,W 0 m σ H1)/\∀ i m σ H,W i m σ H->
 (J.stop i H/\D.nx σ H)\/(J.go i H/\∃ N:St->Hp->Prop,(∀ σ' H',N σ' H'->∃ m',m' < m/\W (i + 1) m' σ' H')/\∀ x H',J.yld i H x H'->g x σ H' fun σ2 H2=>tb {D with nx:=N,ct:=N,bk:=D.nx} σ2 H2)
def qA(fp:List Addr)(h:Heap):List (Addr×Obj):=fp.filterMap fun b=>(h.get? b).map fun o=>(b,o)
theorem sH{fp:List Addr}{h:Heap}{b:Addr}{o:Obj}(hb:b∈fp)(e:h.get? b=some o):(b,o)∈qA fp h:=Im.mpr ⟨b,hb,by rw[e];rfl⟩
theorem OJ{fp:List Addr}{h:Heap}{p:Addr×Obj}(hp:p∈qA fp h):p.1∈fp/\h.get? p.1=some p.2:=by
 obtain⟨b,hb,e⟩:=Im.mp hp
 cases q:h.get? b with
 | none=>rw[q] at e;cases e
 | some o=>
  rw[q] at e
  have e':(b,o)=p:=Ci e
  subst e'
  exact⟨hb,q⟩
theorem Inv.pinned{pins:List (Addr×Obj)}{σ:St}{H:Hp}{s:Ag}{fp:List Addr}(I:Inv X pins σ H s)(hf:∀ b∈fp,gX X pins H b)(ho:∀ b∈fp,∃ o,s.heap.get? b=some o/\∀ v,o.data≠.cell v):Inv X (pins ++ qA fp s.heap) σ H s:=
 I.pins_of fun p hp=>(Bo.mp hp).elim (fun z=>I.pin p (Ca _ z)) fun z=>by
  obtain⟨hb,e⟩:=OJ z
  obtain⟨f0,f1,f2,_⟩:=hf p.1 hb
  obtain⟨o,e',d⟩:=ho p.1 hb
  rw[e] at e';cases e'
  exact⟨e,f0,f1,f2,d⟩
theorem Inv.unpinned{pins pl:List (Addr×Obj)}{σ:St}{H:Hp}{s:Ag}(I:Inv X (pins ++ pl) σ H s):Inv X pins σ H s:=I.pins_of fun p hp=>I.pin p (Ca _ (Bu _ hp))
theorem OK{iter:Expr}{body:List Stmt}{wi:TI}{g:TG}{tb:TS}{pos:Pos}(hp:PassesOwn (Bn X.prog X.w) X.A X.env X.xe)(hc:X.calm=true)(hi:PI X tg iter wi)(hg:PG X tg g)(hb:fW X body tb)
  (hs:∀ x,Gq iter X.env x=pure x:=by intro _;rfl):PS X (.For tg iter body [] pos) (OI wi g tb):=by
 intro pins s σ H D I h
 refine wpAny_For (a7 (hi pins s σ H _ I h) fun v s1 h1=>a7 h1 fun itv s2 h2=>?_) hs
 obtain⟨it,fp,tn,J,H2,e,I2,T,st2,f2,W,⟨m0,w0⟩,turn⟩:=h2
 subst e
 have stat:∀ {H':Hp},(∀ b∈fp,H' b=none)->∀ b∈fp,gX X pins H' b:=fun hn b hb=>⟨hn b hb,(f2 b hb).2⟩
 refine codeAny_forLoop_any (fun n s'=>∃ i σ' H',Inv X pins σ' H' s'/\tn i s'.heap/\(∀ b∈fp,H' b=none)/\W i n σ' H') ?_ m0 ⟨0,σ,H2,I2,st2,fun b hb=>(f2 b hb).1,w0⟩
 rintro n s3 ⟨i,σ3,H3,I3,st3,fr3,w3⟩
 rcases turn i n σ3 H3 w3 with⟨stop,qn⟩ | ⟨go,N,hN,step⟩
 ·refine Hm hp (a7 (T.done X rfl rfl rfl hc i pins s3 σ3 H3 X.xe I3 (stat fr3) st3 stop) fun r s4 ⟨hr,I4⟩=>?_)
  subst hr
  exact Mq ⟨σ3,H3,I4,qn⟩
 ·refine Hm hp (a7 (T.item X rfl rfl rfl hc i pins s3 σ3 H3 X.xe I3 (stat fr3) st3 go) fun r s4 ⟨u,hr,h4⟩=>?_)
  subst hr
  refine Hm hp (a7 h4 fun _ s5 ⟨x,H5,I5,r5,y5,st5,fr5⟩=>?_)
  have I5':=I5.pinned (stat fr5) (T.obj _ _ st5)
  refine Hm hp (a7 (hg _ s5 σ3 H5 x u _ I5' r5 (step x H5 y5)) fun _ s6 ⟨σ6,H6,I6,q6⟩=>?_)
  refine Hm hp (a7 (hb _ s6 σ6 H6 _ I6 q6) fun f s7 q7=>?_)
  have again:∀ {σ7:St} {H7:Hp},Inv X (pins ++ qA fp s5.heap) σ7 H7 s7->N σ7 H7->∃ m,m < n/\∃ i σ' H',Inv X pins σ' H' s7/\tn i s7.heap/\(∀ b∈fp,H' b=none)/\W i m σ' H':=fun {σ7 H7} I7 n7=>by
   obtain⟨m',hm,w7⟩:=hN σ7 H7 n7
   refine⟨m',hm,i + 1,σ7,H7,I7.unpinned,T.keep _ _ _ st5 fun b hb o e=>(I7.pin (b,o) (Ca _ (Ca _ (sH hb e)))).1,fun b hb=>?_,w7⟩
   obtain⟨o,e,d⟩:=T.obj _ _ st5 b hb
   exact(I7.pin (b,o) (Ca _ (Ca _ (sH hb e)))).2.1
  cases f with
  | next=>obtain⟨σ7,H7,I7,n7⟩:=q7;exact again I7 n7
  | cont=>obtain⟨σ7,H7,I7,n7⟩:=q7;exact again I7 n7
  | brk=>obtain⟨σ7,H7,I7,q7⟩:=q7;exact⟨σ7,H7,I7.unpinned,q7⟩
  | ret v=>obtain⟨x7,σ7,H7,I7,r7,q7⟩:=q7;exact⟨x7,σ7,H7,I7.unpinned,r7,q7⟩
end
abbrev R2:=V->V->Hp->VK->Prop
def bG(X:Cx)(f:Ae->Ae->Sem Ae)(r:R2):Prop:=
 ∀ (pins:List (Addr×Obj)) (s:Ag) (σ:St) (H:Hp) (x y:V) (v u:Ae) (Q:VK),Inv X pins σ H s->RelV x v->RelV y u->r x y H Q->
  Bc (Bn X.prog X.w) X.A (f v u) (EP X pins σ Q) X.xe s
def qB(X:Cx)(f:Ae->Sem Ae)(r:V->Hp->VK->Prop):Prop:=
 ∀ (pins:List (Addr×Obj)) (s:Ag) (σ:St) (H:Hp) (x:V) (v:Ae) (Q:VK),Inv X pins σ H s->RelV x v->r x H Q->
  Bc (Bn X.prog X.w) X.A (f v) (EP X pins σ Q) X.xe s
def dE(X:Cx)(f:Ae)(r:List V->Hp->VK->Prop):Prop:=
 ∀ (pins:List (Addr×Obj)) (s:Ag) (σ:St) (H:Hp) (xs:List V) (us:List Ae) (Q:VK),Inv X pins σ H s->aZ xs us->r xs H Q->
  Bc (Bn X.prog X.w) X.A (call f us) (EP X pins σ Q) X.xe s
def OL(X:Cx)(r:V->Hp->(Bool->Hp->Prop)->Prop):Prop:=
 ∀ (pins:List (Addr×Obj)) (s:Ag) (σ:St) (H:Hp) (x:V) (v:Ae) (Q:Bool->Hp->Prop),Inv X pins σ H s->RelV x v->r x H Q->
  Bc (Bn X.prog X.w) X.A (truthy v) (TP X pins σ Q) X.xe s
def qC(r:R2)(ta tb:TE):TE:=fun σ H Q=>ta σ H fun x H1=>tb σ H1 fun y H2=>r x y H2 Q
def OM(r:V->Hp->VK->Prop)(ta:TE):TE:=fun σ H Q=>ta σ H fun x H1=>r x H1 Q
def rI(C:Int->Int->Prop)(g:Int->Int->V):R2:=fun x y H Q=>∃ i j,x=.int i/\y=.int j/\C i j/\Q (g i j) H
def lV(g:Int->Int->V):R2:=fun x y H Q=>∃ i j,x=.int i/\y=.int j/\Q (g i j) H
def rU(g:Int->V):V->Hp->VK->Prop:=fun x H Q=>∃ i,x=.int i/\Q (g i) H
section
variable {X:Cx}{a b c:Expr}{ta tb tc:TE}{pos:Pos}
theorem vT(ha:PE X a ta)(hb:PE X b tb){pins:List (Addr×Obj)}{s:Ag}{σ:St}{H:Hp}{R:V->V->Hp->Prop}(I:Inv X pins σ H s)
  (h:ta σ H fun x H1=>tb σ H1 fun y H2=>R x y H2) {Q:Ae->Ag->Prop} {f:Ae->Ae->Sem Ae}
  (hf:∀ v u s2 x y H2,Inv X pins σ H2 s2->RelV x v->RelV y u->R x y H2->Bc (Bn X.prog X.w) X.A (f v u) Q X.xe s2) :
  Bc (Bn X.prog X.w) X.A (eval a X.env) (fun v s₁=>Bc (Bn X.prog X.w) X.A (eval b X.env) (fun u s₂=>Bc (Bn X.prog X.w) X.A (f v u) Q X.xe s₂) X.xe s₁) X.xe s:=by
 refine a7 (ha pins s σ H _ I h) fun v s1 ⟨x,H1,I1,r1,q1⟩=>?_
 refine a7 (hb pins s1 σ H1 _ I1 q1) fun u s2 ⟨y,H2,I2,r2,q2⟩=>?_
 exact hf v u s2 x y H2 I2 r1 r2 q2
theorem ON{op:Operator}{r:R2}(ho:bG X (Fh op) r)(ha:PE X a ta)(hb:PE X b tb):PE X (.BinOp a op b pos) (qC r ta tb):=by
 intro pins s σ H Q I h
 exact wpAny_BinOp (vT ha hb I h fun v u s2 x y H2 I2 rx ry q=>ho pins s2 σ H2 x y v u Q I2 rx ry q)
theorem OO{op:UnaryOp}{r:V->Hp->VK->Prop}(ho:qB X (unaryOp op) r)(ha:PE X a ta):PE X (.UnaryOp op a pos) (OM r ta):=by
 intro pins s σ H Q I h
 exact UnaryOp_ (a7 (ha pins s σ H _ I h) fun v s1 ⟨x,H1,I1,r1,q1⟩=>ho pins s1 σ H1 x v Q I1 r1 q1)
theorem qD{f:Ae->Ae->Sem Ae}{C:Int->Int->Prop}{g:Int->Int->Int}
  (rule:∀ (i j:Int) (t u:Tok) (s:Ag) (Q:Ae->Ag->Prop) (E:Ae->Ag->Prop),C i j->Q (.int (g i j) s.toks) {s with toks:=s.toks + 1}->Bc (Bn X.prog X.w) X.A (f (.int i t) (.int j u)) Q E s) :
  bG X f (rI C fun i j=>.int (g i j)):=by
 intro pins s σ H x y v u Q I rx ry h
 obtain⟨i,j,rfl,rfl,hc,q⟩:=h
 obtain⟨t,rfl⟩:=rx
 obtain⟨t',rfl⟩:=ry
 exact rule i j t t' s _ _ hc ⟨.int (g i j),H,I.tok _,⟨_,rfl⟩,q⟩
theorem DM{f:Ae->Ae->Sem Ae}{g:Int->Int->Int}
  (rule:∀ (i j:Int) (t u:Tok) (s:Ag) (Q:Ae->Ag->Prop) (E:Ae->Ag->Prop),Q (.int (g i j) s.toks) {s with toks:=s.toks + 1}->Bc (Bn X.prog X.w) X.A (f (.int i t) (.int j u)) Q E s) :
  bG X f (lV fun i j=>.int (g i j)):=by
 intro pins s σ H x y v u Q I rx ry h
 obtain⟨i,j,rfl,rfl,q⟩:=h
 obtain⟨t,rfl⟩:=rx
 obtain⟨t',rfl⟩:=ry
 exact rule i j t t' s _ _ ⟨.int (g i j),H,I.tok _,⟨_,rfl⟩,q⟩
theorem vU{f:Ae->Ae->Sem Ae}{g:Int->Int->Bool}
  (rule:∀ (i j:Int) (t u:Tok) (s:Ag) (Q:Ae->Ag->Prop) (E:Ae->Ag->Prop),Q (.bool (g i j)) s->Bc (Bn X.prog X.w) X.A (f (.int i t) (.int j u)) Q E s) :
  bG X f (lV fun i j=>.bl (g i j)):=by
 intro pins s σ H x y v u Q I rx ry h
 obtain⟨i,j,rfl,rfl,q⟩:=h
 obtain⟨t,rfl⟩:=rx
 obtain⟨t',rfl⟩:=ry
 exact rule i j t t' s _ _ ⟨.bl (g i j),H,I,rfl,q⟩
def DN(i j:Int):Prop:=0<=j/\j<=1000000/\i.natAbs < 2 ^ 64
def oJ(i j:Int):Prop:=(-(2 ^ 64) < i/\i < 2 ^ 64)\/(-(2 ^ 64) < j/\j < 2 ^ 64)
theorem oJ.ok{i j:Int}(h:oJ i j):IntMulOk i j:=by
 rcases h with⟨h1,h2⟩ | ⟨h1,h2⟩
 ·exact .of_left (intBits_le_64 h1 h2)
 ·exact .of_right (intBits_le_64 h1 h2)
theorem OP:bG X (Fh .Add) (lV fun i j=>.int (i + j)):=DM fun _ _ _ _ _ _ _ q=>add_int q
theorem OQ:bG X (Fh .Sub) (lV fun i j=>.int (i - j)):=DM fun _ _ _ _ _ _ _ q=>sub_int q
theorem OR:bG X (Fh .Mult) (rI oJ fun i j=>.int (i * j)):=qD fun _ _ _ _ _ _ _ hc q=>mul_int q hc.ok
theorem OS:bG X (Fh .Mod) (rI (fun _ j=>0 < j) fun i j=>.int (i % j)):=qD fun i j _ _ _ _ _ hc q=>by
 have h1:(0:Int) < j:=hc
 exact mod_int' (by lia) (by rw[Int.fmod_eq_emod_of_nonneg i (by lia)];exact q)
theorem OT:bG X (Fh .Pow) (rI DN fun i j=>.int (i ^ j.toNat)):=qD fun _ _ _ _ _ _ _ hc q=>pow_int_small hc.1 hc.2.1 hc.2.2 q
theorem OU{f:Ae->Sem Ae}{g:Int->Int}
  (rule:∀ (i:Int) (t:Tok) (s:Ag) (Q:Ae->Ag->Prop) (E:Ae->Ag->Prop),Q (.int (g i) s.toks) {s with toks:=s.toks + 1}->Bc (Bn X.prog X.w) X.A (f (.int i t)) Q E s) :
  qB X f (rU fun i=>.int (g i)):=by
 intro pins s σ H x v Q I rx h
 obtain⟨i,rfl,q⟩:=h
 obtain⟨t,rfl⟩:=rx
 exact rule i t s _ _ ⟨.int (g i),H,I.tok _,⟨_,rfl⟩,q⟩
theorem OV:qB X (unaryOp .USub) (rU fun i=>.int (-i)):=OU fun _ _ _ _ _ q=>neg_int q
end
def sI:V->V->Bool
 | .non,.non=>true | .non,.int _=>true | .int _,.non=>true | .non,.bl _=>true | .bl _,.non=>true | .non,.str _=>true | .str _,.non=>true
 | .int _,.int _=>true | .bl _,.bl _=>true | .str _,.str _=>true | .byt _,.byt _=>true
 | .int _,.str _=>true | .str _,.int _=>true | .bl _,.str _=>true | .str _,.bl _=>true
 | _,_=>false
def rEq:R2:=fun x y H Q=>sI x y=true/\Q (.bl (decide (x=y))) H
def OW:R2:=fun x y H Q=>sI x y=true/\Q (.bl (!decide (x=y))) H
theorem DO{i j:Int}:decide (V.int i=V.int j)=(i == j):=by
 rw[Eu]
 simp
theorem DP{i j:Bool}:decide (V.bl i=V.bl j)=(i == j):=by
 rw[Eu]
 simp
theorem DQ{i j:Str}:decide (V.str i=V.str j)=(i == j):=by
 rw[Eu]
 simp
theorem DR{i j:Array UInt8}:decide (V.byt i=V.byt j)=(i.toList == j.toList):=by
 rw[Eu]
 cases i
 cases j
 simp
section
variable {X:Cx}{a b c:Expr}{ta tb tc:TE}{pos:Pos}
theorem c9{pins:List (Addr×Obj)}{σ:St}{H:Hp}{s:Ag}{Q:VK}{k k':Bool}(I:Inv X pins σ H s)(q:Q (.bl k) H)(e:k=k'):EP X pins σ Q (.bool k') s:=by
 subst e
 exact⟨.bl k,H,I,rfl,q⟩
theorem OX:bG X (Ce .Eq) rEq:=by
 intro pins s σ H x y v u Q I rx ry h
 obtain⟨hs,q⟩:=h
 cases x with
 | non=>
  cases rx
  cases y with
  | non=>cases ry;exact PySem.EqNone.eq_none_none (c9 I q (by simp))
  | bl j=>cases ry;exact PySem.EqNone.eq_none_bool (c9 I q (by simp))
  | int j=>obtain⟨t',rfl⟩:=ry;exact PySem.EqNone.eq_none_int (c9 I q (by simp))
  | str j=>obtain⟨t',rfl⟩:=ry;exact PySem.EqNone.eq_none_str (c9 I q (by simp))
  | _=>exact absurd (show false=true from hs) Ao
 | bl i=>
  cases rx
  cases y with
  | non=>cases ry;exact PySem.EqNone.eq_bool_none (c9 I q (by simp))
  | bl j=>cases ry;exact eq_bool (c9 I q DP)
  | str j=>obtain⟨t',rfl⟩:=ry;exact PySem.EqMixed.eq_bool_str (c9 I q (by simp))
  | _=>exact absurd (show false=true from hs) Ao
 | int i=>
  obtain⟨t,rfl⟩:=rx
  cases y with
  | non=>cases ry;exact PySem.EqNone.eq_int_none (c9 I q (by simp))
  | int j=>obtain⟨t',rfl⟩:=ry;exact eq_int (c9 I q DO)
  | str j=>obtain⟨t',rfl⟩:=ry;exact PySem.EqMixed.eq_int_str (c9 I q (by simp))
  | _=>exact absurd (show false=true from hs) Ao
 | str i=>
  obtain⟨t,rfl⟩:=rx
  cases y with
  | non=>cases ry;exact PySem.EqNone.eq_str_none (c9 I q (by simp))
  | bl j=>cases ry;exact PySem.EqMixed.eq_str_bool (c9 I q (by simp))
  | int j=>obtain⟨t',rfl⟩:=ry;exact PySem.EqMixed.eq_str_int (c9 I q (by simp))
  | str j=>obtain⟨t',rfl⟩:=ry;exact eq_str (c9 I q DQ)
  | _=>exact absurd (show false=true from hs) Ao
 | byt i=>
  obtain⟨t,rfl⟩:=rx
  cases y with
  | byt j=>obtain⟨t',rfl⟩:=ry;exact PySem.W.eq_bytes (c9 I q DR)
  | _=>exact absurd (show false=true from hs) Ao
 | _=>cases y <;> exact absurd (show false=true from hs) Ao
theorem OY:bG X (Ce .NotEq) OW:=by
 intro pins s σ H x y v u Q I rx ry h
 obtain⟨hs,q⟩:=h
 cases x with
 | non=>
  cases rx
  cases y with
  | non=>cases ry;exact PySem.EqNone.ne_none_none (c9 I q (by simp))
  | bl j=>cases ry;exact PySem.EqNone.ne_none_bool (c9 I q (by simp))
  | int j=>obtain⟨t',rfl⟩:=ry;exact PySem.EqNone.ne_none_int (c9 I q (by simp))
  | str j=>obtain⟨t',rfl⟩:=ry;exact PySem.EqNone.ne_none_str (c9 I q (by simp))
  | _=>exact absurd (show false=true from hs) Ao
 | bl i=>
  cases rx
  cases y with
  | non=>cases ry;exact PySem.EqNone.ne_bool_none (c9 I q (by simp))
  | bl j=>cases ry;exact ne_bool (c9 I q (congrArg not DP))
  | str j=>obtain⟨t',rfl⟩:=ry;exact PySem.EqMixed.ne_bool_str (c9 I q (by simp))
  | _=>exact absurd (show false=true from hs) Ao
 | int i=>
  obtain⟨t,rfl⟩:=rx
  cases y with
  | non=>cases ry;exact PySem.EqNone.ne_int_none (c9 I q (by simp))
  | int j=>obtain⟨t',rfl⟩:=ry;exact ne_int (c9 I q (congrArg not DO))
  | str j=>obtain⟨t',rfl⟩:=ry;exact PySem.EqMixed.ne_int_str (c9 I q (by simp))
  | _=>exact absurd (show false=true from hs) Ao
 | str i=>
  obtain⟨t,rfl⟩:=rx
  cases y with
  | non=>cases ry;exact PySem.EqNone.ne_str_none (c9 I q (by simp))
  | bl j=>cases ry;exact PySem.EqMixed.ne_str_bool (c9 I q (by simp))
  | int j=>obtain⟨t',rfl⟩:=ry;exact PySem.EqMixed.ne_str_int (c9 I q (by simp))
  | str j=>obtain⟨t',rfl⟩:=ry;exact ne_str (c9 I q (congrArg not DQ))
  | _=>exact absurd (show false=true from hs) Ao
 | byt i=>
  obtain⟨t,rfl⟩:=rx
  cases y with
  | byt j=>obtain⟨t',rfl⟩:=ry;exact PySem.W.ne_bytes (c9 I q (congrArg not DR))
  | _=>exact absurd (show false=true from hs) Ao
 | _=>cases y <;> exact absurd (show false=true from hs) Ao
theorem OZ:bG X (Ce .Lt) (lV fun i j=>.bl (decide (i < j))):=vU fun _ _ _ _ _ _ _ q=>lt_int q
theorem O0:bG X (Ce .LtE) (lV fun i j=>.bl (decide (i<=j))):=vU fun _ _ _ _ _ _ _ q=>le_int q
theorem O3:bG X (Ce .Gt) (lV fun i j=>.bl (decide (j < i))):=vU fun _ _ _ _ _ _ _ q=>gt_int q
theorem O4:bG X (Ce .In) (fun x y H Q=>∃ i j,x=.str i/\y=.str j/\Q (.bl (!(Kb j i 0 j.length 1).isEmpty)) H):=by
 intro pins s σ H x y v u Q I rx ry h
 obtain⟨i,j,rfl,rfl,q⟩:=h
 obtain⟨t,rfl⟩:=rx
 obtain⟨t',rfl⟩:=ry
 exact in_str (c9 I q rfl)
theorem O5:bG X (Ce .Is) (fun x y H Q=>y=.non/\Q (.bl (decide (x=.non))) H):=by
 intro pins s σ H x y v u Q I rx ry h
 obtain⟨rfl,q⟩:=h
 cases ry
 refine is_none_gen (c9 I q ?_)
 cases x <;> first
  | (cases rx;rfl)
  | (obtain⟨t,rfl⟩:=rx;rfl)
theorem O6:bG X (Ce .NotIn) (fun x y H Q=>∃ i j,x=.str i/\y=.str j/\Q (.bl (!(!(Kb j i 0 j.length 1).isEmpty))) H):=by
 intro pins s σ H x y v u Q I rx ry h
 obtain⟨i,j,rfl,rfl,q⟩:=h
 obtain⟨t,rfl⟩:=rx
 obtain⟨t',rfl⟩:=ry
 exact notIn_str (c9 I q rfl)
theorem bG.or{f:Ae->Ae->Sem Ae}{r r':R2}(h:bG X f r)(h':bG X f r'):bG X f (fun x y H Q=>r x y H Q\/r' x y H Q):=by
 intro pins s σ H x y v u Q I rx ry q
 rcases q with q | q
 ·exact h pins s σ H x y v u Q I rx ry q
 ·exact h' pins s σ H x y v u Q I rx ry q
theorem DS(b:Expr){op:CmpOp}(h:op≠.In:=by decide)(h2:op≠.NotIn:=by decide):Hq op b=false:=by
 have e1:(op == CmpOp.In)=false:=by cases op <;> first | rfl | exact absurd rfl h
 have e2:(op == CmpOp.NotIn)=false:=by cases op <;> first | rfl | exact absurd rfl h2
 cases b <;> simp[Hq,e1,e2]
theorem O7{op:CmpOp}{r:R2}(ho:bG X (Ce op) r)(ha:PE X a ta)(hb:PE X b tb)(hm:Hq op b=false):PE X (.Compare a [op] [b] pos) (qC r ta tb):=by
 intro pins s σ H Q I h
 exact wpAny_Compare1 (vT ha hb I h fun v u s2 x y H2 I2 rx ry q=>ho pins s2 σ H2 x y v u Q I2 rx ry q) hm
def DT(t:TE):TT:=fun σ H Q=>t σ H fun x H'=>∃ k,x=.bl k/\Q k H'
theorem O8{op:CmpOp}{r:R2}(ho:bG X (Ce op) r)(ha:PE X a ta)(hb:PE X b tb)(hm:Hq op b=false):PT X (.Compare a [op] [b] pos) (DT (qC r ta tb)):=by
 intro pins s σ H Q I h
 refine wpAny_isTrue_Compare1 (a7 (ha pins s σ H _ I h) fun v s1 ⟨x,H1,I1,r1,q1⟩=>a7 (hb pins s1 σ H1 _ I1 q1) fun u s2 ⟨y,H2,I2,r2,q2⟩=>
  a7 (ho pins s2 σ H2 x y v u _ I2 r1 r2 q2) fun c s3 ⟨z,H3,I3,r3,k,e,q3⟩=>?_) hm
 subst e
 cases r3
 exact Jk ⟨H3,I3,q3⟩
def DU(r r':R2)(ta tb tc:TE):TE:=fun σ H Q=>ta σ H fun x H1=>tb σ H1 fun y H2=>r x y H2 fun z H3=>∃ k,z=.bl k/\
 (if k=true then tc σ H3 fun w' H4=>r' y w' H4 Q else Q (.bl false) H3)
theorem O9{op op':CmpOp}{r r':R2}(ho:bG X (Ce op) r)(ho':bG X (Ce op') r')(ha:PE X a ta)(hb:PE X b tb)(hc:PE X c tc)
  (hm:lastMarks [op,op'] [b,c]=false:=by with_unfolding_all rfl):PT X (.Compare a [op,op'] [b,c] pos) (DT (DU r r' ta tb tc)):=by
 intro pins s σ H Q I h
 refine isTrue_chain (a7 (ha pins s σ H _ I h) fun v s1 ⟨x,H1,I1,r1,q1⟩=>test_link (a7 (hb pins s1 σ H1 _ I1 q1) fun u s2 ⟨y,H2,I2,r2,q2⟩=>
  a7 (ho pins s2 σ H2 x y v u _ I2 r1 r2 q2) fun d s3 ⟨z,H3,I3,r3,k,e,q3⟩=>?_)) hm
 subst e
 cases r3
 refine Jk ?_
 cases k with
 | false=>
  obtain⟨k',e',q'⟩:=q3
  cases e'
  exact ite_ff ⟨H3,I3,q'⟩
 | true=>
  refine ite_tt (test_last (a7 (hc pins s3 σ H3 _ I3 q3) fun w' s4 ⟨z',H4,I4,r4,q4⟩=>a7 (ho' pins s4 σ H4 y z' u w' _ I4 r2 r4 q4) fun d' s5 ⟨z2,H5,I5,r5,k2,e2,q5⟩=>?_))
  subst e2
  cases r5
  exact Jk ⟨H5,I5,q5⟩
def DV(K:Ac)(x:V)(H:Hp)(k:Bool):Prop:=
 match x with
 | .non=>k=false
 | .bl b=>k=b
 | .int i=>k=(i != 0)
 | .str y=>y.length<=Am/\k=((y.length:Int) != 0)
 | .byt y=>y.size<=Am/\k=((y.size:Int) != 0)
 | .ref p=>(∃ xs,bD K H p xs/\k = !xs.isEmpty)\/(∃ xs,bL K H p xs/\k = !xs.isEmpty)\/∃ kvs,H p=some (.dK kvs)/\k = !kvs.isEmpty
 | _=>False
theorem PB{κ:Type}{kvs:List (κ×V)}{vs:List (κ×Ae)}(r:KV kvs vs):(!vs.isEmpty) = !kvs.isEmpty:=by
 cases r <;> rfl
theorem DW{xs:List V}{its:List Ae}(r:aZ xs its):(!its.toArray.isEmpty) = !xs.isEmpty:=by
 cases r <;> simp
theorem jO:(Am:Nat) < 2 ^ 63:=by rw[Jz];decide
theorem PC:OL X (fun x H Q=>∃ k,DV X.K x H k/\Q k H):=by
 intro pins s σ H x v Q I rx h
 obtain⟨k,e,q⟩:=h
 have hl:=jO
 have hs:Am=16777216:=Jz
 cases x with
 | non=>
  cases rx
  have e':k=false:=e
  subst e'
  exact truthy_none ⟨H,I,q⟩
 | bl b=>
  cases rx
  have e':k=b:=e
  subst e'
  exact Jk ⟨H,I,q⟩
 | int i=>
  obtain⟨t,rfl⟩:=rx
  have e':k=(i != 0):=e
  subst e'
  exact PySem.P.truthy_int ⟨H,I,q⟩
 | str y=>
  obtain⟨t,rfl⟩:=rx
  obtain⟨hy,e'⟩:y.length<=Am/\k=((y.length:Int) != 0):=e
  subst e'
  exact PySem.P.truthy_str (by lia) ⟨H,I.tok _,q⟩
 | byt y=>
  obtain⟨t,rfl⟩:=rx
  obtain⟨hy,e'⟩:y.size<=Am/\k=((y.size:Int) != 0):=e
  subst e'
  exact PySem.W.truthy_bytes (by lia) ⟨H,I.tok _,q⟩
 | ref p=>
  cases rx
  have e':(∃ xs,bD X.K H p xs/\k = !xs.isEmpty)\/(∃ xs,bL X.K H p xs/\k = !xs.isEmpty)\/∃ kvs,H p=some (.dK kvs)/\k = !kvs.isEmpty:=e
  rcases e' with⟨xs,hx,e'⟩ | ⟨xs,hx,e'⟩ | ⟨kvs,hx,e'⟩
  ·subst e'
   obtain⟨its,r,pl,hz⟩:=I.list hx
   have hlen:=r.length
   exact wpAny_truthy_list pl.isList (by simp only[Bb];lia) ⟨H,I.tok _,by rw[DW r];exact q⟩
  ·subst e'
   obtain⟨its,r,pl,hz⟩:=I.tuple hx
   have hlen:=r.length
   exact truthy_tuple pl (by simp only[Bb];lia) ⟨H,I.tok _,by rw[DW r];exact q⟩
  ·subst e'
   obtain⟨hz,hS,vs,r,m⟩:kvs.length<=Am/\(p == Fx)=false/\∃ vs,KV kvs vs/\s.heap.DictOf (c8 X.prog X.w) p vs:=I.hok p _ hx
   have hlen:kvs.length=vs.length:=Ei r
   exact wpAny_truthy_dict hS m (by lia) ⟨H,I.tok _,by rw[PB r];exact q⟩
 | _=>exact(show False from e).elim
theorem PD(ha:PE X a ta)(he:∀ whole,isTrue a X.env whole=(do let v <-whole;Nb a.pos;Hz [v] (truthy v))) :
  PT X a (fun σ H Q=>ta σ H fun x H'=>∃ k,DV X.K x H' k/\Q k H'):=by
 intro pins s σ H Q I h
 exact isTrue_plain (a7 (ha pins s σ H _ I h) fun v s1 ⟨x,H1,I1,r1,q1⟩=>PC pins s1 σ H1 x v Q I1 r1 q1) (he _)
theorem vals1{x:V}{us:List Ae}(r:aZ [x] us):∃ u,us=[u]/\RelV x u:=by
 cases r with
 | cons r1 r2=>cases r2;exact⟨_,rfl,r1⟩
theorem vals2{x y:V}{us:List Ae}(r:aZ [x,y] us):∃ u w',us=[u,w']/\RelV x u/\RelV y w':=by
 cases r with
 | cons r1 r2=>
  cases r2 with
  | cons r3 r4=>cases r4;exact⟨_,_,rfl,r1,r3⟩
theorem PF:dE X (.builtin "abs") (fun xs H Q=>∃ i,xs=[.int i]/\Q (.int (if i < 0 then -i else i)) H):=by
 intro pins s σ H xs us Q I r h
 obtain⟨i,rfl,q⟩:=h
 obtain⟨u,rfl,t,rfl⟩:=vals1 r
 exact call_abs_int fun u tk=>⟨.int (if i < 0 then -i else i),H,I.tok _,⟨_,rfl⟩,q⟩
end
structure m9(h:Heap)(x dx C:Addr)(mA:Str->Option Ae):Prop where
 obj:h.get? x=some (Gf C dx)
 ns:h.Ns1 dx mA
 ne:dx≠x
theorem PH{h:Heap}{dx:Addr}{mA:Str->Option Ae}(n:h.Ns1 dx mA):∃ od,h.get? dx=some od/\∀ name,Lh name od=some (mA name):=by
 obtain⟨o,es,ep,ho,hd,hk,_,hm⟩:=n
 refine⟨o,ho,fun name=>?_⟩
 have e:=hm name
 unfold nsFind findBy at e
 rw[<-Array.find?_toList] at e
 unfold Lh
 rw[hd]
 dsimp only
 split
 ·rename_i y q
  rw[q] at e
  exact congrArg some e
 ·rename_i q
  rw[q] at e
  have a:es.toList.any (·.refKey)=false:=by
   rw[List.any_eq_false]
   intro y hy
   obtain⟨z,t,hkey⟩:=hk y (Array.mem_toList_iff.mp hy)
   simp[DictEntry.refKey,hkey]
  have a':¬ es.toList.any (·.refKey)=true:=by rw[a];exact Ao
  rw[if_neg a']
  exact congrArg some e
theorem m9.look{h:Heap}{x dx C:Addr}{mA:Str->Option Ae}(I:m9 h x dx C mA):∃ od,PySem.W.InstAt h x (Gf C dx) C (some od)/\∀ name,Lh name od=some (mA name):=
 let ⟨od,ho,hl⟩:=PH I.ns
 ⟨od,⟨I.obj,rfl,rfl,ho⟩,hl⟩
section
variable {prog:Bq}{w:Cj}{A:Co}{E:Ae->Ag->Prop}{s:Ag}{K:Ac}{x dx C f:Addr}{mA:Str->Option Ae}{name:Str}{v:Ae}
theorem PJ{expr:Bool}{Q:Ae->Ag->Prop}(X:K.In s.heap)(I:m9 s.heap x dx C mA)(hg:Kl K C name=true)(hh:PySem.W.hasDictIn K C=true)
  (ha:Cd K (.ref C) name=some none) (hv:mA name=some v) (hv':PySem.W.handedIn v=true) (h:Q v {s with toks:=s.toks + 1}) :
  Bc (Bn prog w) A (getAttr (.ref x) name expr) Q E s:=by
 obtain⟨od,J,hl⟩:=I.look
 exact PySem.W.get_value X J (Ls hg).1 (PySem.W.findObj_own hh ha rfl (by rw[hl,hv])) hv' h
theorem PK{pl:Sem Bool}{Q:Ae×List Ae->Ag->Prop}(X:K.In s.heap)(I:m9 s.heap x dx C mA)(hg:Kl K C name=true)
  (hf:Cd K (.ref C) name=some (some (.ref f))) (ht:Ks K (.ref f)=true) (hv:mA name=none) (h:Q (.ref f,[.ref x]) s) :
  Bc (Bn prog w) A (Nc (.ref x) name pl) Q E s:=by
 obtain⟨od,J,hl⟩:=I.look
 exact PySem.W.method_fn X J (Ls hg).1 (Ls hg).2 hf (beq_iff_eq.mp ht) (by show(Lh name od).map (·.isSome)=some false;rw[hl,hv];rfl) h
theorem PL{ns:List Str}{Q:Unit->Ag->Prop}(X:K.In s.heap)(I:m9 s.heap x dx C mA)
  (hs:Cd K (.ref C) "__setattr__" = some (some (.builtin "object.__setattr__"))) (hp:PySem.W.plainOver K C=true) (ht:PySem.W.takerIn K C name=some none) (hh:PySem.W.hasDictIn K C=true)
  (hw:PySem.Within mA ns) (hsz:ns.length<=Am)
  (h:∀ h',m9 h' x dx C (fun y=>if y=name then some v else mA y)->Ff dx s.heap h'->Q () {s with heap:=h',toks:=s.toks + 2}) :
  Bc (Bn prog w) A (setAttr (.ref x) name v) Q E s:=by
 obtain⟨od,J,hl⟩:=I.look
 refine PySem.W.set_plain X J hs (PySem.W.osa_open (s:={s with toks:=s.toks + 1}) (r:=none) X J hp ht fun b=>?_)
 obtain⟨cd,hc,hd'⟩:=PySem.W.any_some hh
 have hx:s.heap.get? x=some ⟨.ref C,some dx,.plain,#[]⟩:=I.obj
 refine Aa (Ah (Aa (Aa (wpAny_loadPart hx (Aa (PySem.W.Looks.here (s:={s with toks:=s.toks + 1}) (PySem.W.looks_clsIn X hc) ?_))))))
 rw[hd']
 refine Ah (a:=some dx) (Aa (Ah (Aa ?_)))
 refine wpAny_nsSet1 (s:={s with toks:=s.toks + 1}) I.ns fun h' hn2 hs2=>?_
 obtain⟨oD,esD,epD,hoD,hdD,hcD⟩:=hn2.count (PySem.Within.cons name v hw)
 refine Aa (wpAny_lookBehind hoD (by rw[hdD];exact pastItsLine_dict (Bh hcD (by rw[Bs];lia))) ?_)
 exact Ah (h _ ⟨(hs2.2 _ (Bf I.ne)).trans I.obj,hn2,I.ne⟩ hs2)
theorem PM{R:Result->Ag->Prop}{vs:List Ae}{kw:List (Str×Ae)}(X:K.In s.heap)(hm:PySem.W.makesIn K C=true)
  (hi:Cd K (.ref C) "__init__" = some (some (.ref f))) (hf:PySem.W.typeIn K (.ref f)=some (.type "function"))
  (h:Jm (Bn prog w) (A.under (.builtin "type.__call__" ⟨.ref C :: vs,kw⟩)) (.call (.ref f) ⟨.ref (s.heap.objs.size + 1) :: vs,kw⟩) (PySem.W.InitBack (s.heap.objs.size + 1) R)
   {s with heap:=(s.heap.push Fc).push (Gf C s.heap.objs.size)}) :
  Jm (Bn prog w) A (.call (.ref C) ⟨vs,kw⟩) R s:=by
 obtain⟨hh,g,d,t,os⟩:=s
 exact PySem.W.make_core (PySem.W.makes_of X hm) (PySem.W.looks_findIn X hi) (fun self=>PySem.W.bind_fn X self hf) (.inl rfl) h
end
def putF(f:Str)(v:V):List (Str×V)->List (Str×V)
 | []=>[(f,v)]
 | (g,x) :: r=>if g=f then(g,v) :: r else(g,x) :: putF f v r
theorem DX(f g:Str)(v:V):∀ fs:List (Str×V),(putF f v fs).lookup g=if g=f then some v else fs.lookup g
 | []=>by
  show Cf g [(f,v)]=_
  by_cases h:g=f
  ·have hb:(g == f)=true:=beq_iff_eq.mpr h
   simp only[Cf,hb,if_pos h]
  ·have hb:(g == f)=false:=beq_eq_false_iff_ne.mpr h
   simp only[Cf,hb,if_neg h]
 | (k,x) :: r=>by
  have ih:=DX f g v r
  rw[show putF f v ((k,x) :: r)=(if k=f then(k,v) :: r else(k,x) :: putF f v r) from rfl]
  by_cases hk:k=f
  ·rw[if_pos hk]
   by_cases h:g=k
   ·have hb:(g == k)=true:=beq_iff_eq.mpr h
    simp only[Cf,hb,if_pos (h.trans hk)]
   ·have hb:(g == k)=false:=beq_eq_false_iff_ne.mpr h
    simp only[Cf,hb,if_neg (fun e:g=f=>h (e.trans hk.symm))]
  ·rw[if_neg hk]
   by_cases h:g=k
   ·have hb:(g == k)=true:=beq_iff_eq.mpr h
    simp only[Cf,hb,if_neg (fun e:g=f=>hk (h.symm.trans e))]
   ·have hb:(g == k)=false:=beq_eq_false_iff_ne.mpr h
    simp only[Cf,hb]
    exact ih
theorem vV(f:Str)(v:V):∀ fs:List (Str×V),f∈(putF f v fs).map (·.1)/\∀ g,g∈fs.map (·.1)->g∈(putF f v fs).map (·.1)
 | []=>⟨by simp[putF],fun g h=>by simp at h⟩
 | (k,x) :: r=>by
  obtain⟨i1,i2⟩:=vV f v r
  rw[show putF f v ((k,x) :: r)=(if k=f then(k,v) :: r else(k,x) :: putF f v r) from rfl]
  by_cases hk:k=f
  ·rw[if_pos hk]
   subst hk
   exact⟨by simp,fun g h=>by simpa using h⟩
  ·rw[if_neg hk]
   refine⟨?_,fun g h=>?_⟩
   ·rw[Ay]
    exact Au _ i1
   ·rw[Ay] at h ⊢
    rcases Ar.mp h with e | e
    ·exact Ar.mpr (.inl e)
    ·exact Au _ (i2 g e)
theorem DY(f:Str)(v:V):∀ fs:List (Str×V),(putF f v fs).length<=fs.length + 1
 | []=>by simp[putF]
 | (k,x) :: r=>by
  have ih:=DY f v r
  rw[show putF f v ((k,x) :: r)=(if k=f then(k,v) :: r else(k,x) :: putF f v r) from rfl]
  by_cases hk:k=f
  ·rw[if_pos hk,Bs,Bs];lia
  ·rw[if_neg hk,Bs,Bs];lia
theorem fM.some_of{v:V}{o:Option Ae}(r:fM (some v) o):∃ u,o=some u/\RelV v u:=by
 cases o with
 | none=>exact(show False from r).elim
 | some u=>exact⟨u,rfl,r⟩
theorem fM.none_of{o:Option Ae}(r:fM none o):o=none:=by
 cases o with
 | none=>rfl
 | some u=>exact(show False from r).elim
theorem PN{v:V}{u:Ae}(r:RelV v u):PySem.W.handedIn u=true:=by
 cases v with
 | non=>cases (show u=Value.none from r);rfl
 | bl b=>cases (show u=Value.bool b from r);rfl
 | int i=>obtain⟨t,e⟩:=(show ∃ t,u=Value.int i t from r);cases e;rfl
 | str x=>obtain⟨t,e⟩:=(show ∃ t,u=Value.str x t from r);cases e;rfl
 | byt b=>obtain⟨t,e⟩:=(show ∃ t,u=Value.bytes b t from r);cases e;rfl
 | flt b=>obtain⟨t,e⟩:=(show ∃ t,u=Value.float b t from r);cases e;rfl
 | ref a=>cases (show u=Value.ref a from r);rfl
 | ty n=>cases (show u=Value.type n from r);rfl
section
variable {P:Bq}{w:Cj}{H H':Hp}{h h':Heap}{a C dx:Addr}{fs fs':List (Str×V)}
theorem sJ(hok:cX P w H h)(e:H a=some (.ins C dx fs)):∃ mA,m9 h a dx C mA/\(∀ f,fM (fs.lookup f) (mA f))/\PySem.Within mA (fs.map (·.1))/\fs.length<=1000/\H dx=some (.own a):=by
 obtain⟨d,z,ne,ob,mA,n,r,q⟩:=(show cT P w H h a (.ins C dx fs) from hok a _ e)
 exact⟨mA,⟨ob,n,ne⟩,r,q,z,d⟩
end
structure gO(K:Ac)(C:Addr):Prop where
 pg:Kl K C Str.empty=true
 hd:PySem.W.hasDictIn K C=true
 po:PySem.W.plainOver K C=true
 sa:Cd K (.ref C) "__setattr__" = some (some (.builtin "object.__setattr__"))
theorem gO.get{K:Ac}{C:Addr}(c:gO K C)(f:Str):Kl K C f=true:=c.pg
def fX(K:Ac)(C:Addr)(f:Str):Prop:=Cd K (.ref C) f=some none
theorem fX.taker{K:Ac}{C:Addr}{f:Str}(n:fX K C f):PySem.W.takerIn K C f=some none:=by
 unfold PySem.W.takerIn
 rw[show Cd K (.ref C) f=some none from n]
 rfl
structure oK(K:Ac)(C:Addr)(m:Str)(f:Addr):Prop where
 at_:Cd K (.ref C) m=some (some (.ref f))
 fn:Ks K (.ref f)=true
 kp:Ea K (.ref f)=true
section
variable {X:Cx}{pins:List (Addr×Obj)}{σ:St}{H:Hp}{s:Ag}{a C dx:Addr}{fs:List (Str×V)}{f:Str}{v:V}{A:Co}{E:Ae->Ag->Prop}
theorem PQ{b:Bool}{Q:Ae->Ag->Prop}(I:Inv X pins σ H s)(e:H a=some (.ins C dx fs))(c:gO X.K C)(n:fX X.K C f)(l:fs.lookup f=some v)
  (h:∀ u s',Inv X pins σ H s'->RelV v u->Q u s'):Bc (Bn X.prog X.w) A (getAttr (.ref a) f b) Q E s:=by
 obtain⟨mA,O,r,_,_,_⟩:=sJ I.hok e
 obtain⟨u,hu,ru⟩:=fM.some_of (v:=v) (o:=mA f) (by rw[<-l];exact r f)
 exact PJ I.kIn O (c.get f) c.hd n hu (PN ru) (h u _ (I.tok _) ru)
theorem DZ{m:Str}{g:Addr}{pl:Sem Bool}{Q:Ae×List Ae->Ag->Prop}(I:Inv X pins σ H s)(e:H a=some (.ins C dx fs))(c:gO X.K C)(k:oK X.K C m g)(l:fs.lookup m=none)
  (h:Q (.ref g,[.ref a]) s):Bc (Bn X.prog X.w) A (Nc (.ref a) m pl) Q E s:=by
 obtain⟨mA,O,r,_,_,_⟩:=sJ I.hok e
 have hn:mA m=none:=fM.none_of (by rw[<-l];exact r m)
 exact PK I.kIn O (c.get m) k.at_ k.fn hn h
theorem PR{y:V}{u:Ae}{Q:Unit->Ag->Prop}(I:Inv X pins σ H s)(e:H a=some (.ins C dx fs))(c:gO X.K C)(n:fX X.K C f)(hl:fs.length < 1000)(ry:RelV y u)
  (h:∀ s',Inv X pins σ (aS H a (.ins C dx (putF f y fs))) s'->Q () s'):Bc (Bn X.prog X.w) A (setAttr (.ref a) f u) Q E s:=by
 obtain⟨mA,O,r,wi,_,ho⟩:=sJ I.hok e
 have hz:(fs.map (·.1)).length<=Am:=by rw[Ab,Jz];lia
 refine PL I.kIn O c.sa c.po n.taker c.hd wi hz fun h' O' sb=>h _ ?_
 have hd:∃ o,h'.get? dx=some o:=let ⟨o,_,_,e',_⟩:=O'.ns;⟨o,e'⟩
 refine I.write (x:=a) (e:=dx) (by rw[e];exact True.intro) (.inr ho) (fun b q hb z=>(sb.2 b hb).trans z) hd ?_
 refine⟨by rw[bF O.ne];exact ho,?_,O.ne,O'.obj,_,O'.ns,fun g=>?_,fun g hg=>?_⟩
 ·have:=DY f y fs;lia
 ·show fM ((putF f y fs).lookup g) (if g=f then some u else mA g)
  rw[DX]
  by_cases q:g=f
  ·rw[if_pos q,if_pos q];exact ry
  ·rw[if_neg q,if_neg q];exact r g
 ·by_cases q:g=f
  ·rw[q];exact(vV f y fs).1
  ·refine(vV f y fs).2 g (wi g fun z=>hg ?_)
   show(if g=f then some u else mA g)=none
   rw[if_neg q];exact z
theorem Inv.made(I:Inv X pins σ H s):Inv X pins σ (aS (aS H s.heap.objs.size (.own (s.heap.objs.size + 1))) (s.heap.objs.size + 1) (.ins C s.heap.objs.size []))
  {s with heap:=(s.heap.push Fc).push (Gf C s.heap.objs.size)}:=by
 have e1:(s.heap.push Fc).get? s.heap.objs.size=some Fc:=Az s.heap rfl
 have e2:((s.heap.push Fc).push (Gf C s.heap.objs.size)).get? (s.heap.objs.size + 1)=some (Gf C s.heap.objs.size):=by
  have:=Az (s.heap.push Fc) (o:=Gf C s.heap.objs.size) rfl
  rwa [Du] at this
 have e3:(s.heap.push Fc).Ns s.heap.objs.size (fun _=>none):=⟨Fc,#[],_,e1,rfl,(fun e he=>absurd he (by simp)),fun _=>rfl⟩
 have I1:=I.laid (a:=s.heap.objs.size) (o:=.own (s.heap.objs.size + 1)) (h':=s.heap.push Fc) (t':=s.toks) (fun b u q=>Af _ q) (Ai _) ⟨_,e1⟩
 refine I1.laid (a:=s.heap.objs.size + 1) (o:=.ins C s.heap.objs.size []) (t':=s.toks) (fun b u q=>Af _ q) (Fy (Du _ _)) ?_
 have ne:s.heap.objs.size≠s.heap.objs.size + 1:=Bg (Ie _)
 refine⟨by rw[bF ne,cJ],Bv _,ne,e2,fun _=>none,(Heap.Ns1.of_empty e3).at fun o q=>Af _ q,fun _=>True.intro,fun y hy=>absurd rfl hy⟩
theorem PU{prog:Bq}{w:Cj}{env:Env}{e:Expr}{f:Str}{pos:Pos}{s:Ag}{Q:Ae->Ag->Prop}(hb:Ja e f env (eval e env)=eval e env)
  (h:Bc (Bn prog w) A (eval e env) (fun o s₁=>Bc (Bn prog w) A (getAttr o f true) Q E s₁) E s):Bc (Bn prog w) A (eval (.Attribute e f pos) env) Q E s:=
 Attribute_any_ h (by rw[arm_eval_Attribute,hb])
end
def PV(K:Ac)(ta:TE)(f:Str):TE:=fun σ H Q=>ta σ H fun x H1=>∃ a C dx fs v,x=.ref a/\H1 a=some (.ins C dx fs)/\gO K C/\fX K C f/\fs.lookup f=some v/\Q v H1
def PX(K:Ac)(ta tv:TE)(f:Str):TS:=fun D σ H=>tv σ H fun y H1=>ta σ H1 fun x H2=>∃ a C dx fs,x=.ref a/\H2 a=some (.ins C dx fs)/\gO K C/\fX K C f/\fs.length < 1000/\
 D.nx σ (aS H2 a (.ins C dx (putF f y fs)))
section
variable {X:Cx}{o e value:Expr}{f:Str}{pos pos' tpos:Pos}{ta tv:TE}
theorem PY(he:PE X e ta)(hb:Ja e f X.env (eval e X.env)=eval e X.env):PE X (.Attribute e f pos) (PV X.K ta f):=by
 intro pins s σ H Q I h
 refine PU hb (a7 (he pins s σ H _ I h) fun u s1 ⟨x,H1,I1,rx,a,C,dx,fs,v,ex,ea,c,n,l,q⟩=>?_)
 subst ex
 obtain rfl:u=Value.ref a:=rx
 exact PQ I1 ea c n l fun u' s2 I2 ru=>⟨v,H1,I2,ru,q⟩
theorem PZ(ha:PE X o ta)(hv:PE X value tv)(hs:Jf value (some (.Attribute o f pos')) pos.line X.env=pure false):PS X (.Assign [.Attribute o f pos'] value pos) (PX X.K ta tv f):=by
 intro pins s σ H D I h
 refine plainObj_wpAny_Assign_Attribute (a7 (hv pins s σ H _ I h) fun u s1 ⟨y,H1,I1,ry,q⟩=>a7 (ha pins s1 σ H1 _ I1 q) fun ov s2 ⟨x,H2,I2,rx,a,C,dx,fs,ex,ea,c,n,l,q2⟩=>?_) hs
 subst ex
 obtain rfl:ov=Value.ref a:=rx
 exact PR I2 ea c n l ry fun s3 I3=>⟨σ,_,I3,q2⟩
end
section
variable {X:Cx}{pins:List (Addr×Obj)}{σ:St}{H:Hp}{s:Ag}{A:Co}{E:Ae->Ag->Prop}{Q:Ae->Ag->Prop}{c:Ae}{b:Bool}
inductive iH(K:Ac)(H:Hp):V->Ae->Prop where
 | non:iH K H .non (.type "NoneType")
 | bl (x:Bool):iH K H (.bl x) (.type "bool")
 | int (i:Int):iH K H (.int i) (.type "int")
 | str (x:Str):iH K H (.str x) (.type "str")
 | flt (x:UInt64):iH K H (.flt x) (.type "float")
 | lst {a:Addr} {xs:List V} (e:H a=some (.lst xs)):iH K H (.ref a) (.type "list")
 | frz {a:Addr} {o:Obj} {xs:List V} (e:H a=some (.frz o (.lst xs))):iH K H (.ref a) (.type "list")
 | tup {a:Addr} {xs:List V} (e:H a=some (.tup xs)):iH K H (.ref a) (.type "tuple")
 | dK {a:Addr} {kvs:List (aD×V)} (e:H a=some (.dK kvs)):iH K H (.ref a) (.type "dict")
 | dT {a:Addr} {kvs:List (List aD×V)} (e:H a=some (.dT kvs)):iH K H (.ref a) (.type "dict")
 | ins {a C dx:Addr} {fs:List (Str×V)} (e:H a=some (.ins C dx fs)) (cl:gO K C) (ha:Cd K (.ref C) "__class__" = some (some (.builtin "object.__class__")))
   (hn:PySem.W.specialIn K (.builtin "object.__class__") "__get__" = some (some (.builtin "getset_descriptor.__get__"))) (htk:PySem.W.takesIn K (.builtin "object.__class__")=some true)
   (hm:PySem.W.mroIn K C (.type "object")=some true):iH K H (.ref a) (.ref C)
theorem P0{x:V}{u t:Ae}(I:Inv X pins σ H s)(rx:RelV x u)(ty:iH X.K H x t)(e:Ip X.K t c=some b)(h:∀ tk,Q (.bool b) {s with toks:=tk}) :
  Bc (Bn X.prog X.w) A (call (.builtin "isinstance") [u,c]) Q E s:=by
 cases ty with
 | non=>cases (show u=Value.none from rx);exact Ek PySem.W.kitx_none I.kIn True.intro e (fun z=>nomatch z) h
 | bl y=>cases (show u=Value.bool y from rx);exact Ek PySem.W.kitx_bool I.kIn True.intro e (fun z=>nomatch z) h
 | int i=>obtain⟨t,q⟩:=(show ∃ t,u=Value.int i t from rx);cases q;exact Ek PySem.W.kitx_int I.kIn True.intro e (fun z=>nomatch z) h
 | str y=>obtain⟨t,q⟩:=(show ∃ t,u=Value.str y t from rx);cases q;exact Ek PySem.W.kitx_str I.kIn True.intro e (fun z=>nomatch z) h
 | flt y=>obtain⟨t,q⟩:=(show ∃ t,u=Value.float y t from rx);cases q;exact Ek PySem.W.kitx_float I.kIn True.intro e (fun z=>nomatch z) h
 | @lst a xs ea=>
  cases (show u=Value.ref a from rx)
  obtain⟨_,_,n,_,h1⟩:=(show cT X.prog X.w H s.heap a (.lst xs) from I.hok a _ ea)
  exact Ek PySem.W.kitx_list I.kIn ⟨_,h1,rfl⟩ e (fun z=>nomatch z) h
 | @frz a ob xs ea=>
  cases (show u=Value.ref a from rx)
  obtain⟨_,_,_,n,_,h1⟩:=(show cT X.prog X.w H s.heap a (.frz ob (.lst xs)) from I.hok a _ ea)
  exact Ek PySem.W.kitx_list I.kIn ⟨_,h1,rfl⟩ e (fun z=>nomatch z) h
 | @tup a xs ea=>
  cases (show u=Value.ref a from rx)
  obtain⟨_,_,_,p⟩:=(show cT X.prog X.w H s.heap a (.tup xs) from I.hok a _ ea)
  obtain⟨o,h1,h2,_⟩:=p
  exact Ek PySem.W.kitx_tuple I.kIn ⟨o,h1,h2⟩ e (fun z=>nomatch z) h
 | @dK a kvs ea=>
  cases (show u=Value.ref a from rx)
  obtain⟨_,_,vs,_,p⟩:=(show cT X.prog X.w H s.heap a (.dK kvs) from I.hok a _ ea)
  obtain⟨o,es,ep,h1,h2,_⟩:=p
  exact Ek PySem.W.kitx_dict I.kIn ⟨o,h1,h2.1⟩ e (fun z=>nomatch z) h
 | @dT a kvs ea=>
  cases (show u=Value.ref a from rx)
  obtain⟨_,_,xs,_,o,es,ep,h1,h2,_⟩:=(show cT X.prog X.w H s.heap a (.dT kvs) from I.hok a _ ea)
  exact Ek PySem.W.kitx_dict I.kIn ⟨o,h1,h2.1⟩ e (fun z=>nomatch z) h
 | @ins a C dx fs ea cl ha hn htk hm=>
  cases (show u=Value.ref a from rx)
  obtain⟨mA,O,_⟩:=sJ I.hok ea
  obtain⟨od,J,_⟩:=O.look
  exact Ek (PySem.W.kitx_own (cl.get _) cl.hd ha hn htk hm) I.kIn J e (fun z=>nomatch z) h
end
structure cH(k:Nat)(A:Co):Prop where
 hd:A.handled=none
 dp:A.depth + 3 * k + 5 < recursionLimit
 un:A.units + 16 * k + 200 < Fm
theorem cH.mono{j k:Nat}{A:Co}(r:cH k A)(h:j<=k):cH j A:=⟨r.hd,by have:=r.dp;lia,by have:=r.un;lia⟩
theorem cH.deeper{k:Nat}{A:Co}(r:cH (k + 1) A)(env:Env):cH k (A.deeper env):=
 ⟨r.hd,by have:=r.dp;show A.depth + 1 + 3 * k + 5 < _;lia,by have:=r.un;show A.units + 3 + 16 * k + 200 < _;lia⟩
theorem P1{A:Co}{C:Addr}{us:List Ae}{kw:List (Str×Ae)}:(A.under (.builtin "type.__call__" ⟨.ref C :: us,kw⟩)).depth=A.depth + 1:=by
 first | rfl | simp[Around.under,Code.weight,Code.isCreation,Code.isGuard,Code.isCaller,Code.frames,Code.isFrame,guardIds]
theorem P2{A:Co}{C:Addr}{us:List Ae}{kw:List (Str×Ae)}:(A.under (.builtin "type.__call__" ⟨.ref C :: us,kw⟩)).units=A.units + 1:=by
 first | rfl | simp[Around.under,Code.cUnits,Code.frames,Code.isFrame]
theorem cH.make{k:Nat}{A:Co}(r:cH (k + 1) A)(C:Addr)(us:List Ae)(kw:List (Str×Ae)):cH k (A.under (.builtin "type.__call__" ⟨.ref C :: us,kw⟩)):=
 ⟨r.hd,by have:=r.dp;rw[P1];lia,by have:=r.un;rw[P2];lia⟩
theorem cH.depth{k:Nat}{A:Co}(r:cH k A):A.depth < recursionLimit:=by have:=r.dp;lia
theorem cH.units{k:Nat}{A:Co}(r:cH k A):A.units + 64 < Fm:=by have:=r.un;lia
def sL:TA:=fun _ H Q=>Q [] H
def P4(ta:TE)(tr:TA):TA:=fun σ H Q=>ta σ H fun x H1=>tr σ H1 fun xs H2=>Q (x :: xs) H2
section
variable {X:Cx}{e:Expr}{es:List Expr}{te:TE}{t:TA}{pos:Pos}
theorem P5:PA X [] sL:=fun _ _ _ _ H Q I h=>Calls.spliced_nil ⟨[],H,I,.nil,h⟩
theorem P6(ha:PE X e te)(hr:PA X es t)(hs:Bi (e :: es) X.env=(false,eval e X.env) :: Bi es X.env:=by rfl):PA X (e :: es) (P4 te t):=by
 intro pos pins s σ H Q I h
 rw[hs]
 show Bc _ _ (spliced ((false,eval e X.env) :: Gu pos (Bi es X.env))) _ _ s
 refine Calls.spliced_cons (a7 (ha pins s σ H _ I h) fun u s1 ⟨x,H1,I1,r1,q1⟩=>?_)
 exact a7 (hr pos pins s1 σ H1 _ I1 q1) fun us s2 ⟨xs,H2,I2,r2,q2⟩=>⟨x :: xs,H2,I2,.cons r1 r2,q2⟩
def P7(t:TA):TE:=fun σ H Q=>t σ H fun xs H1=>xs.length<=Am/\∀ p,H1 p=none->Q (.ref p) (aS H1 p (.tup xs))
def P8(t:TA):TE:=fun σ H Q=>t σ H fun xs H1=>xs.length<=Am/\∀ p,H1 p=none->Q (.ref p) (aS H1 p (.lst xs))
theorem P9{x1}(h:PA X es t):PE X (.Tuple es x1 pos) (P7 t):=by
 intro pins s σ H Q I hq
 refine wpAny_Tuple_spliced (a7 (h pos pins s σ H _ I hq) fun us s1 ⟨xs,H1,I1,r,z,q⟩=>⟨by rw[<-r.length];exact z,?_⟩)
 have hf:H1 s1.heap.objs.size=none:=I1.hok.fresh (Ai _)
 refine⟨.ref s1.heap.objs.size,aS H1 s1.heap.objs.size (.tup xs),I1.laid (t':=s1.toks) (fun b u e=>Af _ e) (Ai _) ?_,rfl,q _ hf⟩
 exact⟨z,us,r,⟨_,Az _ rfl,rfl,_,rfl⟩⟩
theorem D0(h:PA X es t):PE X (.List es pos) (P8 t):=by
 intro pins s σ H Q I hq
 refine wpAny_List_spliced (a7 (h pos pins s σ H _ I hq) fun us s1 ⟨xs,H1,I1,r,z,q⟩=>⟨by rw[<-r.length];exact z,?_⟩)
 have hf:H1 s1.heap.objs.size=none:=I1.hok.fresh (Ai _)
 refine⟨.ref s1.heap.objs.size,aS H1 s1.heap.objs.size (.lst xs),I1.laid (t':=s1.toks) (fun b u e=>Af _ e) (Ai _) ?_,rfl,q _ hf⟩
 exact⟨z,us,0,r,Az _ rfl⟩
end
abbrev Sp:=List V->Hp->VK->XK->Prop
abbrev kB:=List Env->Hp->Ag->XK->Ae->Ag->Prop
structure nA(P:Bq)(w:Cj)(K:Ac)(mg:Str->Option Ae)(base:Heap)(A:Co)(outer:List Env)(s:Ag)(H:Hp):Prop where
 frames:A.frames=some outer
 mod:Mod K mg base
 bs:∀ b o,base.get? b=some o->s.heap.get? b=some o/\H b=none
 bsz:base.objs.size<=s.heap.objs.size
 funs:s.heap.FunFrames base outer
 frf:∀ b∈iG outer,H b=none
 hok:cX P w H s.heap
 bare:Mo s.gens
def CE(outer:List Env)(P:Bq)(w:Cj)(H:Hp)(s:Ag)(Q:VK)(u:Ae)(s':Ag):Prop:=
 ∃ v H',s'.os=s.os/\Mo s'.gens/\Un (iG outer) [] H H' s.heap s'.heap/\cX P w H' s'.heap/\RelV v u/\Q v H'
def CR(CX:kB)(outer:List Env)(P:Bq)(w:Cj)(H:Hp)(s:Ag)(Q:VK)(E:XK)(r:Result)(s':Ag):Prop:=
 match r with
 | .ok (.ret u)=>CE outer P w H s Q u s'
 | .ok _=>False
 | .error e=>CX outer H s E e s'
structure eJ(P:Bq)(w:Cj)(K:Ac)(mg:Str->Option Ae)(base:Heap)(CX:kB)(k:Nat)(f:Addr)(fd:Bl)(ps:List Str)(sp:Sp):Prop where
 len:∀ vs H Q E,sp vs H Q E->vs.length=ps.length
 run:∀ (A:Co) (outer:List Env) (s:Ag) (H:Hp) (args:Args) (us:List Ae) (vs:List V) (Q:VK) (E:XK),cH k A->nA P w K mg base A outer s H->BindsTo s fd args (ps.zip us)->aZ vs us->sp vs H Q E->
  Jm (Bn P w) A (.call (.ref f) args) (CR CX outer P w H s Q E) s
theorem nA.make{P:Bq}{w:Cj}{K:Ac}{mg:Str->Option Ae}{base:Heap}{A:Co}{outer:List Env}{s:Ag}{H:Hp}(e:nA P w K mg base A outer s H)(C:Addr)(us:List Ae)(kw:List (Str×Ae)) :
  nA P w K mg base (A.under (.builtin "type.__call__" ⟨.ref C :: us,kw⟩)) outer s H:=⟨by first | exact e.frames | (simpa [Around.under,Code.envs,Code.isFrame,pushEnvs] using e.frames),e.mod,e.bs,e.bsz,e.funs,e.frf,e.hok,e.bare⟩
section
variable {X:Cx}{pins:List (Addr×Obj)}{σ:St}{H:Hp}{s s':Ag}
theorem Inv.env0(I:Inv X pins σ H s):nA X.prog X.w X.K X.mg X.base X.A X.stack s H:=
 ⟨I.ok.frames,I.ok.mod,I.bs,Bh I.ok.bsz I.sz,I.stack,I.stkFree,I.hok,I.bare⟩
theorem Inv.after{Q:VK}{u:Ae}(I:Inv X pins σ H s)(h:CE X.stack X.prog X.w H s Q u s'):EP X pins σ Q u s':=by
 obtain⟨v,H',os,bare,un,hok,r,q⟩:=h
 obtain⟨hh,g,d,t,os'⟩:=s'
 obtain rfl:os'=s.os:=os
 exact⟨v,H',I.call (h':=hh) (g':=g) (d':=d) (t':=t) (ch:=[]) un hok bare (fun b z=>absurd z (by simp)),r,q⟩
end
def vW(sp:Sp)(dvs:List V)(E:XK)(t:TA):TE:=fun σ H Q=>t σ H fun vs H1=>sp (vs ++ dvs) H1 Q E
def vX(C:Addr)(m:Str)(sp:Sp)(dvs:List V)(E:XK)(ta:TE)(t:TA):TE:=fun σ H Q=>ta σ H fun x H1=>∃ a dx fs,x=.ref a/\H1 a=some (.ins C dx fs)/\fs.lookup m=none/\
 t σ H1 fun vs H2=>sp (x :: (vs ++ dvs)) H2 Q E
def D1(C:Addr)(sp:Sp)(dvs:List V)(E:XK)(t:TA):TE:=fun σ H Q=>t σ H fun vs H1=>∀ x dx,H1 x=none->H1 dx=none->dx≠x->
 sp (.ref x :: (vs ++ dvs)) (aS (aS H1 dx (.own x)) x (.ins C dx [])) (fun v H2=>v=.non/\Q (.ref x) H2) E
def Binds(K:Ac)(fd:Bl)(ps:List Str)(ds:List Ae):Prop:=
 ∀ (s:Ag) (us:List Ae),K.In s.heap->(us ++ ds).length=ps.length->BindsTo s fd ⟨us,[]⟩ (ps.zip (us ++ ds))
theorem Binds.all{K:Ac}{fd:Bl}{ps:List Str}(h:∀ us:List Ae,us.length=ps.length->bindArgs fd ⟨us,[]⟩=pure (ps.zip us)):Binds K fd ps []:=fun s us _ hl=>by
 rw[He] at hl ⊢
 exact .of_eq (h us hl)
def k9(CX:kB)(X:Cx)(E:XK):Prop:=∀ (pins:List (Addr×Obj)) (σ:St) (H:Hp) (s:Ag) (e:Ae) (s':Ag),Inv X pins σ H s->CX X.stack H s E e s'->X.xe e s'
section
variable {X:Cx}{CX:kB}{k:Nat}{f C:Addr}{fd:Bl}{ps:List Str}{sp:Sp}{dvs:List V}{ds:List Ae}{E:XK}{x m:Str}{p pos apos:Pos}{e o:Expr}{es:List Expr}{ta:TE}{t:TA}
theorem qE{pins:List (Addr×Obj)}{σ:St}{H:Hp}{s:Ag}{Q:VK}{us:List Ae}{vs:List V}(F:eJ X.prog X.w X.K X.mg X.base CX k f fd ps sp)(hr:cH k X.A)(hb:Binds X.K fd ps ds)(hd:aZ dvs ds)(hx:k9 CX X E)
  (I:Inv X pins σ H s) (r:aZ vs us) (h:sp (vs ++ dvs) H Q E):Bc (Bn X.prog X.w) X.A (call (.ref f) us) (EP X pins σ Q) X.xe s:=by
 have r2:aZ (vs ++ dvs) (us ++ ds):=r.append hd
 have hl:(us ++ ds).length=ps.length:=by rw[<-r2.length];exact F.len _ _ _ _ h
 refine wpAny_call (codeAny_mono (F.run X.A X.stack s H ⟨us,[]⟩ (us ++ ds) (vs ++ dvs) Q E hr I.env0 (hb s us I.kIn hl) r2 h) fun r s' hq=>?_)
 cases r with
 | error e=>exact hx pins σ H s e s' I hq
 | ok fl=>
  cases fl with
  | ret u=>exact I.after hq
  | next=>exact Gd hq
  | brk=>exact Gd hq
  | cont=>exact Gd hq
theorem QA(F:eJ X.prog X.w X.K X.mg X.base CX k f fd ps sp)(hr:cH k X.A)(hg:Gl X x)(hm:X.mg x=some (.ref f))(hk:Ea X.K (.ref f)=true)(hb:Binds X.K fd ps ds)(hd:aZ dvs ds)(hx:k9 CX X E)
  (ha:PA X (e :: es) t) (hdb:(x == ("__debug__" : Str))=false:=by decide) (he:Bi (e :: es) X.env=(false,eval e X.env) :: Bi es X.env:=by rfl) (hpl:(Gu pos (Bi es X.env)).any (·.1)=false:=by rfl) :
  PE X (.Call (.Name x p) (e :: es) [] pos) (vW sp dvs E t):=by
 intro pins s σ H Q I h
 refine Dv (p7 I hg hm ?_ hdb)
 refine Ju (h₀:=X.base) I.ok.mod.kin hk (a7 (ha pos pins s σ H _ I h) fun us s1 ⟨vs,H1,I1,r,q⟩=>⟨I1.kIn,?_⟩) he hpl
 exact qE F hr hb hd hx I1 r q
theorem QB(F:eJ X.prog X.w X.K X.mg X.base CX k f fd ps sp)(hr:cH k X.A)(hg:Gl X x)(hm:X.mg x=some (.ref f))(hk:Ea X.K (.ref f)=true)(hb:Binds X.K fd ps ds)(hd:aZ dvs ds)(hx:k9 CX X E)
  (hdb:(x == ("__debug__" : Str))=false:=by decide):PE X (.Call (.Name x p) [] [] pos) (vW sp dvs E sL):=by
 intro pins s σ H Q I h
 refine Dv (p7 I hg hm ?_ hdb)
 exact Lu I.kIn hk (qE (us:=[]) F hr hb hd hx I .nil h)
theorem QC{pl:Sem Bool}(he:PE X o ta)(c:gO X.K C)(hm:oK X.K C m f)(F:eJ X.prog X.w X.K X.mg X.base CX k f fd ps sp)(hr:cH k X.A)(hb:Binds X.K fd ps ds)(hd:aZ dvs ds)(hx:k9 CX X E)(ha:PA X (e :: es) t)
  (hst:Bi (e :: es) X.env=(false,eval e X.env) :: Bi es X.env:=by rfl) (hpl:(Gu pos (Bi es X.env)).any (·.1)=false:=by rfl)
  (ht:eval (.Call (.Attribute o m apos) (e :: es) [] pos) X.env=(do
   let ov <-eval o X.env
   Nb apos.atName
   let (f,first) <-Hz [ov] (Nc ov m pl)
   callWith pos f first (Gu pos (Bi (e :: es) X.env)) (backToKw pos (Lc [] X.env))):=by rfl) :
  PE X (.Call (.Attribute o m apos) (e :: es) [] pos) (vX C m sp dvs E ta t):=by
 intro pins s σ H Q I h
 refine PySem.W.methodCall_KW (pl:=pl) (a7 (he pins s σ H _ I h) fun u s1 ⟨x,H1,I1,rx,a,dx,fs,ex,ea,l,q⟩=>?_) ht
 subst ex
 obtain rfl:u=Value.ref a:=rx
 refine DZ I1 ea c hm l ?_
 refine Ju (first:=[.ref a]) (h₀:=X.base) I.ok.mod.kin hm.kp (a7 (ha pos pins s1 σ H1 _ I1 q) fun us s2 ⟨vs,H2,I2,r,q2⟩=>⟨I2.kIn,?_⟩) hst hpl
 exact qE (us:=.ref a :: us) (vs:=.ref a :: vs) F hr hb hd hx I2 (.cons rfl r) q2
theorem QD{pl:Sem Bool}(he:PE X o ta)(c:gO X.K C)(hm:oK X.K C m f)(F:eJ X.prog X.w X.K X.mg X.base CX k f fd ps sp)(hr:cH k X.A)(hb:Binds X.K fd ps ds)(hd:aZ dvs ds)(hx:k9 CX X E)
  (ht:eval (.Call (.Attribute o m apos) [] [] pos) X.env=(do
   let ov <-eval o X.env
   Nb apos.atName
   let (f,first) <-Hz [ov] (Nc ov m pl)
   callWith pos f first (Gu pos (Bi [] X.env)) (backToKw pos (Lc [] X.env))):=by rfl) :
  PE X (.Call (.Attribute o m apos) [] [] pos) (vX C m sp dvs E ta sL):=by
 intro pins s σ H Q I h
 refine PySem.W.methodCall_KW (pl:=pl) (a7 (he pins s σ H _ I h) fun u s1 ⟨x,H1,I1,rx,a,dx,fs,ex,ea,l,q⟩=>?_) ht
 subst ex
 obtain rfl:u=Value.ref a:=rx
 refine DZ I1 ea c hm l ?_
 exact Lu (first:=[.ref a]) I1.kIn hm.kp (qE (us:=[.ref a]) (vs:=[.ref a]) F hr hb hd hx I1 (.cons rfl .nil) q)
structure Mk(K:Ac)(C f:Addr):Prop where
 makes:PySem.W.makesIn K C=true
 init:Cd K (.ref C) "__init__" = some (some (.ref f))
 fn:Ks K (.ref f)=true
 kp:Ea K (.ref C)=true
theorem D2{pins:List (Addr×Obj)}{σ:St}{H:Hp}{s:Ag}{Q:VK}{us:List Ae}{vs:List V}(M:Mk X.K C f)(F:eJ X.prog X.w X.K X.mg X.base CX k f fd ps sp)(hr:cH (k + 1) X.A)(hb:Binds X.K fd ps ds)(hd:aZ dvs ds)
  (hx:k9 CX X E) (I:Inv X pins σ H s) (r:aZ vs us)
  (h:∀ x dx,H x=none->H dx=none->dx≠x->sp (.ref x :: (vs ++ dvs)) (aS (aS H dx (.own x)) x (.ins C dx [])) (fun v H2=>v=.non/\Q (.ref x) H2) E) :
  Bc (Bn X.prog X.w) X.A (call (.ref C) us) (EP X pins σ Q) X.xe s:=by
 have hq:=h (s.heap.objs.size + 1) s.heap.objs.size (I.hok.fresh (Ml _)) (I.hok.fresh (Ai _)) (Bg (Ie _))
 have I2:=Inv.made (C:=C) I
 have r2:aZ (V.ref (s.heap.objs.size + 1) :: (vs ++ dvs)) (Value.ref (s.heap.objs.size + 1) :: (us ++ ds)):=.cons rfl (r.append hd)
 have hl:(Value.ref (s.heap.objs.size + 1) :: us ++ ds).length=ps.length:=by
  have e:=r2.length
  rw[F.len _ _ _ _ hq] at e
  exact e.symm
 refine wpAny_call (PM (f:=f) I.kIn M.makes M.init (beq_iff_eq.mp M.fn) (codeAny_mono (F.run _ X.stack _ _ ⟨Value.ref (s.heap.objs.size + 1) :: us,[]⟩ (Value.ref (s.heap.objs.size + 1) :: (us ++ ds)) _ _ E (hr.make C us [])
  (I2.env0.make C us []) (hb _ (Value.ref (s.heap.objs.size + 1) :: us) I2.kIn hl) r2 hq) fun r s' hq'=>?_))
 cases r with
 | error e=>exact hx pins σ _ _ e s' I2 hq'
 | ok fl=>
  cases fl with
  | ret u=>
   obtain⟨v,H',I3,rv,ev,q3⟩:=I2.after hq'
   subst ev
   exact⟨rv,⟨V.ref (s.heap.objs.size + 1),H',I3,rfl,q3⟩⟩
  | next=>exact Gd hq'
  | brk=>exact Gd hq'
  | cont=>exact Gd hq'
theorem QE(M:Mk X.K C f)(F:eJ X.prog X.w X.K X.mg X.base CX k f fd ps sp)(hr:cH (k + 1) X.A)(hg:Gl X x)(hm:X.mg x=some (.ref C))(hb:Binds X.K fd ps ds)(hd:aZ dvs ds)(hx:k9 CX X E)
  (ha:PA X (e :: es) t) (hdb:(x == ("__debug__" : Str))=false:=by decide) (he:Bi (e :: es) X.env=(false,eval e X.env) :: Bi es X.env:=by rfl) (hpl:(Gu pos (Bi es X.env)).any (·.1)=false:=by rfl) :
  PE X (.Call (.Name x p) (e :: es) [] pos) (D1 C sp dvs E t):=by
 intro pins s σ H Q I h
 refine Dv (p7 I hg hm ?_ hdb)
 refine Ju (h₀:=X.base) I.ok.mod.kin M.kp (a7 (ha pos pins s σ H _ I h) fun us s1 ⟨vs,H1,I1,r,q⟩=>⟨I1.kIn,?_⟩) he hpl
 exact D2 M F hr hb hd hx I1 r q
theorem QF(M:Mk X.K C f)(F:eJ X.prog X.w X.K X.mg X.base CX k f fd ps sp)(hr:cH (k + 1) X.A)(hg:Gl X x)(hm:X.mg x=some (.ref C))(hb:Binds X.K fd ps ds)(hd:aZ dvs ds)(hx:k9 CX X E)
  (hdb:(x == ("__debug__" : Str))=false:=by decide):PE X (.Call (.Name x p) [] [] pos) (D1 C sp dvs E sL):=by
 intro pins s σ H Q I h
 refine Dv (p7 I hg hm ?_ hdb)
 exact Lu I.kIn M.kp (D2 (us:=[]) M F hr hb hd hx I .nil h)
end
structure oM(N P:List Str)(sc:Jb):Prop where
 kind:sc.kind=.function
 co:sc.isCoroutine=false
 gen:sc.isGenerator=false
 nd:N.Nodup
 pre:N.take P.length=P
 par:∀ x∈P,sc.names.lookup x=some .local\/sc.names.lookup x=some .cell
 nofree:∀ y∈sc.names,y.2≠.free
theorem D4{kindOf:Str->Option Ik}{x:Str}:∀ {binds:List (Str×Ae)} {m:Str->Option Ae},(∀ v,(x,v)∉binds)->bindL kindOf binds m x=m x
 | [],_,_=>rfl
 | (n,v) :: r,m,h=>by
  unfold bindL
  rw[D4 fun w hw=>h w (Au _ hw)]
  split
  ·have:x≠n:=by rintro rfl;exact h v Bd
   simp[this]
  ·rfl
theorem D5{kindOf:Str->Option Ik}{x:Str}:∀ {binds:List (Str×Ae)} {m:Str->Option Ae},(∀ v,(x,v)∉binds)->bindC kindOf binds m x=m x
 | [],_,_=>rfl
 | (n,v) :: r,m,h=>by
  unfold bindC
  rw[D5 fun w hw=>h w (Au _ hw)]
  split
  ·rfl
  ·have:x≠n:=by rintro rfl;exact h v Bd
   simp[this]
theorem D6{kindOf:Str->Option Ik}{x:Str}{v:Ae}:∀ {P:List Str} {vs:List Ae} {i:Nat} {m:Str->Option Ae},P.Nodup->P[i]? = some x->vs[i]? = some v->kindOf x=some .local->
  bindL kindOf (P.zip vs) m x=some v
 | [],_,_,_,_,h,_,_=>by simp at h
 | _ :: _,[],_,_,_,_,h,_=>by simp at h
 | p :: P,w :: vs,0,m,nd,h1,h2,hk=>by
  simp at h1 h2;subst h1;subst h2
  show bindL kindOf ((p,w) :: P.zip vs) m p=_
  unfold bindL
  rw[D4 fun v hv=>(Cr.mp nd).1 (List.of_mem_zip hv).1,if_pos hk]
  simp
 | p :: P,w :: vs,i + 1,m,nd,h1,h2,hk=>by
  show bindL kindOf ((p,w) :: P.zip vs) m x=_
  unfold bindL
  exact D6 (i:=i) (Cr.mp nd).2 (by simpa using h1) (by simpa using h2) hk
theorem D7{kindOf:Str->Option Ik}{x:Str}{v:Ae}:∀ {P:List Str} {vs:List Ae} {i:Nat} {m:Str->Option Ae},P.Nodup->P[i]? = some x->vs[i]? = some v->kindOf x≠some .local->
  bindC kindOf (P.zip vs) m x=some v
 | [],_,_,_,_,h,_,_=>by simp at h
 | _ :: _,[],_,_,_,_,h,_=>by simp at h
 | p :: P,w :: vs,0,m,nd,h1,h2,hk=>by
  simp at h1 h2;subst h1;subst h2
  show bindC kindOf ((p,w) :: P.zip vs) m p=_
  unfold bindC
  rw[D5 fun v hv=>(Cr.mp nd).1 (List.of_mem_zip hv).1,if_neg hk]
  simp
 | p :: P,w :: vs,i + 1,m,nd,h1,h2,hk=>by
  show bindC kindOf ((p,w) :: P.zip vs) m x=_
  unfold bindC
  exact D7 (i:=i) (Cr.mp nd).2 (by simpa using h1) (by simpa using h2) hk
def start(N:List Str)(vs:List V):St:=vs.map some ++ Bt (N.length - vs.length) none
def lW(CX:kB)(P:Bq)(w:Cj)(K:Ac)(mg:Str->Option Ae)(base:Heap)(N:List Str)(qual:Str)(scope:Jb)(f:Addr)(cd:Ae)(A:Co)(outer:List Env)(s:Ag)(H:Hp)(E:XK):Cx where
 prog:=P
 w:=w
 K:=K
 mg:=mg
 base:=base
 A:=A.deeper (Lf qual scope s.heap.objs.size f cd)
 N:=N
 s₀:=s
 H₀:=H
 env:=Lf qual scope s.heap.objs.size f cd
 outer:=outer
 stack:=Lf qual scope s.heap.objs.size f cd :: outer
 ex:=[]
 calm:=true
 fn:=fun _=>true
 pn:=[]
 xe:=fun e s'=>Bc (Bn P w) (A.deeper (Lf qual scope s.heap.objs.size f cd)) (leaving (Lf qual scope s.heap.objs.size f cd) e) (fun _ s''=>CX outer H s E e s'') (fun e' s''=>CX outer H s E e' s'') s'
theorem D8{sc:Jb}{n:Nat}{x:Str}(h:sc.names.lookup x=some .cell):∃ c,(cellsFrom n sc.names []).lookup x=some c:=by
 have q:=PySem.W.cellsFrom_some sc.names n [] (.inl h)
 exact Ej.mp q
theorem QG{CX:kB}{P:Bq}{w:Cj}{K:Ac}{mg:Str->Option Ae}{base:Heap}{N ps:List Str}{qual:Str}{scope:Jb}{f:Addr}{cd:Ae}{A:Co}{outer:List Env}{s s1:Ag}{H:Hp}{E:XK}{us:List Ae}{vs:List V}
  (S:oM N ps scope) (hd:A.handled=none) (e0:nA P w K mg base A outer s H) (hl:vs.length=ps.length) (r:aZ vs us)
  (x:InCallC s s.heap.objs.size (bindL (Lf qual scope s.heap.objs.size f cd).kindOf (ps.zip us) fun _=>none) (cellsFrom (s.heap.objs.size + 1) scope.names []) (bindC (Lf qual scope s.heap.objs.size f cd).kindOf (ps.zip us) fun _=>none) s1) :
  Inv (lW CX P w K mg base N qual scope f cd A outer s H E) [] (start N vs) H s1:=by
 have hpl:ps.length<=N.length:=by have:=congrArg Eb S.pre;rw[Cb] at this;lia
 obtain⟨h1,tk,rfl,hk⟩:=x.done
 have noA:∀ b:Addr,b∉(lW CX P w K mg base N qual scope f cd A outer s H E).ex:=fun b z=>absurd (show b∈([]:List Addr) from z) (by simp)
 refine⟨⟨e0.mod,S.kind,rfl,rfl,Ai _,fun y z c h1 h2=>?_,fun y hy=>?_,fun y c _ h=>?_,fun _=>hd,Around.frames_deeper e0.frames,.inr ⟨rfl,rfl⟩,fun b z=>absurd z (noA b),e0.bs,e0.bsz,fun b _ _=>noA b,fun b z=>absurd z (noA b),e0.funs,e0.frf⟩,
  rfl,e0.bare,Un.kept hk,⟨_,x.toInCall.ns,fun i y v h1 h2 h3=>?_⟩,fun y c h=>⟨_,x.cell y c h⟩,e0.hok.fresh (Ai _),fun y c h=>?_,fun p hp=>absurd (show p∈([]:List (Addr×Obj)) from hp) (by simp),e0.hok.kept hk,?_⟩
 ·exact name_of_addr x.apart (Gn h1) (Gn h2)
 ·have hy:scope.names.lookup y=some .cell\/scope.names.lookup y=some .free:=hy
  rcases hy with hy | hy
  ·exact D8 hy
  ·exact absurd rfl (S.nofree _ (Gn hy))
 ·exact Je (x.above y c (Gn h))
 ·have hi:i < vs.length:=by
   unfold start at h2
   by_cases hi:i < vs.length
   ·exact hi
   ·rw[List.getElem?_append_right (by simpa using hi)] at h2
    rw[List.getElem?_replicate] at h2
    split at h2 <;> cases h2
  have ha:vs[i]? = some v:=by
   unfold start at h2
   rw[Ig (by simpa using hi),Av] at h2
   cases e:vs[i]? with
   | none=>rw[e] at h2;cases h2
   | some a=>rw[e] at h2;cases h2;rfl
  obtain⟨u,hu,rv⟩:=r.get ha
  have hp:ps[i]? = some y:=by
   rw[<-S.pre,List.getElem?_take_of_lt (by lia)];exact h1
  have ndP:ps.Nodup:=by rw[<-S.pre];exact S.nd.sublist (List.take_sublist _ _)
  refine⟨u,rv,?_⟩
  rcases S.par y (Be hp) with k | k
  ·exact .inl ⟨k,D6 ndP hp hu k⟩
  ·obtain⟨c,e⟩:=D8 (n:=s.heap.objs.size + 1) k
   refine .inr ⟨.inl k,c,e,?_⟩
   have q:=x.cell y c e
   rw[D7 ndP hp hu (by show scope.names.lookup y≠_;rw[k];decide)] at q
   exact q
 ·exact e0.hok.fresh (Je (x.above y c (Gn h)))
 ·unfold start
  show _=N.length
  rw[Ak,Ab,List.length_replicate]
  lia
theorem QH{CX:kB}{P:Bq}{w:Cj}{K:Ac}{mg:Str->Option Ae}{base:Heap}{k:Nat}{f:Addr}{name qual:Str}{params:Arguments}{body:List Stmt}{scope:Jb}{dV kV doc pm cdv ct oc:Ae}{an od:Option Addr}
  {osl:Array (Option Ae)} {N ps:List Str} {sp:Sp} (lk:K.lookup f=some ⟨oc,od,.func (El name qual params body scope dV kV doc pm an cdv ct),osl⟩) (hcd:Iq K cdv qual=true) (S:oM N ps scope)
  (len:∀ vs H Q E,sp vs H Q E->vs.length=ps.length)
  (hbody:∀ (A:Co) (outer:List Env) (s:Ag) (H:Hp) (vs:List V) (Q:VK) (E:XK),cH k (A.deeper (Lf qual scope s.heap.objs.size f cdv))->sp vs H Q E->
   ∃ t,fW (lW CX P w K mg base N qual scope f cdv A outer s H E) body t/\t {nx:=fun _ H'=>Q .non H',rt:=Q} (start N vs) H) :
  eJ P w K mg base CX (k + 1) f (El name qual params body scope dV kV doc pm an cdv ct) ps sp:=by
 refine⟨len,fun A outer s H args us vs Q E hr e0 hb r hsp=>?_⟩
 have hl:=len _ _ _ _ hsp
 have KX:K.In s.heap:=e0.mod.kin.keeps fun b o e=>(e0.bs b o e).1
 have lim:s.heap.NoLimit:=e0.mod.nolimit.keeps fun b o e=>(e0.bs b o e).1
 have hkind:∀ y∈ps.zip us,scope.names.lookup y.1=some .local\/(scope.names.lookup y.1=some .cell/\((cellsFrom (s.heap.objs.size + 1) scope.names []).lookup y.1).isSome=true):=fun⟨n,v⟩ hy=>by
  rcases S.par n (List.of_mem_zip hy).1 with q | q
  ·exact .inl q
  ·exact .inr ⟨q,PySem.W.cellsFrom_some _ _ _ (.inl q)⟩
 refine codeAny_call_function hr.depth (KX _ _ lk) rfl S.co S.gen rfl (PySem.W.codeRec_of KX hcd) (hb _ _ _ _ ?_)
 refine wpAny_newFunctionEnv_cells S.kind hkind fun env he s1 x=>?_
 subst he
 refine⟨lim.keeps x.toInCall.keep,codeAny_func ?_⟩
 obtain⟨t,ht,hq⟩:=hbody A outer s H vs Q E (hr.deeper _) hsp
 have I:Inv (lW CX P w K mg base N qual scope f cdv A outer s H E) [] (start N vs) H s1:=QG S hr.hd e0 hl r x
 refine Ij (ht [] s1 (start N vs) H _ I hq) (fun fl s' hs=>?_) fun e s' hs=>hs
 have fin:∀ {σ':St} {H':Hp} {v:V} {u:Ae},Inv (lW CX P w K mg base N qual scope f cdv A outer s H E) [] σ' H' s'->RelV v u->Q v H'->CE outer P w H s Q u s':=
  fun {σ' H' v u} J rv q=>⟨v,H',J.os,J.bare,J.base,J.hok,rv,q⟩
 cases fl with
 | ret u=>
  obtain⟨v,σ',H',J,rv,q⟩:=hs
  exact fin J rv q
 | next=>
  obtain⟨σ',H',J,q⟩:=hs
  exact fin (v:=V.non) (u:=Value.none) J rfl q
 | brk=>
  obtain⟨_,_,_,q⟩:=hs
  exact Gd q
 | cont=>
  obtain⟨_,_,_,q⟩:=hs
  exact Gd q
section
variable {X:Cx}{x:Str}{p pos:Pos}{e:Expr}{es:List Expr}{t:TA}{id T:String}{r:List V->Hp->VK->Prop}
def vY(r:List V->Hp->VK->Prop)(t:TA):TE:=fun σ H Q=>t σ H fun vs H1=>r vs H1 Q
theorem QI(hc:dE X (.builtin id) r)(hg:Gl X x)(hm:X.mg x=none)(hv:Cp x=some (.builtin id))(ha:PA X (e :: es) t)(hn:x≠"__name__":=by decide)(hdb:(x == ("__debug__" : Str))=false:=by decide)
  (he:Bi (e :: es) X.env=(false,eval e X.env) :: Bi es X.env:=by rfl) (hpl:(Gu pos (Bi es X.env)).any (·.1)=false:=by rfl):PE X (.Call (.Name x p) (e :: es) [] pos) (vY r t):=by
 intro pins s σ H Q I h
 refine Dv (iY I hg hm hv ?_ hn hdb)
 exact PyProof.Rows.callWith_builtin1 (a7 (ha pos pins s σ H _ I h) fun us s1 ⟨vs,H1,I1,r1,q1⟩=>hc pins s1 σ H1 vs us Q I1 r1 q1) he hpl
theorem QJ(hc:dE X (.type T) r)(hg:Gl X x)(hm:X.mg x=none)(hv:Cp x=some (.type T))(ha:PA X (e :: es) t)(hn:x≠"__name__":=by decide)(hdb:(x == ("__debug__" : Str))=false:=by decide)
  (he:Bi (e :: es) X.env=(false,eval e X.env) :: Bi es X.env:=by rfl) (hpl:(Gu pos (Bi es X.env)).any (·.1)=false:=by rfl):PE X (.Call (.Name x p) (e :: es) [] pos) (vY r t):=by
 intro pins s σ H Q I h
 refine Dv (iY I hg hm hv ?_ hn hdb)
 exact Ck (a7 (ha pos pins s σ H _ I h) fun us s1 ⟨vs,H1,I1,r1,q1⟩=>hc pins s1 σ H1 vs us Q I1 r1 q1) he hpl
end
end L2
namespace HT
open PySem PyProof.Rows
section
variable {prog:Bq}{w:Cj}{A:Co}{E:Ae->Ag->Prop}{s:Ag}
theorem cat_tup{t b:Addr}{vs ws:List Ae}{Q:Ae->Ag->Prop}(ht:IsTup s.heap t vs.toArray)(hb:IsTup s.heap b ws.toArray)(hv:vs≠[])
  (h1:ws=[]->Q (.ref t) s) (h2:ws≠[]->Q (.ref s.heap.objs.size) {s with heap:=s.heap.push {cls:=.type "tuple",data:=.seq (vs ++ ws).toArray}})
  (hsz:vs.length + ws.length<=Am):Bc (Bn prog w) A (Fh .Add (.ref t) (.ref b)) Q E s:=by
 obtain⟨⟨cls,dd,data,sl⟩,ho,hc,n,hd⟩:=id ht
 obtain⟨⟨cls2,dd2,data2,sl2⟩,ho2,hc2,n2,hd2⟩:=id hb
 simp only at hc hd hc2 hd2
 subst hc hd hc2 hd2
 have e:vs.toArray ++ ws.toArray=(vs ++ ws).toArray:=by simp
 by_cases hw:ws=[]
 ·exact concat_meets ⟨_,ho,rfl⟩ ⟨_,ho2,rfl⟩ noFill_tuple_add seq_tuple_add PySem.F.slot_tuple_add PySem.F.entry_tuple_add (PySem.F.args_tuple_add_2 _ _)
   (tuple_addW1 t b vs.toArray ws.toArray n n2 dd dd2 sl sl2 (by simpa using hv) (by simp[hw])) ⟨ho,ho2,h1 hw⟩
 ·refine concat_meets ⟨_,ho,rfl⟩ ⟨_,ho2,rfl⟩ noFill_tuple_add seq_tuple_add PySem.F.slot_tuple_add PySem.F.entry_tuple_add (PySem.F.args_tuple_add_2 _ _)
   (tuple_addW2 t b vs.toArray ws.toArray n n2 dd dd2 sl sl2 (by simpa using hv) (by simpa using hw) (by rw[Bb,Bb];exact hsz)) ⟨ho,ho2,?_⟩
  rw[e]
  exact h2 hw
def sIx(n d:Nat):Option Int->Nat
 | none=>d
 | some v=>if v < 0 then(v + (n:Int)).toNat else min v.toNat n
theorem QK(n d:Nat)(hd:d<=n)(o:Option Int):sIx n d o<=n:=by
 cases o with
 | none=>exact hd
 | some v=>
  show(if v < 0 then(v + (n:Int)).toNat else min v.toNat n)<=n
  by_cases hv:v < 0
  ·rw[if_pos hv];lia
  ·rw[if_neg hv];exact Nat.min_le_right _ _
theorem D9(v:Int)(n d:Nat):(if v < 0 then max (v + (n:Int)) 0 else min v (n:Int))=((sIx n d (some v):Nat):Int):=by
 show(if v < 0 then max (v + (n:Int)) 0 else min v (n:Int))=(((if v < 0 then(v + (n:Int)).toNat else min v.toNat n):Nat):Int)
 by_cases hv:v < 0
 ·simp only[if_pos hv];lia
 ·simp only[if_neg hv];lia
theorem QL(lo hi:Option Int)(n:Nat):Jn lo hi 1 (n:Int)=(((sIx n 0 lo:Nat):Int),((sIx n n hi:Nat):Int)):=by
 have h1:¬ ((1:Int) < 0):=by lia
 unfold Jn
 simp only[h1,if_false]
 refine Lz ?_ ?_
 ·cases lo with
  | none=>rfl
  | some v=>exact D9 v n 0
 ·cases hi with
  | none=>rfl
  | some v=>exact D9 v n n
theorem QM(i j:Nat):Hf (i:Int) (j:Int) 1=j - i:=by
 unfold Hf
 have h1:(1:Int) > 0:=by lia
 simp only[h1,if_true,Int.ediv_one]
 split <;> lia
theorem EA{v:Ae}{o:Option Int}{Q:Option Int->Ag->Prop}(p:IsPart v o)(h:Q o s):Bc (Bn prog w) A (Builtin.Slice.slicePartIndex v) Q E s:=by
 cases p with
 | none=>exact slicePart_none h
 | int i t=>exact slicePart_int h
theorem QN{sl:Addr}{vl vu:Ae}{lo hi:Option Int}{n:Nat}{Q:Int×Int×Nat->Ag->Prop}(hs:s.heap.IsSliceOf sl vl vu .none)(pl:IsPart vl lo)(pu:IsPart vu hi)
  (h:Q (((sIx n 0 lo:Nat):Int),1,sIx n n hi - sIx n 0 lo) s):Bc (Bn prog w) A (Builtin.Slice.sliceApplied (.ref sl) (pure (n:Int))) Q E s:=by
 obtain⟨os,hos,hcs,hds⟩:=id hs
 unfold Builtin.Slice.sliceApplied Builtin.Slice.sliceFields
 refine Aa (Aa (Cv hos hds (x:=vl) rfl (Aa (Cv hos hds (x:=vu) rfl (Aa (Cv hos hds (x:=.none) rfl (Ah ?_)))))))
 refine Aa (slicePart_none ?_)
 show Bc _ _ (if ((1:Int) == 0)=true then _ else _) _ _ s
 rw[if_neg (by decide)]
 refine Aa (EA pl (Aa (EA pu (Aa (Ah ?_)))))
 show Bc _ _ (match Jn lo hi 1 (n:Int) with | (lo,hi)=>pure (lo,(1:Int),Hf lo hi 1)) _ _ s
 rw[QL lo hi n]
 show Bc _ _ (pure (((sIx n 0 lo:Nat):Int),(1:Int),Hf ((sIx n 0 lo:Nat):Int) ((sIx n n hi:Nat):Int) 1)) _ _ s
 rw[QM]
 exact Ah h
theorem QO(xs:Array Ae)(i k:Nat):((Cw k).filterMap fun(m:Nat)=>xs[((i:Int) + (m:Int) * 1).toNat]?).toArray=((xs.toList.drop i).take k).toArray:=by
 have e:(fun(m:Nat)=>xs[((i:Int) + (m:Int) * 1).toNat]?)=fun m=>xs[i + m]?:=by
  funext m
  have:((i:Int) + (m:Int) * 1).toNat=i + m:=by lia
  rw[this]
 rw[e]
 have:=pick_run xs i k
 rw[Kd] at this
 have e2:((fun x=>xs[x]?) ∘ fun x=>i + x)=fun m=>xs[i + m]?:=rfl
 rw[e2] at this
 rw[this]
theorem getItem_tuple_cut{t sl:Addr}{items:Array Ae}{vl vu:Ae}{lo hi:Option Int}{Q:Ae->Ag->Prop}(ht:IsTup s.heap t items)(hs:s.heap.IsSliceOf sl vl vu .none)(pl:IsPart vl lo)(pu:IsPart vu hi)
  (hw:¬ (sIx items.size 0 lo=0/\sIx items.size items.size hi=items.size))
  (h:Q (.ref s.heap.objs.size) {s with heap:=s.heap.push {cls:=.type "tuple",data:=.seq ((items.toList.drop (sIx items.size 0 lo)).take (sIx items.size items.size hi - sIx items.size 0 lo)).toArray}})
  (hsz:items.size<=Am):Bc (Bn prog w) A (getItem (.ref t) (.ref sl)) Q E s:=by
 have htake:sizeOk (.seq ((items.toList.drop (sIx items.size 0 lo)).take (sIx items.size items.size hi - sIx items.size 0 lo)).toArray):=by
  show((items.toList.drop (sIx items.size 0 lo)).take (sIx items.size items.size hi - sIx items.size 0 lo)).toArray.size<=Am
  rw[Bb,Cb,Ga,Gp]
  lia
 have hj:sIx items.size items.size hi<=items.size:=QK _ _ (Ai _) hi
 obtain⟨os,hos,hcs,hds⟩:=id hs
 have hTs:s.TypeIs (.ref sl) "slice":=⟨os,hos,hcs⟩
 unfold getItem
 try with_reducible refine Dg ?_
 first | refine Aa (Ah ?_) | skip
 refine Aa (wpAny_sequenceKey ht.typeIs (by decide) ?_)
 refine Aa (Dr (name:=Dk "__getitem__") ht.typeIs Il
  (Cz Il ht.typeIs entry_tuple_getitem ?_ (args_tuple_getitem _ _)))
 show Bc _ _ (Builtin.Tuple.tupleItemsOf (.ref t) >>= _) _ _ s
 refine Aa (tupleItemsOf_ ht ?_)
 refine Aa (Kj hTs ?_)
 rw[if_pos (by decide)]
 refine Aa (QN hs pl pu ?_)
 have hno:¬ ((((sIx items.size 0 lo:Nat):Int) == 0 && (1:Int) == 1 && (sIx items.size items.size hi - sIx items.size 0 lo) == items.size)=true):=by
  intro q
  rw[Cm,Cm] at q
  have q1:((sIx items.size 0 lo:Nat):Int)=0:=eq_of_beq q.1.1
  have q2:sIx items.size items.size hi - sIx items.size 0 lo=items.size:=eq_of_beq q.2
  exact hw ⟨by lia,by lia⟩
 show Bc _ _ (if (((sIx items.size 0 lo:Nat):Int) == 0 && (1:Int) == 1 && (sIx items.size items.size hi - sIx items.size 0 lo) == items.size)=true then _ else _) _ _ s
 rw[if_neg hno,QO]
 first
  | exact Aa (m:=Hk _) (Dc (Ah ⟨_,rfl,Ah h⟩) htake)
  | exact Aa (m:=Hk _) (Dc (Aa (Ah (Ah ⟨_,rfl,Ah h⟩))) htake)
  | exact Aa (Aa (m:=Hk _) (Dc (Ah (Ah ⟨_,rfl,Ah h⟩)) htake))
  | exact Aa (Aa (m:=Hk _) (Dc (Ah ⟨_,rfl,Ah h⟩) htake))
end
end HT
namespace L2
open PySem PySem.Spec PyProof.Rows
abbrev TO:=St->Hp->(Option Int->Hp->Prop)->Prop
def PO(X:Cx)(e:Option Expr)(t:TO):Prop:=
 ∀ (pins:List (Addr×Obj)) (s:Ag) (σ:St) (H:Hp) (Q:Option Int->Hp->Prop),Inv X pins σ H s->t σ H Q->
  Bc (Bn X.prog X.w) X.A (evalPart e X.env) (fun u s'=>∃ o H',Inv X pins σ H' s'/\IsPart u o/\Q o H') X.xe s
def QP:TO:=fun _ H Q=>Q none H
def QQ(t:TE):TO:=fun σ H Q=>t σ H fun x H1=>∃ i,x=.int i/\Q (some i) H1
section
variable {X:Cx}{e:Expr}{te:TE}{lo hi:Option Expr}{tl th:TO}{pos p2:Pos}
theorem QS:PO X none QP:=by
 intro pins s σ H Q I h
 rw[evalPart_none]
 exact Ah ⟨none,H,I,.none,h⟩
theorem QT(h:PE X e te):PO X (some e) (QQ te):=by
 intro pins s σ H Q I hw
 rw[evalPart_some]
 refine a7 (h pins s σ H _ I hw) fun u s1 ⟨x,H1,I1,r1,q1⟩=>?_
 obtain⟨i,rfl,q⟩:=q1
 obtain⟨t,rfl⟩:=r1
 exact⟨some i,H1,I1,.int i t,q⟩
def sM(X:Cx)(r:V->Option Int->Option Int->Hp->VK->Prop):Prop:=
 ∀ (pins:List (Addr×Obj)) (s:Ag) (σ:St) (H:Hp) (x:V) (v vl vu:Ae) (lo hi:Option Int) (sl:Addr) (Q:VK),Inv X pins σ H s->RelV x v->s.heap.IsSliceOf sl vl vu .none->IsPart vl lo->IsPart vu hi->r x lo hi H Q->
  ∃ T id,typeLookup (.type T) "__getitem__" = pure (some (.builtin id))/\s.TypeIs v T/\Bc (Bn X.prog X.w) X.A (getItem v (.ref sl)) (EP X pins σ Q) X.xe s
def QU(r:V->Option Int->Option Int->Hp->VK->Prop)(te:TE)(tl th:TO):TE:=fun σ H Q=>te σ H fun x H1=>tl σ H1 fun l H2=>th σ H2 fun u H3=>r x l u H3 Q
theorem QV{r:V->Option Int->Option Int->Hp->VK->Prop}(hr:sM X r)(he:PE X e te)(hl:PO X lo tl)(hu:PO X hi th):PE X (.Subscript e (.Slice lo hi none p2) pos) (QU r te tl th):=by
 intro pins s σ H Q I h
 refine Subscript_ (a7 (he pins s σ H _ I h) fun v s1 ⟨x,H1,I1,r1,q1⟩=>?_)
 refine wpAny_Slice (a7 (hl pins s1 σ H1 _ I1 q1) fun vl s2 ⟨l,H2,I2,pl,q2⟩=>a7 (hu pins s2 σ H2 _ I2 q2) fun vu s3 ⟨u,H3,I3,pu,q3⟩=>?_)
 rw[evalPart_none]
 refine Ah ?_
 have I4:Inv X pins σ H3 {s3 with heap:=s3.heap.push {cls:=.type "slice",data:=.fields #[vl,vu,.none]}}:=I3.kept (t':=s3.toks) fun b ob q=>Af _ q
 obtain⟨T,id,hT,ht,hg⟩:=hr pins {s3 with heap:=s3.heap.push {cls:=.type "slice",data:=.fields #[vl,vu,.none]}} σ H3 x v vl vu l u s3.heap.objs.size Q I4 r1 (Heap.IsSliceOf.new ..) pl pu q3
 show Bc (Bn X.prog X.w) X.A (subscriptTail e (.Slice lo hi none p2) v (.ref s3.heap.objs.size)) (EP X pins σ Q) X.xe {s3 with heap:=s3.heap.push {cls:=.type "slice",data:=.fields #[vl,vu,.none]}}
 exact tail_any (ops:=[.ref s3.heap.objs.size,v]) ht hT hg (by with_unfolding_all rfl)
def lX(xs:List V)(lo hi:Option Int):List V:=(xs.drop (HT.sIx xs.length 0 lo)).take (HT.sIx xs.length xs.length hi - HT.sIx xs.length 0 lo)
theorem EB(xs:List V)(lo hi:Option Int):(lX xs lo hi).length<=xs.length:=by
 unfold lX
 rw[Cb,Ga]
 lia
def QW(K:Ac):V->Option Int->Option Int->Hp->VK->Prop:=fun x lo hi H Q=>∃ a xs,x=.ref a/\bL K H a xs/\
 ¬ (HT.sIx xs.length 0 lo=0/\HT.sIx xs.length xs.length hi=xs.length)/\∀ p,H p=none->Q (.ref p) (aS H p (.tup (lX xs lo hi)))
theorem QX:sM X (QW X.K):=by
 intro pins s σ H x v vl vu lo hi sl Q I rx hs pl pu h
 obtain⟨a,xs,rfl,hx,hw,q⟩:=h
 cases rx
 obtain⟨its,r,ht,hz⟩:=I.tuple hx
 have hlen:its.toArray.size=xs.length:=by rw[Bb];exact r.length.symm
 refine⟨"tuple",_,Il.lookup,ht.typeIs,?_⟩
 refine HT.getItem_tuple_cut ht hs pl pu (by rw[hlen];exact hw) ?_ (by rw[hlen];exact hz)
 rw[hlen]
 refine⟨.ref s.heap.objs.size,_,I.laid (t':=s.toks) (o:=.tup (lX xs lo hi)) (fun b ob q=>Af _ q) (Ai _) ?_,rfl,q _ (I.hok.fresh (Ai _))⟩
 exact⟨Bh (EB xs lo hi) hz,_,(r.drop (HT.sIx xs.length 0 lo)).take (HT.sIx xs.length xs.length hi - HT.sIx xs.length 0 lo),IsTup.new _ _⟩
def QY(K:Ac):R2:=fun x y H Q=>∃ a b xs ys,x=.ref a/\y=.ref b/\bL K H a xs/\bL K H b ys/\xs≠[]/\xs.length + ys.length<=Am/\
 (ys=[]->Q (.ref a) H)/\(ys≠[]->∀ p,H p=none->Q (.ref p) (aS H p (.tup (xs ++ ys))))
theorem aZ.nil_iff{xs:List V}{us:List Ae}(r:aZ xs us):us=[]↔xs=[]:=by
 cases r with
 | nil=>simp
 | cons _ _=>simp
theorem QZ:bG X (Fh .Add) (QY X.K):=by
 intro pins s σ H x y v u Q I rx ry h
 obtain⟨a,b,xs,ys,rfl,rfl,ha,hb,hx,hz,q1,q2⟩:=h
 cases rx
 cases ry
 obtain⟨its,r1,p1,_⟩:=I.tuple ha
 obtain⟨its2,r2,p2,_⟩:=I.tuple hb
 refine HT.cat_tup p1 p2 (fun z=>hx (r1.nil_iff.mp z)) (fun z=>⟨.ref a,H,I,rfl,q1 (r2.nil_iff.mp z)⟩) (fun z=>?_) (by rw[<-r1.length,<-r2.length];exact hz)
 refine⟨.ref s.heap.objs.size,_,I.laid (t':=s.toks) (o:=.tup (xs ++ ys)) (fun b ob q=>Af _ q) (Ai _) ?_,rfl,q2 (fun w=>z (r2.nil_iff.mpr w)) _ (I.hok.fresh (Ai _))⟩
 exact⟨by rw[Ak];exact hz,_,r1.append r2,IsTup.new _ _⟩
end
def gY(n:Nat)(i:Int):Option Nat:=if 0<=i then(if i < n then some i.toNat else none) else if -(n:Int)<=i then some (i + n).toNat else none
def cG{α:Type}(xs:List α)(i:Int):Option α:=(gY xs.length i).bind fun j=>xs[j]?
theorem vZ{n:Nat}{i:Int}{j:Nat}(h:gY n i=some j):seqIndex? i n=some j/\j < n/\-(n:Int)<=i/\i < n:=by
 unfold gY at h
 by_cases h0:0<=i
 ·rw[if_pos h0] at h
  by_cases h1:i < n
  ·rw[if_pos h1] at h
   have e:i.toNat=j:=Ci h
   exact⟨by rw[seqIndex_of h0 h1,e],by lia,by lia,h1⟩
  ·rw[if_neg h1] at h;cases h
 ·rw[if_neg h0] at h
  by_cases h1 : -(n:Int)<=i
  ·rw[if_pos h1] at h
   have e:(i + n).toNat=j:=Ci h
   exact⟨by rw[seqIndex_neg (by lia) h1,e],by lia,h1,by lia⟩
  ·rw[if_neg h1] at h;cases h
theorem v3{α:Type}{xs:List α}{i:Int}{v:α}(h:cG xs i=some v):∃ j,seqIndex? i xs.length=some j/\xs[j]? = some v/\j < xs.length/\-(xs.length:Int)<=i/\i < xs.length:=by
 unfold cG at h
 cases e:gY xs.length i with
 | none=>rw[e] at h;cases h
 | some j=>
  rw[e] at h
  obtain⟨h1,h2,h3,h4⟩:=vZ e
  exact⟨j,h1,h,h2,h3,h4⟩
theorem eN{α:Type}{xs:List α}{j:Nat}{v:α}(h:xs[j]? = some v):cG xs (j:Int)=some v:=by
 have hj:j < xs.length:=(Aj.mp h).1
 have e:gY xs.length (j:Int)=some j:=by
  unfold gY
  rw[if_pos (by lia),if_pos (by lia)];simp
 unfold cG;rw[e];exact h
theorem EC{α:Type}(xs:List α)(v:α):cG (xs ++ [v]) (-1)=some v:=by
 have hl:(xs ++ [v]).length=xs.length + 1:=by simp
 have e:gY (xs ++ [v]).length (-1)=some xs.length:=by
  unfold gY
  rw[hl,if_neg (by decide),if_pos (by lia)]
  congr 1
  lia
 unfold cG
 rw[e]
 show(xs ++ [v])[xs.length]? = some v
 simp
def ED(b:Expr):Prop:=∀ o i,subscripted b false o i=operate [o,i] (getItem o i)
def i5(X:Cx)(r:R2):Prop:=
 ∀ (value slice:Expr) (pins:List (Addr×Obj)) (s:Ag) (σ:St) (H:Hp) (x y:V) (v u:Ae) (Q:VK),Inv X pins σ H s->RelV x v->RelV y u->r x y H Q->
  subscripted slice false v u=operate [v,u] (getItem v u)->Bc (Bn X.prog X.w) X.A (subscriptTail value slice v u) (EP X pins σ Q) X.xe s
def kC(X:Cx)(id:String)(r:V->List V->Hp->VK->Prop):Prop:=
 ∀ (pins:List (Addr×Obj)) (s:Ag) (σ:St) (H:Hp) (x:V) (xs:List V) (v:Ae) (us:List Ae) (Q:VK),Inv X pins σ H s->RelV x v->aZ xs us->r x xs H Q->
  Bc (Bn X.prog X.w) X.A (call (.builtin id) (v :: us)) (EP X pins σ Q) X.xe s
section
variable {X:Cx}{a b:Expr}{ta tb:TE}{pos:Pos}
theorem i5.or{r r':R2}(h:i5 X r)(h':i5 X r'):i5 X (fun x y H Q=>r x y H Q\/r' x y H Q):=by
 intro value slice pins s σ H x y v u Q I rx ry q hs
 rcases q with q | q
 ·exact h value slice pins s σ H x y v u Q I rx ry q hs
 ·exact h' value slice pins s σ H x y v u Q I rx ry q hs
theorem Q0{r:R2}(hr:i5 X r)(ha:PE X a ta)(hb:PE X b tb)(hs:ED b):PE X (.Subscript a b pos) (qC r ta tb):=by
 intro pins s σ H Q I h
 exact Subscript_ (vT ha hb I h fun v u s2 x y H2 I2 rx ry q=>hr a b pins s2 σ H2 x y v u Q I2 rx ry q (hs _ _))
def Q1(K:Ac):R2:=fun x y H Q=>∃ p xs i v,x=.ref p/\y=.int i/\bD K H p xs/\cG xs i=some v/\Q v H
def Q2(K:Ac):R2:=fun x y H Q=>∃ p xs i v,x=.ref p/\y=.int i/\bL K H p xs/\cG xs i=some v/\Q v H
def Q3:R2:=fun x y H Q=>∃ z i c,x=.str z/\y=.int i/\z.length<=Am/\cG z.cps.toList i=some c/\Q (.str ⟨#[c]⟩) H
theorem Q4:i5 X (Q1 X.K):=by
 intro value slice pins s σ H x y v u Q I rx ry h hs
 obtain⟨p,xs,i,z,rfl,rfl,hq,he,q⟩:=h
 cases rx
 obtain⟨t,rfl⟩:=ry
 obtain⟨its,r,pl,hz⟩:=I.list hq
 obtain⟨j,h1,h2,h3,h4,h5⟩:=v3 he
 obtain⟨w,ew,rw'⟩:=r.get h2
 have hl:=r.length
 have hn:=jO
 have fin:EP X pins σ Q w s:=⟨z,H,I,rw',q⟩
 by_cases h0:0<=i
 ·have hj:i.toNat=j:=by
   rw[seqIndex_of h0 h5] at h1
   exact Ci h1
  exact item_listR pl.isList h0 (by lia) (by rw[hj];simpa using ew) fin hs
 ·have hj:(i + (its.toArray.size:Int)).toNat=j:=by
   rw[seqIndex_neg (by lia) h4] at h1
   rw[Bb,<-hl]
   exact Ci h1
  exact subscriptTail_builtinR (x:=w) pl.isList.typeIs slot_list_getitem.lookup
   (wpAny_getItem_list_neg (Q:=fun r s'=>r=w/\EP X pins σ Q r s') pl.isList (by lia) (by rw[Bb] <;> lia) (by lia) (by rw[hj];simpa using ew) ⟨rfl,fin⟩) hs
theorem Q5:i5 X (Q2 X.K):=by
 intro value slice pins s σ H x y v u Q I rx ry h hs
 obtain⟨p,xs,i,z,rfl,rfl,hq,he,q⟩:=h
 cases rx
 obtain⟨t,rfl⟩:=ry
 obtain⟨its,r,pl,hz⟩:=I.tuple hq
 obtain⟨j,h1,h2,h3,h4,h5⟩:=v3 he
 obtain⟨w,ew,rw'⟩:=r.get h2
 have hl:=r.length
 have hn:=jO
 have fin:EP X pins σ Q w s:=⟨z,H,I,rw',q⟩
 exact subscriptTail_builtinR (x:=w) pl.typeIs slot_tuple_getitem.lookup
  (getItem_tuple (j:=j) (Q:=fun r s'=>r=w/\EP X pins σ Q r s') pl (by lia) (by lia) (by rw[Bb,<-hl];exact h1) (by simpa using ew) ⟨rfl,fin⟩) hs
theorem Q6:i5 X Q3:=by
 intro value slice pins s σ H x y v u Q I rx ry h hs
 obtain⟨z,i,c,rfl,rfl,hz,he,q⟩:=h
 obtain⟨t,rfl⟩:=rx
 obtain⟨t',rfl⟩:=ry
 obtain⟨j,h1,h2,h3,h4,h5⟩:=v3 he
 have hl:z.cps.toList.length=z.length:=by simp[Str.length]
 rw[hl] at h1 h4 h5
 have hn:=jO
 exact tail_any (typeIs_str s z t) slot_str_getitem.lookup (getItem_str (c:=c) (by
  have e1:decide (i < -(2 ^ 63:Int))=false:=decide_eq_false (by lia)
  have e2:decide (i ≥ 2 ^ 63)=false:=decide_eq_false (by lia)
  rw[e1,e2,Bool.or_false]) (by rw[h1];simpa using h2) ⟨.str ⟨#[c]⟩,H,I.tok _,⟨_,rfl⟩,q⟩) hs
theorem Q7(its:List Ae)(n j:Nat)(u:Ae):Hb (·.setIfInBounds j u) {cls:=.type "list",data:=.seq its.toArray n} = {cls:=.type "list",data:=.seq (its.set j u).toArray n}:=by
 simp[Hb]
theorem Inv.lst{pins:List (Addr×Obj)}{σ:St}{H:Hp}{s:Ag}{p:Addr}{xs:List V}(I:Inv X pins σ H s)(h:H p=some (.lst xs)) :
  ∃ (its:List Ae) (n:Nat),aZ xs its/\s.heap.get? p=some {cls:=.type "list",data:=.seq its.toArray n}/\xs.length<=Am:=by
 obtain⟨z,its,n,r,e⟩:=I.hok p _ h
 exact⟨its,n,r,e,z⟩
theorem Inv.lstUpd{pins:List (Addr×Obj)}{σ:St}{H:Hp}{s:Ag}{p:Addr}{xs ys:List V}{its its':List Ae}{n n':Nat}{f:Obj->Obj}(I:Inv X pins σ H s)(h:H p=some (.lst xs))
  (ho:s.heap.get? p=some {cls:=.type "list",data:=.seq its.toArray n}) (hf:f {cls:=.type "list",data:=.seq its.toArray n} = {cls:=.type "list",data:=.seq its'.toArray n'}) (r:aZ ys its') (hz:ys.length<=Am) (t:Nat) :
  Inv X pins σ (aS H p (.lst ys)) {s with heap:=s.heap.update p f,toks:=t}:=by
 have e:(s.heap.update p f).get? p=some {cls:=.type "list",data:=.seq its'.toArray n'}:=by
  rw[Eo f ho (by rw[hf] <;> rfl),hf]
 refine I.write (x:=p) (e:=p) (by rw[h];trivial) (.inl rfl) (fun b u hb q=>(Fe _ _ (Bf hb)).trans q) ⟨_,e⟩ ?_
 exact⟨hz,its',n',r,e⟩
def Q8:V->V->V->Hp->(Hp->Prop)->Prop:=fun o i v H Q=>∃ p xs k j,o=.ref p/\i=.int k/\H p=some (.lst xs)/\gY xs.length k=some j/\Q (aS H p (.lst (xs.set j v)))
theorem Q9:sE X Q8:=by
 intro pins s σ H o i v ov iv u Q I ro ri rv h
 obtain⟨p,xs,k,j,rfl,rfl,hp,hj,q⟩:=h
 cases ro
 obtain⟨t,rfl⟩:=ri
 obtain⟨its,n,r,ho,hz⟩:=I.lst hp
 obtain⟨h1,h2,h3,h4⟩:=vZ hj
 have hl:=r.length
 have hn:=jO
 have I':Inv X pins σ (aS H p (.lst (xs.set j v))) {s with heap:=s.heap.update p (Hb (·.setIfInBounds j u))}:=
  I.lstUpd hp ho (Q7 its n j u) (r.set rv j) (by rw[List.length_set];exact hz) s.toks
 by_cases h0:0<=k
 ·have hk:k.toNat=j:=by
   rw[seqIndex_of h0 h4] at h1
   exact Ci h1
  exact PySem.W.ki_setAt ho h0 (by lia) (by rw[Bb,<-hl];exact h4) (by rw[hk];exact⟨_,I',q⟩)
 ·have hk:(k + (its.toArray.size:Int)).toNat=j:=by
   rw[seqIndex_neg (by lia) h3] at h1
   rw[Bb,<-hl]
   exact Ci h1
  exact PySem.W.ki_setBack ho (by lia) (by rw[Bb,<-hl];exact h3) (by lia) (by rw[hk];exact⟨_,I',q⟩)
theorem RA(lo hi:Option Int)(n:Nat):(Jy lo hi none n).1=((HT.sIx n 0 lo:Nat):Int)/\(Jy lo hi none n).2.1=((HT.sIx n n hi:Nat):Int)/\(Jy lo hi none n).2.2=1:=by
 refine⟨?_,?_,rfl⟩
 ·cases lo with
  | none=>simp[Jy,HT.sIx]
  | some i=>
   simp only[Jy,HT.sIx,Option.getD_none,show(1:Int) > 0 by decide,if_true]
   by_cases h:i < 0
   ·simp only[h,if_true] <;> lia
   ·simp only[h,if_false] <;> lia
 ·cases hi with
  | none=>simp[Jy,HT.sIx]
  | some i=>
   simp only[Jy,HT.sIx,Option.getD_none,show(1:Int) > 0 by decide,if_true]
   by_cases h:i < 0
   ·simp only[h,if_true] <;> lia
   ·simp only[h,if_false] <;> lia
theorem RB(its:List Ae)(lo hi:Option Int):slicePick its.toArray lo hi none=((its.drop (HT.sIx its.length 0 lo)).take (HT.sIx its.length its.length hi - HT.sIx its.length 0 lo)).toArray:=by
 obtain⟨h1,h2,h3⟩:=RA lo hi its.toArray.size
 unfold slicePick
 rw[h1,h2,h3]
 simp only[sliceRange_one,pick_run,Bb] <;> rfl
def RC(K:Ac):V->Option Int->Option Int->Hp->VK->Prop:=fun x lo hi H Q=>∃ a xs,x=.ref a/\bD K H a xs/\∀ p,H p=none->Q (.ref p) (aS H p (.lst (lX xs lo hi)))
theorem v5:sM X (RC X.K):=by
 intro pins s σ H x v vl vu lo hi sl Q I rx hs pl pu h
 obtain⟨a,xs,rfl,hx,q⟩:=h
 cases rx
 obtain⟨its,r,ht,hz⟩:=I.list hx
 have hlen:=r.length
 refine⟨"list",_,slot_list_getitem.lookup,ht.isList.typeIs,?_⟩
 refine wpAny_getItem_list_slice ht.isList hs pl pu .none (by simp) ?_ (by rw[Bb] <;> lia)
 rw[RB,<-hlen]
 refine⟨.ref s.heap.objs.size,_,I.laid (t':=s.toks) (o:=.lst (lX xs lo hi)) (fun b ob q=>Af _ q) (Ai _) ?_,rfl,q _ (I.hok.fresh (Ai _))⟩
 exact⟨Bh (EB xs lo hi) hz,_,0,(r.drop (HT.sIx xs.length 0 lo)).take (HT.sIx xs.length xs.length hi - HT.sIx xs.length 0 lo),Az _ rfl⟩
def kD:V->Bool
 | .non=>true
 | .bl _=>true
 | .int _=>true
 | .str _=>true
 | _=>false
def kE:V->V->Bool
 | .non,.non=>true
 | .bl a,.bl b=>a == b
 | .bl a,.int b=>(if a then 1 else 0) == b
 | .int a,.bl b=>a == (if b then 1 else 0)
 | .int a,.int b=>a == b
 | .str a,.str b=>a == b
 | _,_=>false
theorem RD{A:Co}{s:Ag}{y x:V}{u v:Ae}(ry:RelV y u)(rx:RelV x v)(fy:kD y=true)(fx:kD x=true):SeqAt.EqAt A s u v (kE y x):=by
 cases y with
 | non=>
  cases ry
  cases x with
  | non=>cases rx;exact SeqAt.EqAt.same _
  | bl b=>cases rx;exact SeqAt.EqAt.none_bool b
  | int b=>obtain⟨t,rfl⟩:=rx;exact SeqAt.EqAt.none_int b t
  | str b=>obtain⟨t,rfl⟩:=rx;exact SeqAt.EqAt.none_str b t
  | _=>exact absurd (show false=true from fx) Ao
 | bl a=>
  cases ry
  cases x with
  | non=>cases rx;exact SeqAt.EqAt.bool_none a
  | bl b=>cases rx;exact SeqAt.EqAt.bool_bool a b
  | int b=>obtain⟨t,rfl⟩:=rx;exact SeqAt.EqAt.bool_int a b t
  | str b=>obtain⟨t,rfl⟩:=rx;exact SeqAt.EqAt.bool_str a b t
  | _=>exact absurd (show false=true from fx) Ao
 | int a=>
  obtain⟨t',rfl⟩:=ry
  cases x with
  | non=>cases rx;exact SeqAt.EqAt.int_none a t'
  | bl b=>cases rx;exact SeqAt.EqAt.int_bool a t' b
  | int b=>obtain⟨t,rfl⟩:=rx;exact SeqAt.EqAt.int_int a t' b t
  | str b=>obtain⟨t,rfl⟩:=rx;exact SeqAt.EqAt.int_str a t' b t
  | _=>exact absurd (show false=true from fx) Ao
 | str a=>
  obtain⟨t',rfl⟩:=ry
  cases x with
  | non=>cases rx;exact SeqAt.EqAt.str_none a t'
  | bl b=>cases rx;exact SeqAt.EqAt.str_bool a t' b
  | int b=>obtain⟨t,rfl⟩:=rx;exact SeqAt.EqAt.str_int a t' b t
  | str b=>obtain⟨t,rfl⟩:=rx;exact SeqAt.EqAt.str_str a t' b t
  | _=>exact absurd (show false=true from fx) Ao
 | _=>exact absurd (show false=true from fy) Ao
def gZ(x:V)(u:Ae):Bool:=match u with
 | .none=>kE .non x
 | .bool b=>kE (.bl b) x
 | .int i _=>kE (.int i) x
 | .str z _=>kE (.str z) x
 | _=>false
theorem EE{x y:V}{u:Ae}(r:RelV y u)(f:kD y=true):gZ x u=kE y x:=by
 cases y with
 | non=>cases r;rfl
 | bl b=>cases r;rfl
 | int i=>obtain⟨t,rfl⟩:=r;rfl
 | str z=>obtain⟨t,rfl⟩:=r;rfl
 | _=>exact absurd (show false=true from f) Ao
theorem qF{x:V}:∀ {xs:List V} {us:List Ae},aZ xs us->xs.all kD=true->us.any (gZ x)=xs.any fun y=>kE y x
 | _,_,.nil,_=>rfl
 | y :: xs,u :: us,.cons r t,f=>by
  rw[Mw,Cm] at f
  rw[Fz,Fz,EE r f.1,qF t f.2]
theorem qG{A:Co}{s:Ag}{x:V}{v:Ae}(rx:RelV x v)(fx:kD x=true):∀ {xs:List V} {us:List Ae},aZ xs us->xs.all kD=true->∀ u∈us,SeqAt.EqAt A s u v (gZ x u)
 | _,_,.nil,_=>fun u hu=>by cases hu
 | y :: xs,u :: us,.cons r t,f=>fun u' hu=>by
  rw[Mw,Cm] at f
  rcases Ar.mp hu with rfl | hu
  ·rw[EE r f.1];exact RD r rx f.1 fx
  ·exact qG rx fx t f.2 u' hu
def inV(x:V)(xs:List V):Bool:=xs.any fun y=>kE y x
def rIn(K:Ac)(neg:Bool):R2:=fun x y H Q=>∃ p xs,y=.ref p/\(bD K H p xs\/bL K H p xs)/\kD x=true/\xs.all kD=true/\Q (.bl (if neg then !inV x xs else inV x xs)) H
theorem RE:bG X (Ce .In) (rIn X.K false):=by
 intro pins s σ H x y v u Q I rx ry h
 obtain⟨p,xs,rfl,hq,fx,fs,q⟩:=h
 cases ry
 rcases hq with hq | hq
 ·obtain⟨its,r,pl,hz⟩:=I.list hq
  refine SeqAt.in_listAt (gZ x) pl.isList (fun w hw=>qG rx fx r fs w (by simpa using hw)) ⟨.bl _,H,I,rfl,?_⟩
  rw[show its.toArray.any (gZ x)=its.any (gZ x) by simp,qF r fs]
  exact q
 ·obtain⟨its,r,pl,hz⟩:=I.tuple hq
  refine SeqAt.in_tupleAt (gZ x) pl (fun w hw=>qG rx fx r fs w (by simpa using hw)) ⟨.bl _,H,I,rfl,?_⟩
  rw[show its.toArray.any (gZ x)=its.any (gZ x) by simp,qF r fs]
  exact q
theorem RF:bG X (Ce .NotIn) (rIn X.K true):=by
 intro pins s σ H x y v u Q I rx ry h
 obtain⟨p,xs,rfl,hq,fx,fs,q⟩:=h
 cases ry
 rcases hq with hq | hq
 ·obtain⟨its,r,pl,hz⟩:=I.list hq
  refine SeqAt.notIn_listAt (gZ x) pl.isList (fun w hw=>qG rx fx r fs w (by simpa using hw)) ⟨.bl _,H,I,rfl,?_⟩
  rw[show its.toArray.any (gZ x)=its.any (gZ x) by simp,qF r fs]
  exact q
 ·obtain⟨its,r,pl,hz⟩:=I.tuple hq
  refine SeqAt.notIn_tupleAt (gZ x) pl (fun w hw=>qG rx fx r fs w (by simpa using hw)) ⟨.bl _,H,I,rfl,?_⟩
  rw[show its.toArray.any (gZ x)=its.any (gZ x) by simp,qF r fs]
  exact q
theorem RG:dE X (.builtin "len") (fun xs H Q=>∃ p ys,xs=[.ref p]/\(bD X.K H p ys\/bL X.K H p ys)/\Q (.int ys.length) H):=by
 intro pins s σ H xs us Q I r h
 obtain⟨p,ys,rfl,hq,q⟩:=h
 obtain⟨u,rfl,rx⟩:=vals1 r
 cases rx
 have hn:=jO
 rcases hq with hq | hq
 ·obtain⟨its,r',pl,hz⟩:=I.list hq
  have hlen:=r'.length
  exact Calls.call_len_list pl.isList (by simp only[Bb] <;> lia) ⟨.int ys.length,H,I.tok _,⟨s.toks + 1,by rw[Bb,hlen]⟩,q⟩
 ·obtain⟨its,r',pl,hz⟩:=I.tuple hq
  have hlen:=r'.length
  exact len_tuple pl (by simp only[Bb] <;> lia) ⟨.int ys.length,H,I.tok _,⟨s.toks + 1,by rw[Bb,hlen]⟩,q⟩
theorem RH:dE X (.builtin "len") (fun xs H Q=>∃ z,xs=[.str z]/\z.length<=Am/\Q (.int z.length) H):=by
 intro pins s σ H xs us Q I r h
 obtain⟨z,rfl,hz,q⟩:=h
 obtain⟨u,rfl,t,rfl⟩:=vals1 r
 have hn:=jO
 exact len_str (by lia) ⟨.int z.length,H,I.tok _,⟨_,rfl⟩,q⟩
theorem dE.or{f:Ae}{r r':List V->Hp->VK->Prop}(h:dE X f r)(h':dE X f r'):dE X f (fun xs H Q=>r xs H Q\/r' xs H Q):=by
 intro pins s σ H xs us Q I rs q
 rcases q with q | q
 ·exact h pins s σ H xs us Q I rs q
 ·exact h' pins s σ H xs us Q I rs q
theorem RI:dE X (.type "list") (fun xs H Q=>∃ p ys,xs=[.ref p]/\(bD X.K H p ys\/bL X.K H p ys)/\∀ l,H l=none->Q (.ref l) (aS H l (.lst ys))):=by
 intro pins s σ H xs us Q I r h
 obtain⟨p,ys,rfl,hq,q⟩:=h
 obtain⟨u,rfl,rx⟩:=vals1 r
 cases rx
 have fin:∀ (its:List Ae),aZ ys its->ys.length<=Am->∀ (h':Heap) (c':Nat),(∀ b o',s.heap.get? b=some o'->h'.get? b=some o')->
   h'.get? s.heap.objs.size=some {cls:=.type "list",dict:=none,data:=.seq its.toArray c',slots:=#[]}->EP X pins σ Q (.ref s.heap.objs.size) {s with heap:=h'}:=fun its r' hz h' c' kp e=>
  ⟨.ref s.heap.objs.size,_,I.laid (t':=s.toks) kp (Ai _) (show cT X.prog X.w _ h' _ (.lst ys) from⟨hz,its,c',r',e⟩),rfl,q _ (I.hok.fresh (Ai _))⟩
 rcases hq with hq | hq
 ·obtain⟨its,r',pl,hz⟩:=I.list hq
  have hlen:=r'.length
  obtain⟨o,ho,hc,n,hd⟩:=pl.isList
  exact call_list_seq p (.inl rfl) ho hc hd (fun h' c' kp e=>fin its r' hz h' c' kp e) (by simp only[Bb] <;> lia)
 ·obtain⟨its,r',pl,hz⟩:=I.tuple hq
  have hlen:=r'.length
  obtain⟨o,ho,hc,n,hd⟩:=pl
  exact call_list_seq p (.inr rfl) ho hc hd (fun h' c' kp e=>fin its r' hz h' c' kp e) (by simp only[Bb] <;> lia)
theorem RJ:dE X (.type "tuple") (fun xs H Q=>∃ p ys,xs=[.ref p]/\((bD X.K H p ys/\∀ l,H l=none->Q (.ref l) (aS H l (.tup ys)))\/(bL X.K H p ys/\Q (.ref p) H))):=by
 intro pins s σ H xs us Q I r h
 obtain⟨p,ys,rfl,h⟩:=h
 obtain⟨u,rfl,rx⟩:=vals1 r
 cases rx
 rcases h with⟨hq,q⟩ | ⟨hq,q⟩
 ·obtain⟨its,r',pl,hz⟩:=I.list hq
  have hlen:=r'.length
  refine call_tuple_list pl.isList (fun h' kp=>?_) (by simp only[Bb] <;> lia)
  have I1:Inv X pins σ H {s with heap:=h'}:=I.kept (t':=s.toks) kp
  have I2:Inv X pins σ (aS H h'.objs.size (.tup ys)) {s with heap:=h'.push {cls:=.type "tuple",data:=.seq its.toArray}}:=
   I1.laid (t':=s.toks) (fun b o e=>Af _ e) (Ai _) (show cT X.prog X.w _ _ _ (.tup ys) from⟨hz,its,r',IsTup.new _ _⟩)
  exact⟨.ref h'.objs.size,_,I2,rfl,q _ (I1.hok.fresh (Ai _))⟩
 ·obtain⟨its,r',pl,hz⟩:=I.tuple hq
  exact call_tuple_same pl ⟨.ref p,H,I,rfl,q⟩
def sN(K:Ac)(T:String)(x:V)(H:Hp):Prop:=match x with
 | .str _=>T = "str"
 | .int _=>T = "int"
 | .ref p=>(T = "list"/\∃ xs,bD K H p xs)\/(T = "tuple"/\∃ o,K.lookup p=some o/\o.cls=.type "tuple"/\o.dict=none)\/
   (T = "dict"/\((∃ kvs,Rd H p (.dK kvs))\/∃ kvs,Rd H p (.dT kvs)))\/(T = "set"/\∃ S n,H p=some (.set S n))
 | _=>False
theorem EF{pins:List (Addr×Obj)}{σ:St}{H:Hp}{s:Ag}{T:String}{x:V}{v:Ae}(I:Inv X pins σ H s)(r:RelV x v)(ty:sN X.K T x H) :
  s.TypeIs v T/\∀ a,v=.ref a->∃ ob,s.heap.get? a=some ob/\ob.dict=none:=by
 cases x with
 | str z=>
  obtain⟨t,rfl⟩:=r
  cases (show T = "str" from ty)
  exact⟨typeIs_str s z t,fun _ e=>nomatch e⟩
 | int i=>
  obtain⟨t,rfl⟩:=r
  cases (show T = "int" from ty)
  exact⟨typeIs_int s i t,fun _ e=>nomatch e⟩
 | ref p=>
  cases r
  rcases ty with⟨rfl,xs,hq⟩ | ⟨rfl,o,hk,hc,hd⟩ | ⟨rfl,hk⟩ | ⟨rfl,S,n,hk⟩
  ·obtain⟨its,_,pl,_⟩:=I.list hq
   refine⟨pl.isList.typeIs,fun a e=>?_⟩
   cases e
   obtain⟨o,n,e,c,hd,_⟩:=pl
   exact⟨o,e,hd⟩
  ·refine⟨⟨o,I.kIn p o hk,hc⟩,fun a e=>?_⟩
   cases e
   exact⟨o,I.kIn _ o hk,hd⟩
  ·have z:∃ o,s.heap.get? p=some o/\o.ExactDict:=by
    rcases hk with⟨kvs,hk⟩ | ⟨kvs,hk⟩
    ·obtain⟨_,_,_,_,o,_,_,e,ex,_⟩:=hk.ok I.hok
     exact⟨o,e,ex⟩
    ·obtain⟨_,_,_,_,o,_,_,e,ex,_⟩:=hk.ok I.hok
     exact⟨o,e,ex⟩
   obtain⟨o,e,ex⟩:=z
   refine⟨⟨o,e,ex.1⟩,fun a e2=>?_⟩
   cases e2
   exact⟨o,e,ex.2.1⟩
  ·obtain⟨o,_,_,_,e,ex,_⟩:=I.hok p _ hk
   refine⟨⟨o,e,ex.1⟩,fun a e2=>?_⟩
   cases e2
   exact⟨o,e,ex.2.1⟩
 | _=>exact Gd ty
def RK(K:Ac)(T:String)(r:V->List V->Hp->VK->Prop)(to:TE):TE:=fun σ H Q=>to σ H fun x H1=>sN K T x H1/\r x [] H1 Q
def RL(K:Ac)(T:String)(r:V->List V->Hp->VK->Prop)(to:TE)(t:TA):TE:=fun σ H Q=>to σ H fun x H1=>sN K T x H1/\t σ H1 fun xs H2=>r x xs H2 Q
variable {o e:Expr}{es:List Expr}{to:TE}{t:TA}{name:Str}{apos cpos:Pos}{T id:String}{r:V->List V->Hp->VK->Prop}
theorem RM(pa:PlainAttrs T)(slot:Slot T name id)(hty:typeOf (.builtin id)=pure (.type "method_descriptor"))(hm:kC X id r)(ho:PE X o to)
  (hbase:Ja o name X.env (eval o X.env)=eval o X.env:=by rfl) (hline:(apos.endLine == cpos.line)=true:=by rfl):PE X (.Call (.Attribute o name apos) [] [] cpos) (RK X.K T r to):=by
 intro pins s σ H Q I h
 refine wpAny_Call_method0_late hbase hline (a7 (ho pins s σ H _ I h) fun v s1 ⟨x,H1,I1,r1,ty,q1⟩=>?_)
 obtain⟨h1,h2⟩:=EF I1 r1 ty
 exact⟨T,id,pa,slot,hty,h1,h2,Calls.callWith_builtin rfl (PySem.evalArgs_none (hm pins s1 σ H1 x [] v [] Q I1 r1 .nil q1))⟩
theorem RN(pa:PlainAttrs T)(slot:Slot T name id)(hty:typeOf (.builtin id)=pure (.type "method_descriptor"))(hm:kC X id r)(ho:PE X o to)(ha:PA X (e :: es) t)
  (hbase:Ja o name X.env (eval o X.env)=eval o X.env:=by rfl)
  (hfew:((Gu cpos (Bi (e :: es) X.env)).all (fun x=>!x.1) && (backToKw cpos (Lc [] X.env)).all (fun x=>x.1.isSome)
   && decide ((e :: es).length + ([]:List Keyword).length + (if ([]:List Keyword).isEmpty then 0 else 1) < 30))=true:=by rfl)
  (hline:(apos.endLine == cpos.line)=true:=by rfl) (hs:Bi (e :: es) X.env=(false,eval e X.env) :: Bi es X.env:=by rfl) (hplain:(Gu cpos (Bi es X.env)).any (·.1)=false:=by rfl) :
  PE X (.Call (.Attribute o name apos) (e :: es) [] cpos) (RL X.K T r to t):=by
 intro pins s σ H Q I h
 refine wpAny_Call_method_late hbase hfew hline rfl (a7 (ho pins s σ H _ I h) fun v s1 ⟨x,H1,I1,r1,ty,q1⟩=>?_)
 obtain⟨h1,h2⟩:=EF I1 r1 ty
 refine⟨T,id,pa,slot,hty,h1,h2,?_⟩
 have hA:=ha cpos pins s1 σ H1 _ I1 q1
 rw[hs] at hA ⊢
 refine Calls.callWith_builtin (by show(false || (Gu cpos (Bi es X.env)).any (·.1))=false;rw[hplain] <;> rfl) (Calls.evalArgs_plain ?_)
 exact a7 hA fun us s2 ⟨vs,H2,I2,r2,q2⟩=>hm pins s2 σ H2 x vs v us Q I2 r1 r2 q2
end
def v7(X:Cx)(id:String)(r:V->List V->Hp->VK->Prop):Prop:=
 ∀ (pins:List (Addr×Obj)) (s:Ag) (σ:St) (H:Hp) (x:V) (xs:List V) (v:Ae) (us:List Ae) (Q:VK),Inv X pins σ H s->RelV x v->aZ xs us->r x xs H Q->
  Bc (Bn X.prog X.w) X.A (call (.builtin id) (v :: us)) (EP X pins σ Q) X.xe s
theorem aZ.one:∀ {x:V} {us:List Ae},aZ [x] us->∃ u,us=[u]/\RelV x u
 | _,_,.cons r .nil=>⟨_,rfl,r⟩
theorem aZ.zero:∀ {us:List Ae},aZ [] us->us=[]
 | _,.nil=>rfl
theorem aZ.dropLast{xs:List V}{us:List Ae}(h:aZ xs us):aZ xs.dropLast us.dropLast:=by
 induction h with
 | nil=>exact .nil
 | cons r t ih=>
  cases t with
  | nil=>exact .nil
  | cons q t'=>exact .cons r ih
theorem aZ.rep{xs:List V}{us:List Ae}(h:aZ xs us):∀ k:Nat,aZ (Bt k xs).flatten (Bt k us).flatten
 | 0=>.nil
 | k + 1=>by
  rw[Fq,Fq,Gj,Gj]
  exact aZ.append h (aZ.rep h k)
theorem RO{α:Type}(l:List α):l.eraseIdx (l.length - 1)=l.dropLast:=by
 induction l with
 | nil=>rfl
 | cons a r ih=>
  cases r with
  | nil=>rfl
  | cons b r=>
   have e:(a :: b :: r).length - 1=((b :: r).length - 1) + 1:=by
    have h1:(a :: b :: r).length=r.length + 2:=rfl
    have h2:(b :: r).length=r.length + 1:=rfl
    lia
   rw[e,List.eraseIdx_cons_succ,ih]
   all_goals rfl
theorem foldl_rep(its:List Ae):∀ (k:Nat) (acc:List Ae),
  List.foldl (fun x1 x2=>x1 ++ x2) acc.toArray (Bt k its.toArray)=(acc ++ (Bt k its).flatten).toArray
 | 0,acc=>by simp
 | k + 1,acc=>by
  have e:acc.toArray ++ its.toArray=(acc ++ its).toArray:=by simp
  have e2:(acc ++ its) ++ (Bt k its).flatten=acc ++ (Bt (k + 1) its).flatten:=by
   rw[Fq,Gj,Gk]
  rw[<-e2,<-foldl_rep its k (acc ++ its),<-e,Fq,Ec]
section
variable {X:Cx}{pins:List (Addr×Obj)}{σ:St}{H:Hp}{s:Ag}{l b:Addr}{xs ys zs:List V}
theorem Inv.lset{its its':List Ae}{n:Nat}{f:Array Ae->Array Ae}{t':Nat}(I:Inv X pins σ H s)(hH:H l=some (.lst xs))
  (e:s.heap.get? l=some {cls:=.type "list",data:=.seq its.toArray n}) (hf:f its.toArray=its'.toArray) (hv:aZ ys its') (hz:ys.length<=Am) :
  Inv X pins σ (aS H l (.lst ys)) {s with heap:=s.heap.update l (Hb f),toks:=t'}:=by
 have q:=PySem.IsL.update e f
 rw[hf] at q
 refine I.write (x:=l) (e:=l) (by rw[hH];exact trivial) (.inl rfl) (fun b' u hb hu=>(Fe s.heap (Hb f) (Bf hb)).trans hu) ⟨_,q⟩ ?_
 exact⟨hz,its',_,hv,q⟩
theorem Inv.lnew{its:List Ae}{t':Nat}(I:Inv X pins σ H s)(hv:aZ ys its)(hz:ys.length<=Am) :
  Inv X pins σ (aS H s.heap.objs.size (.lst ys)) {s with heap:=s.heap.push {cls:=.type "list",data:=.seq its.toArray},toks:=t'}:=
 I.laid (fun _ _ q=>Af _ q) (Ai _) ⟨hz,its,0,hv,Az _ rfl⟩
theorem Inv.fresh(I:Inv X pins σ H s):H s.heap.objs.size=none:=I.hok.fresh (Ai _)
theorem Inv.lstM(I:Inv X pins σ H s)(hH:H l=some (.lst xs)):xs.length<=Am/\∃ (its:List Ae) (n:Nat),aZ xs its/\xs.length=its.length/\s.heap.get? l=some {cls:=.type "list",data:=.seq its.toArray n}:=by
 obtain⟨z,its,n,r,e⟩:=I.hok l _ hH
 exact⟨z,its,n,r,r.length,e⟩
theorem EG{n:Nat}(h:n<=Am):Js n=false:=by
 unfold Js
 exact decide_eq_false (by lia)
end
section
variable {X:Cx}
def rAppend:V->List V->Hp->VK->Prop:=fun x vs H Q=>∃ l xs y,x=.ref l/\vs=[y]/\H l=some (.lst xs)/\xs.length < Am/\Q .non (aS H l (.lst (xs ++ [y])))
theorem EH:v7 X "list.append" rAppend:=by
 intro pins s σ H x vs v us Q I rx rv h
 obtain⟨l,xs,y,rfl,rfl,hH,hz,q⟩:=h
 cases rx
 obtain⟨u,rfl,ru⟩:=rv.one
 obtain⟨z,its,n,r,hl,e⟩:=I.lstM hH
 refine Mi Cu ⟨_,e,rfl⟩ F.entry_list_append (F.args_list_append_2 _ _) (PySem.list_append l its.toArray n u (by rw[Bb];lia)) ⟨e,?_⟩
 refine⟨.non,_,I.lset (its':=its ++ [u]) hH e (by simp) (r.append (.cons ru .nil)) ?_,rfl,q⟩
 rw[Ak,Bk]
 lia
def rPop:V->List V->Hp->VK->Prop:=fun x vs H Q=>∃ l xs y,x=.ref l/\vs=[]/\H l=some (.lst xs)/\xs[xs.length - 1]? = some y/\Q y (aS H l (.lst xs.dropLast))
theorem RP:v7 X "list.pop" rPop:=by
 intro pins s σ H x vs v us Q I rx rv h
 obtain⟨l,xs,y,rfl,rfl,hH,hy,q⟩:=h
 cases rx
 have hus:=rv.zero
 subst hus
 obtain⟨z,its,n,r,hl,e⟩:=I.lstM hH
 obtain⟨u,hu,ru⟩:=r.get hy
 have hy':its.toArray[its.toArray.size - 1]? = some u:=by
  show its.toArray[its.length - 1]? = some u
  rw[<-Hg,<-hl]
  exact hu
 refine Mi Iw ⟨_,e,rfl⟩ F.entry_list_pop (F.args_list_pop_1 _) (MeetsSeq.list_pop_last l its.toArray n u hy' (by rw[Bb];lia)) ⟨e,?_⟩
 refine⟨y,_,I.lset (its':=its.dropLast) hH e ?_ r.dropLast ?_,ru,q⟩
 ·show its.toArray.eraseIdxIfInBounds (its.toArray.size - 1)=its.dropLast.toArray
  rw[Bb,List.eraseIdxIfInBounds_toArray,RO]
 ·rw[List.length_dropLast]
  lia
def RS:R2:=fun x y H Q=>∃ l b xs zs,x=.ref l/\y=.ref b/\H l=some (.lst xs)/\H b=some (.lst zs)/\xs.length + zs.length<=Am/\∀ p,H p=none->Q (.ref p) (aS H p (.lst (xs ++ zs)))
theorem RT:bG X (Fh .Add) RS:=by
 intro pins s σ H x y v u Q I rx ry h
 obtain⟨l,b,xs,zs,rfl,rfl,hH,hB,hz,q⟩:=h
 cases rx
 cases ry
 obtain⟨z,its,n,r,hl,e⟩:=I.lstM hH
 obtain⟨z2,its2,n2,r2,hl2,e2⟩:=I.lstM hB
 refine PySem.P.add_list e e2 ?_ (by rw[Bb,Bb];lia)
 have ea:its.toArray ++ its2.toArray=(its ++ its2).toArray:=by simp
 rw[ea]
 exact⟨.ref _,_,I.lnew (t':=s.toks) (r.append r2) (by rw[Ak];lia),rfl,q _ I.fresh⟩
def RU:R2:=fun x y H Q=>∃ l k xs,x=.ref l/\y=.int k/\H l=some (.lst xs)/\-(2 ^ 63)<=k/\k < 2 ^ 63/\xs.length * k.toNat<=Am/\
 ∀ p,H p=none->Q (.ref p) (aS H p (.lst (Bt k.toNat xs).flatten))
theorem RV{α:Type}(xs:List α)(k:Nat):(Bt k xs).flatten.length=k * xs.length:=by
 induction k with
 | zero=>simp
 | succ k ih=>rw[Fq,Gj,Ak,ih,Nat.succ_mul,Nat.add_comm]
theorem RW:bG X (Fh .Mult) RU:=by
 intro pins s σ H x y v u Q I rx ry h
 obtain⟨l,k,xs,rfl,rfl,hH,h1,h2,hz,q⟩:=h
 cases rx
 obtain⟨t,rfl⟩:=ry
 obtain⟨z,its,n,r,hl,e⟩:=I.lstM hH
 have hlen:its.toArray.size * k.toNat<=Am:=by rw[Bb,<-hl];exact hz
 have hcap:¬ its.toArray.size * k.toNat > (2 ^ 63 - 1) / 8:=by
  have:(Am:Nat)<=(2 ^ 63 - 1) / 8:=by decide
  lia
 have hfit:¬ (!Builtin.List.listFitsIndex k)=true:=by
  rw[fitsIndex_both h1 h2]
  exact Ao
 have hlong:¬ Js (its.toArray.size * k.toNat)=true:=by
  rw[EG hlen]
  exact Ao
 have hnew:List.foldl (fun x1 x2=>x1 ++ x2) #[] (Bt (if its.toArray.isEmpty=true then 0 else k.toNat) its.toArray)=(Bt k.toNat its).flatten.toArray:=by
  have f0:∀ m:Nat,List.foldl (fun x1 x2=>x1 ++ x2) #[] (Bt m its.toArray)=(Bt m its).flatten.toArray:=fun m=>by
   have:=foldl_rep its m []
   rw[Jr] at this
   exact this
  rw[f0]
  cases its with
  | nil=>simp
  | cons a r'=>rw[if_neg (by simp)]
 refine wpAny_binaryOp_repeat_ref (T:="list") (U:="int") (by decide) ⟨_,e,rfl⟩ (fun s'=>typeIs_int s' k t) noFill_list_mul F.fills_int_mul F.slot_int_rmul repeat_list F.slot_int_index.lookup
  (Mi F.slot_int_rmul (typeIs_int s k t) F.entry_int_rmul (F.args_int_rmul_2 _ _) (int___rmul___int_list k t l its.toArray n)
   ⟨e,rfl,⟨_,e,rfl⟩,Mi F.slot_list_mul ⟨_,e,rfl⟩ F.entry_list_mul (F.args_list_mul_2 _ _) (AutoListH.list___mul___list_int_3 l its.toArray n k t hfit hcap hlong) ⟨e,?_⟩⟩)
 rw[hnew]
 exact⟨.ref _,_,I.lnew (t':=s.toks) (r.rep k.toNat) (by rw[RV,Nat.mul_comm];exact hz),rfl,q _ I.fresh⟩
end
section
variable {κ:Type}[DecidableEq κ]
def fY(kvs:List (κ×V))(k:κ):Option V:=(kvs.find? fun kv=>decide (kv.1=k)).map (·.2)
def eA(kvs:List (κ×V))(k:κ)(v:V):List (κ×V):=
 if (kvs.any fun kv=>decide (kv.1=k))=true then kvs.map (fun kv=>if kv.1=k then(kv.1,v) else kv) else kvs ++ [(k,v)]
def nB(kvs:List (κ×V))(k:κ):List (κ×V):=kvs.filter fun kv=>decide (kv.1≠k)
theorem sO{p:κ×V}{r:List (κ×V)}{k:κ}(e:p.1=k):fY (p :: r) k=some p.2:=by simp[fY,Fg,e]
theorem sP{p:κ×V}{r:List (κ×V)}{k:κ}(e:¬ p.1=k):fY (p :: r) k=fY r k:=by simp[fY,Fg,e]
theorem EI(k:κ):∀ kvs:List (κ×V),(kvs.any fun kv=>decide (kv.1=k))=(fY kvs k).isSome
 | []=>rfl
 | p :: r=>by
  rw[Fz]
  by_cases e:p.1=k
  ·simp only[sO e,decide_eq_true e,Bool.true_or,Option.isSome_some]
  ·rw[sP e,decide_eq_false e,Bool.false_or];exact EI k r
theorem oN(kvs:List (κ×V))(k:κ)(v:V):(eA kvs k v).length<=kvs.length + 1:=by
 unfold eA
 split
 ·rw[Ab];lia
 ·rw[Ak,Bs,List.length_nil];lia
theorem fM.isSome_eq{o:Option V}{u:Option Ae}(r:fM o u):o.isSome=u.isSome:=by
 cases o with
 | none=>cases u with
  | none=>rfl
  | some _=>exact(show False from r).elim
 | some _=>cases u with
  | none=>exact(show False from r).elim
  | some _=>rfl
theorem fM.getD{o:Option V}{u:Option Ae}{d:V}{d':Ae}(r:fM o u)(rd:RelV d d'):RelV (o.getD d) (u.getD d'):=by
 cases o with
 | none=>cases u with
  | none=>exact rd
  | some _=>exact(show False from r).elim
 | some _=>cases u with
  | none=>exact(show False from r).elim
  | some _=>exact r
theorem KV.val{kvs:List (κ×V)}{vs:List (κ×Ae)}(r:KV kvs vs)(k:κ):fM (fY kvs k) (valueAt vs k):=by
 unfold KV at r
 induction r with
 | nil=>exact True.intro
 | @cons p q ps qs h t ih=>
  obtain⟨h1,h2⟩:=h
  by_cases e:p.1=k
  ·have e':q.1=k:=h1.symm.trans e
   have b:valueAt (q :: qs) k=some q.2:=by simp[valueAt,Fg,e']
   rw[sO e,b];exact h2
  ·have e':¬ q.1=k:=fun z=>e (h1.trans z)
   have b:valueAt (q :: qs) k=valueAt qs k:=by simp[valueAt,Fg,e']
   rw[sP e,b];exact ih
theorem KV.any{kvs:List (κ×V)}{vs:List (κ×Ae)}(r:KV kvs vs)(k:κ):(kvs.any fun kv=>decide (kv.1=k))=vs.any fun kv=>decide (kv.1=k):=by
 unfold KV at r
 induction r with
 | nil=>rfl
 | cons h t ih=>rw[Fz,Fz,ih,h.1]
theorem KV.repl{kvs:List (κ×V)}{vs:List (κ×Ae)}(r:KV kvs vs)(k:κ){y:V}{u:Ae}(ry:RelV y u) :
  KV (kvs.map fun kv=>if kv.1=k then(kv.1,y) else kv) (vs.map fun kv=>if kv.1=k then(kv.1,u) else kv):=by
 unfold KV at r ⊢
 induction r with
 | nil=>exact .nil
 | @cons p q ps qs h t ih=>
  rw[Ay,Ay]
  refine .cons ?_ ih
  obtain⟨h1,h2⟩:=h
  by_cases e:p.1=k
  ·rw[if_pos e,if_pos (h1.symm.trans e)];exact⟨h1,ry⟩
  ·rw[if_neg e,if_neg (fun z=>e (h1.trans z))];exact⟨h1,h2⟩
theorem KV.put{kvs:List (κ×V)}{vs:List (κ×Ae)}(r:KV kvs vs)(k:κ){y:V}{u:Ae}(ry:RelV y u):KV (eA kvs k y) (stored vs k u):=by
 unfold eA stored
 rw[r.any k]
 by_cases e:(vs.any fun kv=>decide (kv.1=k))=true
 ·rw[if_pos e,if_pos e];exact r.repl k ry
 ·rw[if_neg e,if_neg e];exact Paired.snoc r ⟨rfl,ry⟩
theorem KV.length{kvs:List (κ×V)}{vs:List (κ×Ae)}(r:KV kvs vs):kvs.length=vs.length:=Ei r
theorem RX(kvs:List (κ×V))(k:κ):(nB kvs k).length<=kvs.length:=Lo _ _
end
theorem lA{P:Bq}{w:Cj}{k:aD}{u:Ae}(r:RelV (kV k) u):(c8 P w).is k u=true:=by
 cases k with
 | inl i=>obtain⟨t,e⟩:=(show ∃ t,u=Value.int i t from r);subst e;exact ML P w i t
 | inr x=>obtain⟨t,e⟩:=(show ∃ t,u=Value.str x t from r);subst e;exact MM P w x t
theorem EJ{P:Bq}{w:Cj}:∀ {ks:List aD} {us:List Ae},aZ (ks.map kV) us->ItemsAre (c8 P w) ks us
 | [],_,r=>by rw[Fv] at r;cases r;exact .nil
 | k :: ks,_,r=>by
  rw[Ay] at r
  cases r with
  | cons h t=>exact .cons (lA h) (EJ t)
abbrev KT(H:Hp):List (List aD×V)->List (List aD×Addr×Ae)->Prop:=Ha fun p q=>p.1=q.1/\H q.2.1=some (.tup (p.1.map kV))/\RelV p.2 q.2.2
theorem KT.val{H:Hp}{kvs:List (List aD×V)}{xs:List (List aD×Addr×Ae)}(r:KT H kvs xs)(k:List aD):fM (fY kvs k) ((Lr xs k).map (·.2)):=by
 induction r with
 | nil=>exact True.intro
 | @cons p q ps qs h t ih=>
  obtain⟨h1,_,h2⟩:=h
  by_cases e:p.1=k
  ·have e':q.1=k:=h1.symm.trans e
   have b:Lr (q :: qs) k=some q.2:=by simp[Lr,Fg,e']
   rw[sO e,b];exact h2
  ·have e':¬ q.1=k:=fun z=>e (h1.trans z)
   have b:Lr (q :: qs) k=Lr qs k:=by simp[Lr,Fg,e']
   rw[sP e,b];exact ih
theorem KT.repl{H:Hp}{kvs:List (List aD×V)}{xs:List (List aD×Addr×Ae)}(r:KT H kvs xs)(k:List aD){y:V}{u:Ae}(ry:RelV y u) :
  KT H (kvs.map fun kv=>if kv.1=k then(kv.1,y) else kv) (xs.map (putAt k u)):=by
 induction r with
 | nil=>exact .nil
 | @cons p q ps qs h t ih=>
  rw[Ay,Ay]
  refine .cons ?_ ih
  obtain⟨h1,h2,h3⟩:=h
  unfold putAt
  by_cases e:p.1=k
  ·rw[if_pos e,if_pos (h1.symm.trans e)];exact⟨h1,h2,ry⟩
  ·rw[if_neg e,if_neg (fun z=>e (h1.trans z))];exact⟨h1,h2,h3⟩
theorem KT.put{H:Hp}{kvs:List (List aD×V)}{xs:List (List aD×Addr×Ae)}(r:KT H kvs xs)(k:List aD){b:Addr}{y:V}{u:Ae}(hb:H b=some (.tup (k.map kV)))(ry:RelV y u) :
  KT H (eA kvs k y) (Mh xs k b u):=by
 have e:(kvs.any fun kv=>decide (kv.1=k))=(Lr xs k).isSome:=by
  rw[EI,(r.val k).isSome_eq,Iu]
 unfold eA Mh
 rw[e]
 by_cases q:(Lr xs k).isSome=true
 ·rw[if_pos q,if_pos q];exact r.repl k ry
 ·rw[if_neg q,if_neg q];exact Paired.snoc r ⟨rfl,hb,ry⟩
theorem KT.keeps{H H':Hp}{kvs:List (List aD×V)}{xs:List (List aD×Addr×Ae)}(r:KT H kvs xs)(ht:∀ b ys,H b=some (.tup ys)->H' b=some (.tup ys)):KT H' kvs xs:=
 Paired.mapP r fun _ _ z=>⟨z.1,ht _ _ z.2.1,z.2.2⟩
section
variable {P:Bq}{w:Cj}{H:Hp}{h:Heap}{a:Addr}
theorem EK{u:HO}(ok:cX P w H h)(e:Rd H a u):cT P w H h a u:=e.ok ok
theorem lY{kvs:List (aD×V)}(ok:cX P w H h)(e:Rd H a (.dK kvs)):kvs.length<=Am/\(a == Fx)=false/\∃ vs,KV kvs vs/\h.DictOf (c8 P w) a vs:=
 show cT P w H h a (.dK kvs) from EK ok e
theorem EL{kvs:List (aD×V)}(ok:cX P w H h)(e:H a=some (.dK kvs)):kvs.length<=Am/\(a == Fx)=false/\∃ vs,KV kvs vs/\h.DictOf (c8 P w) a vs:=lY ok (.inl e)
theorem jP{ks:List aD}(ok:cX P w H h)(e:H a=some (.tup (ks.map kV))):(Fu (c8 P w)).is h ks a:=by
 obtain⟨_,its,r,o,h1,h2,n,h3⟩:=(show cT P w H h a (.tup (ks.map kV)) from ok a _ e)
 exact⟨o,its.toArray,n,h1,h2,h3,by simpa using EJ r⟩
theorem nC{kvs:List (List aD×V)}(ok:cX P w H h)(e:Rd H a (.dT kvs)):kvs.length<=Am/\(a == Fx)=false/\
  ∃ xs,KT H kvs xs/\h.DictOfH (Fu (c8 P w)) a xs:=by
 obtain⟨z,y,xs,r,o,es,ep,h1,h2,h3,h4,h5⟩:=(show cT P w H h a (.dT kvs) from EK ok e)
 refine⟨z,y,xs,r,o,es,ep,h1,h2,h3,h4,fun x hx=>?_,h5⟩
 have all:∀ {l:List (List aD×V)} {m:List (List aD×Addr×Ae)},KT H l m->∀ x∈m,(Fu (c8 P w)).is h x.1 x.2.1:=by
  intro l m q
  induction q with
  | nil=>intro x hx;exact nomatch hx
  | @cons p q ps qs hq t ih=>
   intro x hx
   rcases Ar.mp hx with e | hx
   ·subst e
    exact jP ok (by rw[<-hq.1];exact hq.2.1)
   ·exact ih x hx
 exact all r x hx
theorem sQ{kvs:List (List aD×V)}(ok:cX P w H h)(e:H a=some (.dT kvs)):kvs.length<=Am/\(a == Fx)=false/\
  ∃ xs,KT H kvs xs/\h.DictOfH (Fu (c8 P w)) a xs:=nC ok (.inl e)
end
def g9(H:Hp)(a:Addr)(y:V)(r:Option V):Prop:=
 (∃ kvs k,Rd H a (.dK kvs)/\y=kV k/\r=fY kvs k)\/∃ kvs k b,Rd H a (.dT kvs)/\y=.ref b/\H b=some (.tup (k.map kV))/\r=fY kvs k
def lZ(H:Hp)(a:Addr)(y v:V)(H':Hp):Prop:=
 (∃ kvs k,H a=some (.dK kvs)/\y=kV k/\kvs.length < Am/\H'=aS H a (.dK (eA kvs k v)))\/
 ∃ kvs k b,H a=some (.dT kvs)/\y=.ref b/\H b=some (.tup (k.map kV))/\kvs.length < Am/\H'=aS H a (.dT (eA kvs k v))
theorem lZ.k{H:Hp}{a:Addr}{kvs:List (aD×V)}{k:aD}{v:V}(e:H a=some (.dK kvs))(hl:kvs.length < Am):lZ H a (kV k) v (aS H a (.dK (eA kvs k v))):=.inl ⟨kvs,k,e,rfl,hl,rfl⟩
theorem lZ.t{H:Hp}{a b:Addr}{kvs:List (List aD×V)}{k:List aD}{v:V}(e:H a=some (.dT kvs))(eb:H b=some (.tup (k.map kV)))(hl:kvs.length < Am) :
  lZ H a (.ref b) v (aS H a (.dT (eA kvs k v))):=.inr ⟨kvs,k,b,e,rfl,eb,hl,rfl⟩
section
variable {X:Cx}{pins:List (Addr×Obj)}{σ:St}{H:Hp}{s:Ag}{a:Addr}{y v:V}{u r:Ae}{o:Option V}{A:Co}{E:Ae->Ag->Prop}
theorem Inv.big(I:Inv X pins σ H s):Fx < s.heap.objs.size:=by
 have h:Dz < s.heap.objs.size:=(I.mod.glob.keeps I.bk).lt
 exact Ic (by decide) h
theorem RY{Q:Ae->Ag->Prop}(hu:A.units + 1 < Fm)(I:Inv X pins σ H s)(g:g9 H a y (some v))(ry:RelV y u)(h:∀ w' s',Inv X pins σ H s'->RelV v w'->Q w' s') :
  Bc (Bn X.prog X.w) A (getItem (.ref a) u) Q E s:=by
 rcases g with⟨kvs,k,e,ey,l⟩ | ⟨kvs,k,b,e,ey,eb,l⟩
 ·subst ey
  obtain⟨z,hd,vs,rel,dd⟩:=lY I.hok e
  obtain⟨w',hw,rw'⟩:=fM.some_of (v:=v) (o:=valueAt vs k) (by rw[l];exact rel.val k)
  exact wpAny_getItem_of (lA ry) dd.mapOf hw (h w' _ (I.tok _) rw')
 ·subst ey
  cases (show u=Value.ref b from ry)
  obtain⟨z,hd,xs,rel,dd⟩:=nC I.hok e
  obtain⟨w',hw,rw'⟩:=fM.some_of (v:=v) (o:=(Lr xs k).map (·.2)) (by rw[l];exact rel.val k)
  obtain⟨p,hp,hp2⟩:=Bj.mp hw
  refine wpAny_getItem_heap (Fb hu) (jP I.hok eb) dd hp ?_
  rw[hp2]
  exact h w' _ (I.tok _) rw'
theorem RZ{Q:Ae->Ag->Prop}(hu:A.units + 1 < Fm)(I:Inv X pins σ H s)(g:g9 H a y o)(ry:RelV y u)(h:∀ s',Inv X pins σ H s'->Q (.bool o.isSome) s') :
  Bc (Bn X.prog X.w) A (Ce .In u (.ref a)) Q E s:=by
 rcases g with⟨kvs,k,e,ey,l⟩ | ⟨kvs,k,b,e,ey,eb,l⟩
 ·subst ey
  obtain⟨z,hd,vs,rel,dd⟩:=lY I.hok e
  refine wpAny_in_of (lA ry) hd dd.mapOf ?_
  rw[<-(rel.val k).isSome_eq,<-l]
  exact h _ (I.tok _)
 ·subst ey
  cases (show u=Value.ref b from ry)
  obtain⟨z,hd,xs,rel,dd⟩:=nC I.hok e
  refine wpAny_in_heap (Fb hu) (jP I.hok eb) hd dd ?_
  have q:=(rel.val k).isSome_eq
  rw[Iu] at q
  rw[<-q,<-l]
  exact h _ (I.tok _)
theorem R0{Q:Ae->Ag->Prop}(hu:A.units + 1 < Fm)(I:Inv X pins σ H s)(g:g9 H a y o)(ry:RelV y u)(h:∀ s',Inv X pins σ H s'->Q (.bool (!o.isSome)) s') :
  Bc (Bn X.prog X.w) A (Ce .NotIn u (.ref a)) Q E s:=by
 rcases g with⟨kvs,k,e,ey,l⟩ | ⟨kvs,k,b,e,ey,eb,l⟩
 ·subst ey
  obtain⟨z,hd,vs,rel,dd⟩:=lY I.hok e
  refine wpAny_notIn_of (lA ry) hd dd.mapOf ?_
  rw[<-(rel.val k).isSome_eq,<-l]
  exact h _ (I.tok _)
 ·subst ey
  cases (show u=Value.ref b from ry)
  obtain⟨z,hd,xs,rel,dd⟩:=nC I.hok e
  refine wpAny_notIn_heap (Fb hu) (jP I.hok eb) hd dd ?_
  have q:=(rel.val k).isSome_eq
  rw[Iu] at q
  rw[<-q,<-l]
  exact h _ (I.tok _)
theorem oO{h':Heap}{t':Nat}{ob:HO}(I:Inv X pins σ H s)(mu:p6 (H a))(hs:Ff a s.heap h')(he:∃ q,h'.get? a=some q)(new:cT X.prog X.w (aS H a ob) h' a ob) :
  Inv X pins σ (aS H a ob) {s with heap:=h',toks:=t'}:=
 I.write (x:=a) (e:=a) mu (.inl rfl) (fun b q hb z=>(hs.2 b hb).trans z) he new
theorem EM{P:Bq}{w:Cj}{H':Hp}{h':Heap}{kvs:List (aD×V)}{vs:List (aD×Ae)}(z:kvs.length<=Am)(hd:(a == Fx)=false)(rel:KV kvs vs)(dd:h'.DictOf (c8 P w) a vs) :
  cT P w H' h' a (.dK kvs):=⟨z,hd,vs,rel,dd⟩
theorem R1{H':Hp}{Q:Unit->Ag->Prop}(hu:A.units + 1 < Fm)(I:Inv X pins σ H s)(g:lZ H a y v H')(ry:RelV y u)(rv:RelV v r)(h:∀ s',Inv X pins σ H' s'->Q () s') :
  Bc (Bn X.prog X.w) A (setItem (.ref a) u r) Q E s:=by
 rcases g with⟨kvs,k,e,ey,l,eH⟩ | ⟨kvs,k,b,e,ey,eb,l,eH⟩
 ·subst ey eH
  obtain⟨z,hd,vs,rel,dd⟩:=EL I.hok e
  have hz:vs.length<=Am:=by rw[<-rel.length];exact z
  have hl:(eA kvs k v).length<=Am:=by have:=oN kvs k v;lia
  refine wpAny_setItem_pairs (hsz:=hz) (lA ry) dd fun h' dd' hs=>h _ ?_
  have he:∃ q,h'.get? a=some q:=let ⟨q,_,_,hq,_⟩:=dd';⟨q,hq⟩
  exact oO I (by rw[e];exact True.intro) hs he (EM hl hd (rel.put k rv) dd')
 ·subst ey eH
  cases (show u=Value.ref b from ry)
  obtain⟨z,hd,xs,rel,dd⟩:=sQ I.hok e
  have hz:xs.length<=Am:=by rw[<-Ei rel];exact z
  have hl:(eA kvs k v).length<=Am:=by have:=oN kvs k v;lia
  refine wpAny_setItem_heap (hsz:=hz) (Fb hu) (jP I.hok eb) dd fun h' dd' hs=>h _ ?_
  obtain⟨q,es,ep,hq,h2,h3,h4,_,h5⟩:=dd'
  refine oO I (by rw[e];exact True.intro) hs ⟨q,hq⟩ ⟨hl,hd,_,(rel.put k eb rv).keeps fun c ys ec=>?_,q,es,ep,hq,h2,h3,h4,h5⟩
  rw[bF (r9 ec e (fun z=>nomatch z))]
  exact ec
end
section
variable {X:Cx}{pins:List (Addr×Obj)}{σ:St}{H:Hp}{s:Ag}{a:Addr}{kvs:List (aD×V)}{k:aD}{u:Ae}{A:Co}{E:Ae->Ag->Prop}
theorem R4{Q:Ae->Ag->Prop}(I:Inv X pins σ H s)(e:Rd H a (.dK kvs))(h:∀ t s',Inv X pins σ H s'->Q (.int kvs.length t) s'):Bc (Bn X.prog X.w) A (call (.builtin "len") [.ref a]) Q E s:=by
 obtain⟨z,hd,vs,rel,dd⟩:=lY I.hok e
 refine call_len_dict hd dd (by rw[<-rel.length];rw[Jz] at z;lia) ?_
 rw[<-rel.length]
 exact h _ _ (I.tok _)
end
theorem R5{X:Cx}{pins:List (Addr×Obj)}{σ:St}{H:Hp}{s:Ag}{a:Addr}{y:V}{o:Option V}(I:Inv X pins σ H s)(g:g9 H a y o):s.TypeIs (.ref a) "dict":=by
 rcases g with⟨kvs,k,e,_,_⟩ | ⟨kvs,k,b,e,_,_,_⟩
 ·obtain⟨_,_,vs,_,dd⟩:=lY I.hok e
  exact dd.typeIs
 ·obtain⟨_,_,xs,_,dd⟩:=nC I.hok e
  exact dd.typeIs
theorem EN{P:Bq}{w:Cj}{H:Hp}(h:Heap)(hb:Fx < h.objs.size):cT P w H (h.push {cls:=.type "dict",data:=.dict #[]}) h.objs.size (.dK []):=
 ⟨Bv _,beq_eq_false_iff_ne.mpr (Bf (Bg hb)),[],.nil,Heap.DictOf.new h⟩
theorem EO{P:Bq}{w:Cj}{H:Hp}(h:Heap)(hb:Fx < h.objs.size):cT P w H (h.push {cls:=.type "dict",data:=.dict #[]}) h.objs.size (.dT []):=
 ⟨Bv _,beq_eq_false_iff_ne.mpr (Bf (Bg hb)),[],.nil,_,#[],0,Az _ rfl,⟨rfl,rfl,rfl⟩,rfl,rfl,Cy⟩
def R6:TE:=fun _ H Q=>∀ p,H p=none->Q (.ref p) (aS H p (.dK []))
def R7:TE:=fun _ H Q=>∀ p,H p=none->Q (.ref p) (aS H p (.dT []))
section
variable {X:Cx}{pos:Pos}
theorem R8:PE X (.Dict [] [] pos) R6:=fun pins s σ H Q I h=>
 wpAny_Dict_empty ⟨.ref s.heap.objs.size,_,I.laid (a:=s.heap.objs.size) (o:=.dK []) (t':=s.toks) (fun _ _ q=>Af _ q) (Ai _) (EN s.heap I.big),rfl,h _ (I.hok.fresh (Ai _))⟩
theorem R9:PE X (.Dict [] [] pos) R7:=fun pins s σ H Q I h=>
 wpAny_Dict_empty ⟨.ref s.heap.objs.size,_,I.laid (a:=s.heap.objs.size) (o:=.dT []) (t':=s.toks) (fun _ _ q=>Af _ q) (Ai _) (EO s.heap I.big),rfl,h _ (I.hok.fresh (Ai _))⟩
end
def sR:List (TE×TE)->St->Hp->(List (V×V)->Hp->Prop)->Prop
 | [],_,H,Q=>Q [] H
 | (tk,tv) :: r,σ,H,Q=>tk σ H fun x H1=>tv σ H1 fun y H2=>sR r σ H2 fun ps H3=>Q ((x,y) :: ps) H3
abbrev VV:List (V×V)->List (Ae×Ae)->Prop:=Ha fun p q=>RelV p.1 q.1/\RelV p.2 q.2
def sS(X:Cx)(pos:Pos)(keys:List (Option Expr))(values:List Expr)(trs:List (TE×TE)):Prop:=
 ∀ (pins:List (Addr×Obj)) (s:Ag) (σ:St) (H:Hp) (Q:List (V×V)->Hp->Prop),Inv X pins σ H s->sR trs σ H Q->
  Bc (Bn X.prog X.w) X.A (evalPairs (pairTrees keys values X.env pos)) (fun vs s'=>∃ ps H',Inv X pins σ H' s'/\VV ps vs/\Q ps H') X.xe s
theorem ER{X:Cx}{pos:Pos}:sS X pos [] [] []:=fun pins s σ H Q I h=>pairTrees_nil_walk ⟨[],H,I,.nil,h⟩
theorem ES{X:Cx}{pos:Pos}{k v:Expr}{ks:List (Option Expr)}{vs:List Expr}{tk tv:TE}{trs:List (TE×TE)}(hk:PE X k tk)(hv:PE X v tv)(hr:sS X pos ks vs trs) :
  sS X pos (some k :: ks) (v :: vs) ((tk,tv) :: trs):=fun pins s σ H Q I h=>
 pairTrees_cons_walk (a7 (hk pins s σ H _ I h) fun u s1 ⟨x,H1,I1,rx,q1⟩=>a7 (hv pins s1 σ H1 _ I1 q1) fun w2 s2 ⟨y,H2,I2,ry,q2⟩=>
  a7 (hr pins s2 σ H2 _ I2 q2) fun ws s3 ⟨ps,H3,I3,rel,q3⟩=>⟨(x,y) :: ps,H3,I3,.cons ⟨rx,ry⟩ rel,q3⟩)
def qH(kvs more:List (aD×V)):List (aD×V):=more.foldl (fun acc kv=>eA acc kv.1 kv.2) kvs
theorem KV.merge:∀ {more:List (aD×V)} {rs:List (aD×Ae)} {kvs:List (aD×V)} {vs:List (aD×Ae)},KV more rs->KV kvs vs->KV (qH kvs more) (merged vs rs):=by
 intro more rs kvs vs r
 unfold KV at r
 induction r generalizing kvs vs with
 | nil=>intro q;exact q
 | @cons p q ps qs h t ih=>
  intro r0
  have e:KV (eA kvs p.1 p.2) (stored vs q.1 q.2):=by
   have:=r0.put p.1 h.2
   rw[<-h.1];exact this
  exact ih e
theorem ET:∀ (more kvs:List (aD×V)),(qH kvs more).length<=kvs.length + more.length
 | [],kvs=>by show kvs.length<=kvs.length + 0;lia
 | p :: r,kvs=>by
  have h1:=ET r (eA kvs p.1 p.2)
  have h2:=oN kvs p.1 p.2
  show(qH (eA kvs p.1 p.2) r).length<=_
  rw[Bs];lia
theorem EU{P:Bq}{w:Cj}:∀ {kvs:List (aD×V)} {ws:List (Ae×Ae)},VV (kvs.map fun kv=>(kV kv.1,kv.2)) ws->∃ rs,Carries (c8 P w) ws rs/\KV kvs rs
 | [],_,r=>by rw[Fv] at r;cases r;exact⟨[],True.intro,.nil⟩
 | p :: kvs,_,r=>by
  rw[Ay] at r
  cases r with
  | @cons a b as bs h t=>
   obtain⟨rs,c,q⟩:=EU (P:=P) (w:=w) t
   obtain⟨b1,b2⟩:=b
   exact⟨(p.1,b2) :: rs,⟨lA h.1,rfl,c⟩,.cons ⟨rfl,h.2⟩ q⟩
def SA(trs:List (TE×TE)):TE:=fun σ H Q=>∀ p,H p=none->sR trs σ (aS H p (.dK [])) fun ps H2=>H2 p=some (.dK [])/\∃ kvs:List (aD×V),ps=kvs.map (fun kv=>(kV kv.1,kv.2))/\kvs.length<=15/\Q (.ref p) (aS H2 p (.dK (qH [] kvs)))
theorem SD{X:Cx}{pos:Pos}{keys:List (Option Expr)}{values:List Expr}{trs:List (TE×TE)}(h:sS X pos keys values trs)(hall:keys.all (·.isSome)=true)(hl:keys.length=values.length)(h0:keys≠[])
  (h15:keys.length<=15):PE X (.Dict keys values pos) (SA trs):=by
 intro pins s σ H Q I q
 have hn:=I.hok.fresh (Ai s.heap.objs.size)
 have I1:=I.laid (a:=s.heap.objs.size) (o:=.dK []) (h':=s.heap.push {cls:=.type "dict",data:=.dict #[]}) (t':=s.toks) (fun _ _ q=>Af _ q) (Ai _) (EN s.heap I.big)
 refine wpAny_Dict_walk (knd:=c8 X.prog X.w) hall hl h0 h15 (a7 (h pins _ σ _ _ I1 (q _ hn)) fun ws s2 ⟨ps,H2,I2,rel,e,kvs,ep,lk,q2⟩=>?_)
 subst ep
 obtain⟨rs,c,rk⟩:=EU (P:=X.prog) (w:=X.w) rel
 obtain⟨z,hd,vs0,r0,dd⟩:=EL I2.hok e
 cases r0
 refine⟨rs,c,dd,fun h' dd' hs=>⟨.ref s.heap.objs.size,_,?_,rfl,q2⟩⟩
 have hz:(qH [] kvs).length<=Am:=by
  have h1:=ET kvs []
  rw[List.length_nil] at h1
  rw[Jz];lia
 have he:∃ q,h'.get? s.heap.objs.size=some q:=let ⟨q,_,_,hq,_⟩:=dd';⟨q,hq⟩
 exact oO I2 (by rw[e];exact True.intro) hs he (EM hz hd (rk.merge .nil) dd')
section
variable {X:Cx}{pins:List (Addr×Obj)}{σ:St}{H:Hp}{s:Ag}{a:Addr}{y d:V}{u r:Ae}{o:Option V}{A:Co}{E:Ae->Ag->Prop}
theorem EV{Q:Ae->Ag->Prop}(hu:A.units + 1 < Fm)(I:Inv X pins σ H s)(g:g9 H a y o)(ry:RelV y u)(h:∀ w' s',Inv X pins σ H s'->RelV (o.getD .non) w'->Q w' s') :
  Bc (Bn X.prog X.w) A (call (.builtin "dict.get") [.ref a,u]) Q E s:=by
 rcases g with⟨kvs,k,e,ey,l⟩ | ⟨kvs,k,b,e,ey,eb,l⟩
 ·subst ey
  obtain⟨z,hd,vs,rel,dd⟩:=lY I.hok e
  refine Kk Iy dd.typeIs Ir (PySem.F.args_dict_get_2 _ _) (meets_dict_get (c8 X.prog X.w) a (lA ry) hd) ⟨_,dd.mapOf,h _ _ (I.tok _) ?_⟩
  rw[l]
  exact(rel.val k).getD rfl
 ·subst ey
  cases (show u=Value.ref b from ry)
  obtain⟨z,hd,xs,rel,dd⟩:=nC I.hok e
  refine Kk Iy dd.typeIs Ir (PySem.F.args_dict_get_2 _ _) (meetsH_dict_get (Fu (c8 X.prog X.w)) a b hd) ⟨Fb hu,k,xs,jP I.hok eb,dd,h _ _ (I.tok _) ?_⟩
  rw[l]
  exact(rel.val k).getD rfl
theorem EW{Q:Ae->Ag->Prop}(hu:A.units + 1 < Fm)(I:Inv X pins σ H s)(g:g9 H a y o)(ry:RelV y u)(rd:RelV d r)(h:∀ w' s',Inv X pins σ H s'->RelV (o.getD d) w'->Q w' s') :
  Bc (Bn X.prog X.w) A (call (.builtin "dict.get") [.ref a,u,r]) Q E s:=by
 rcases g with⟨kvs,k,e,ey,l⟩ | ⟨kvs,k,b,e,ey,eb,l⟩
 ·subst ey
  obtain⟨z,hd,vs,rel,dd⟩:=lY I.hok e
  refine Kk Iy dd.typeIs Ir (PySem.F.args_dict_get_3 _ _ _) (meets_dict_get_default (c8 X.prog X.w) a (lA ry) hd r) ⟨_,dd.mapOf,h _ _ (I.tok _) ?_⟩
  rw[l]
  exact(rel.val k).getD rd
 ·subst ey
  cases (show u=Value.ref b from ry)
  obtain⟨z,hd,xs,rel,dd⟩:=nC I.hok e
  refine Kk Iy dd.typeIs Ir (PySem.F.args_dict_get_3 _ _ _) (meetsH_dict_get_default (Fu (c8 X.prog X.w)) a b hd r) ⟨Fb hu,k,xs,jP I.hok eb,dd,h _ _ (I.tok _) ?_⟩
  rw[l]
  exact(rel.val k).getD rd
end
end L2
namespace Att
open PySem PySem.W PySem.Calls PyProof.Rows
theorem SE{P:Params}{h:Heap}:∀ (ns:List Int) (vs:List Ae),WellAll P h vs (ns.map WData.int)->IntsAre vs ns:=by
 intro ns
 induction ns with
 | nil=>
  intro vs w
  rw[Fv] at w
  cases w
  exact .nil
 | cons n ns ih=>
  intro vs w
  rw[Ay] at w
  cases w with
  | cons a b=>
   cases a
   exact .cons _ _ (ih _ b)
theorem SF{l:OpenLaw}{n:Nat}(hn:l.most=some n){P:Params}{h:Heap}{args:List WData}{vals:List Ae}
  (hpre:l.row.toRowW.claim.pre args=true) (hwl:WellAll P h vals args) :
  ∃ a vs ns,vals=[Value.ref a]/\args=[WData.list (ns.map WData.int)]/\h.get? a=some {cls:=.type "list",data:=.seq vs.toArray}/\IntsAre vs ns/\ns.length<=n:=by
 have hsh:WShape.hasAll [] args [.list .int]=true:=(pre_splitW hpre).1
 have hc:l.pre.holds [] {args:=args} = true:=(pre_splitW hpre).2
 obtain⟨d,r,rfl,h1,h2⟩:=hasAllW_cons hsh
 obtain rfl:=hasAllW_nil h2
 obtain⟨xs,rfl,h3⟩:=hasW_list h1
 obtain⟨ns,rfl⟩:=items_int h3
 have hlen:ns.length<=n:=by
  unfold OpenLaw.pre at hc
  have h4:(WTm.not (.lt (.lit (.int (n:Int))) (.len (.arg 0)))).holds [] {args:=[.list (ns.map .int)]} = true:=by
   have h4:=(holds_andW hc).1
   rw[hn] at h4
   exact h4
  have h5:=condW_of h4 (w_not (w_lt w_lit (w_len_list (w_arg rfl))))
  rw[Ab] at h5
  refine Nat.le_of_not_lt fun q=>?_
  have q':(n:Int) < ((ns.length:Nat):Int):=by lia
  first
   | (rw[decide_eq_true q'] at h5;exact absurd h5 (by decide))
   | (simp at h5;lia)
 cases hwl with
 | cons w1 w2=>
  cases w2
  cases w1 with
  | list ho hall=>exact⟨_,_,ns,rfl,rfl,ho,SE ns _ hall,hlen⟩
theorem SG(l:OpenLaw)(args:List WData):l.row.toRowW.claim.post args (.bool true) args=true:=
 postW_of (r:=l.row.toRowW) (X:=(true == true))
  (show WShape.has [] (.bool true) .bool=true by first | rfl | decide | simp[WShape.has,WShape.arms,WShape.armsAll])
  (show(WTm.eq .res (.lit (.bool true))).value [] {args:=args,res:=some (.bool true),after:=args} = some (.bool (true == true)) from w_eq_bool (w_res rfl) w_lit) rfl
theorem attach_call{l:OpenLaw}{n:Nat}{q:Bq}{loose:List Str}{XP:(Str->Option Ae)->Heap->Prop}{YP:Cj->Heap->Prop}{d:DefRec}
  (hn:l.most=some n) (hdf:d.params.defaults=[])
  (call:∀ (w:Cj) (s₀ s₁:Ag) (mg mb:Str->Option Ae) (fa:Addr) (o:Obj) (pm cd doc:Ae) (a:Addr) (vs:List Ae) (ns:List Int),
   Ground q loose [] XP w s₀ mg mb s₁.heap->YP w s₁.heap->
   s₁.heap.get? fa=some o->o.data=.func (docDef d.name d.params d.body d.scope pm cd doc)->s₁.heap.CodeRec cd d.name->mg d.name=some (.ref fa)->
   s₁.heap.get? a=some {cls:=.type "list",data:=.seq vs.toArray}->IntsAre vs ns->ns.length<=n->s₁.gens = #[]->
   Jm (Bn l.prog w) callerA (.call (.ref fa) ⟨[.ref a],[]⟩) (fun r s'=>r=.ok (.ret (.bool true))/\OldK s₁.heap s'.heap/\s'.os=s₁.os/\Mo s'.gens) s₁) :
  WalkO q loose XP YP l.row.toRowW d [] (fun f vs=>PySem.call f vs):=by
 intro w s₀ s₁ mg mb G Y fa o pm cd doc dV kV ho hd hcd hD hmg hg args vals as hpre hlay hrd hwl DG
 obtain rfl:dV=.none:=Dflts.none hD hdf
 obtain rfl:kV=.none:=Dflts.noKw hD
 obtain⟨a,vs,ns,rfl,rfl,hobj,hints,hlen⟩:=SF hn hpre hwl
 refine enter_call (codeAny_mono (call w s₀ s₁ mg mb fa o pm cd doc a vs ns G Y ho (fd_plain hd) hcd hmg hobj hints hlen hg) fun r s' hq=>?_)
 obtain⟨rfl,h2,h3,h4⟩:=hq
 exact⟨.inl ⟨.bool true,.bool true,[],rfl,fun _=>rfl,.bool true,SG l _,fun _=>⟨List.Pairwise.nil,fun _ hm=>(nomatch hm)⟩⟩,h2,h3,h4⟩
end Att
namespace L2
open PySem PySem.Spec PyProof.Rows
theorem EX:∀ {vs:List Ae} {ns:List Int},IntsAre vs ns->aZ (ns.map V.int) vs
 | _,_,.nil=>.nil
 | _,_,.cons n t h=>.cons ⟨t,rfl⟩ (EX h)
def sU(H:Hp):Prop:=∀ b,H b=none\/∃ o xs,H b=some (.frz o (.lst xs))
theorem SH{P:Bq}{w:Cj}{K:Ac}{mg mb:Str->Option Ae}{CX:kB}{k:Nat}{fa a:Addr}{fd:Bl}{x:Str}{sp:Sp}{s₁:Ag}{vs:List Ae}{ns:List Int}
  (KX:K.In s₁.heap) (hns:s₁.heap.Ns Dz mg) (hb:s₁.heap.Ns builtinsNs mb) (hbb:∀ x:Str,x≠"__name__"->mb x=Cp x) (hlim:s₁.heap.NoLimit) (hg:s₁.gens = #[])
  (ha:s₁.heap.get? a=some {cls:=.type "list",data:=.seq vs.toArray}) (hi:IntsAre vs ns) (hl:ns.length<=Am) (hr:cH k callerA)
  (F:∀ base:Heap,K.In base->base.Ns Dz mg->eJ P w K mg base CX k fa fd [x] sp) (hbind:∀ (s:Ag) (u:Ae),BindsTo s fd ⟨[u],[]⟩ [(x,u)])
  (hsp:∀ H:Hp,sU H->bD K H a (ns.map V.int)->sp [.ref a] H (fun v _=>v=.bl true) fun _ _ _=>False)
  (hCX:∀ H e s',CX [] H s₁ (fun _ _ _=>False) e s'->False) :
  Jm (Bn P w) callerA (.call (.ref fa) ⟨[.ref a],[]⟩) (fun r s'=>r=.ok (.ret (.bool true))/\OldK s₁.heap s'.heap/\s'.os=s₁.os/\Mo s'.gens) s₁:=by
 have rv:=EX hi
 have lenV:=hi.length
 have core:∀ H:Hp,sU H->bD K H a (ns.map V.int)->cX P w H s₁.heap->(∀ b,H b≠none->b=a)->(H a≠none->K.lookup a=none)->
   Jm (Bn P w) callerA (.call (.ref fa) ⟨[.ref a],[]⟩) (fun r s'=>r=.ok (.ret (.bool true))/\OldK s₁.heap s'.heap/\s'.os=s₁.os/\Mo s'.gens) s₁:=by
  intro H hO hS hok hA hK
  have base_of:∀ {b:Addr} {o:Obj},s₁.heap.get? b=some o->H b=none->(kZ s₁.heap H).get? b=some o:=fun e n=>MP e n
  have noA:∀ {b:Addr} {o:Obj} {es:Array Hu} {ep:Nat},s₁.heap.get? b=some o->o.data=.dict es ep->H b=none:=fun {b o es ep} e d=>by
   cases q:H b with
   | none=>rfl
   | some u=>
    have e':b=a:=hA b (by rw[q];simp)
    subst e'
    rw[ha] at e;cases e
    have d':Data.seq vs.toArray _=Data.dict es ep:=d
    cases d'
  have nsK:∀ {b:Addr} {m:Str->Option Ae},s₁.heap.Ns b m->(kZ s₁.heap H).Ns b m:=fun {b m} ⟨o,es,ep,e,d,r⟩=>⟨o,es,ep,base_of e (noA e d),d,r⟩
  have hKb:K.In (kZ s₁.heap H):=fun b o e=>base_of (KX b o e) (by
   cases q:H b with
   | none=>rfl
   | some u=>
    have e':b=a:=hA b (by rw[q];simp)
    subst e'
    rw[hK (by rw[q];simp)] at e;cases e)
  have hM:Mod K mg (kZ s₁.heap H):=⟨hKb,nsK hns,⟨mb,nsK hb,hbb⟩,let ⟨mc,h1,h2⟩:=hlim;⟨mc,nsK h1,h2⟩⟩
  have e0:nA P w K mg (kZ s₁.heap H) callerA [] s₁ H:=⟨rfl,hM,fun b o e=>MQ e,Fy (MN _ _),trivial,fun b hb=>absurd (show b∈([]:List Addr) from hb) (by simp),hok,.of_eq hg⟩
  refine codeAny_mono ((F _ hKb (nsK hns)).run callerA [] s₁ H ⟨[.ref a],[]⟩ [.ref a] [.ref a] _ _ hr e0 (hbind s₁ (.ref a)) (.cons rfl .nil) (hsp H hO hS)) fun r s' h=>?_
  cases r with
  | error e=>exact(hCX H e s' h).elim
  | ok fl=>
   cases fl with
   | next=>exact Gd h
   | brk=>exact Gd h
   | cont=>exact Gd h
   | ret u=>
    obtain⟨v,H',os,bare,un,hok',r',q⟩:=h
    have q':v=.bl true:=q
    subst q'
    obtain rfl:u=Value.bool true:=r'
    refine⟨rfl,OldK.of_keep fun b o e=>?_,os,bare⟩
    cases q:H b with
    | none=>exact un.keep b o e q (by intro z;exact absurd (show b∈([]:List Addr) from z) (by simp)) (by simp)
    | some u=>
     rcases hO b with z | ⟨ob,xs,z⟩
     ·rw[q] at z;cases z
     ·have z2:=un.frzs b ob _ z
      obtain⟨e1,_⟩:=hok b _ z
      obtain⟨e2,_⟩:=hok' b _ z2
      rw[e] at e1;cases e1
      exact e2
 cases hk:K.lookup a with
 | some o=>
  have e:=KX a o hk
  rw[ha] at e
  cases e
  refine core (fun _=>none) (fun _=>.inl rfl) (.inr ⟨_,vs.toArray,_,hk,rfl,rfl,rfl,by rw[Bb,lenV];exact hl,by simpa using rv⟩) (fun b u z=>by have z':(none:Option HO)=some u:=z;cases z') (fun b z=>absurd rfl z) fun z=>absurd rfl z
 | none=>
  refine core (fun b=>if b=a then some (.frz {cls:=.type "list",data:=.seq vs.toArray} (.lst (ns.map V.int))) else none) (fun b=>?_) (.inl (.inr ⟨{cls:=.type "list",data:=.seq vs.toArray},if_pos rfl⟩)) (fun b u z=>?_) (fun b z=>?_) fun _=>hk
  ·by_cases hb:b=a
   ·exact .inr ⟨_,_,if_pos hb⟩
   ·exact .inl (if_neg hb)
  ·by_cases hb:b=a
   ·have z':=(if_pos hb).symm.trans z
    cases z'
    subst hb
    exact⟨ha,by rw[Ab];exact hl,vs,_,rv,ha⟩
   ·have z':=(if_neg hb).symm.trans z
    cases z'
  ·by_cases hb:b=a
   ·exact hb
   ·exact absurd (if_neg hb) z
theorem SI{l:PySem.W.OpenLaw}{n k:Nat}{q:Bq}{loose:List Str}{XP:(Str->Option Ae)->Heap->Prop}{YP:Cj->Heap->Prop}{d:DefRec}{K:Params->Ac}{CX:Cj->kB}{sp:Cj->Sp}{x:Str}
  (hn:l.most=some n) (hn2:n<=Am) (hdf:d.params.defaults=[]) (hr:cH k callerA)
  (hY:∀ (w:Cj) (h:Heap),YP w h->(K w.params).In h)
  (F:∀ (w:Cj) (mg:Str->Option Ae) (fa:Addr) (h:Heap),(K w.params).In h->h.Ns Dz mg->mg d.name=some (.ref fa)->
   ∃ fd:Bl,(∀ (s:Ag) (u:Ae),BindsTo s fd ⟨[u],[]⟩ [(x,u)])/\
    ∀ base:Heap,(K w.params).In base->base.Ns Dz mg->eJ l.prog w (K w.params) mg base (CX w) k fa fd [x] (sp w))
  (hsp:∀ (w:Cj) (H:Hp) (a:Addr) (ns:List Int),ns.length<=n->sU H->bD (K w.params) H a (ns.map V.int)->sp w [.ref a] H (fun v _=>v=.bl true) fun _ _ _=>False)
  (hCX:∀ (w:Cj) (H:Hp) (s:Ag) (e:Ae) (s':Ag),CX w [] H s (fun _ _ _=>False) e s'->False) :
  PySem.W.WalkO q loose XP YP l.row.toRowW d [] (fun f vs=>PySem.call f vs):=by
 refine Att.attach_call hn hdf fun w s₀ s₁ mg mb fa o pm cd doc a vs ns G Y ho hd hcd hmg hobj hints hlen hg=>?_
 have KX:=hY w _ Y
 obtain⟨fd,hb,hF⟩:=F w mg fa _ KX G.T.g hmg
 exact SH KX G.T.g G.T.b G.T.builtins G.T.nolimit hg hobj hints (Bh hlen hn2) hr hF hb (fun H hO hS=>hsp w H a ns hlen hO hS) fun H e s'=>hCX w H s₁ e s'
abbrev fN:kB:=fun _ _ _ _ _ _=>False
abbrev E0:XK:=fun _ _ _=>False
theorem nD{X:Cx}:k9 fN X E0:=fun _ _ _ _ _ _ _ h=>h.elim
structure kF(K:Ac)(x qual:Str)(st:Stmt)(f:Addr)(fd:Bl):Prop where
 ex:∃ (oc:Ae) (od:Option Addr) (kV doc pm:Ae) (an:Option Addr) (cdv ct:Ae) (osl:Array (Option Ae)),
  fd=El x qual (iX st) (gW st) (eY st) .none kV doc pm an cdv ct/\K.lookup f=some ⟨oc,od,.func fd,osl⟩/\Iq K cdv qual=true
 kp:Ea K (.ref f)=true
section
variable {P:Bq}{w:Cj}{K:Ac}{mg:Str->Option Ae}{base:Heap}
theorem kF.ok{x qual:Str}{st:Stmt}{f:Addr}{fd:Bl}{N ps:List Str}{k:Nat}{sp:Sp}(F:kF K x qual st f fd)(S:oM N ps (eY st))(len:∀ vs H Q E,sp vs H Q E->vs.length=ps.length)
  (hbody:∀ (cdv:Ae) (A:Co) (outer:List Env) (s:Ag) (H:Hp) (vs:List V) (Q:VK) (E:XK),cH k (A.deeper (Lf qual (eY st) s.heap.objs.size f cdv))->sp vs H Q E->
   ∃ t,fW (lW fN P w K mg base N qual (eY st) f cdv A outer s H E).nox (gW st) t/\t {nx:=fun _ H'=>Q .non H',rt:=Q} (start N vs) H):eJ P w K mg base fN (k + 1) f fd ps sp:=by
 obtain⟨oc,od,kV,doc,pm,an,cdv,ct,osl,rfl,lk,hcd⟩:=F.ex
 refine QH lk hcd S len fun A outer s H vs Q E hr hsp=>?_
 obtain⟨t,h,q⟩:=hbody cdv A outer s H vs Q E hr hsp
 exact⟨t,h.nox,q⟩
theorem kF.binds{x qual:Str}{st:Stmt}{f:Addr}{fd:Bl}{ps:List Str}(F:kF K x qual st f fd)
  (h:∀ (kV doc pm:Ae) (an:Option Addr) (cdv ct:Ae) (us:List Ae),us.length=ps.length->bindArgs (El x qual (iX st) (gW st) (eY st) .none kV doc pm an cdv ct) ⟨us,[]⟩=pure (ps.zip us)):Binds K fd ps []:=by
 obtain⟨oc,od,kV,doc,pm,an,cdv,ct,osl,rfl,lk,hcd⟩:=F.ex
 exact .all (h kV doc pm an cdv ct)
theorem oP{x qual:Str}{st:Stmt}{f:Addr}{oc:Ae}{od an:Option Addr}{osl:Array (Option Ae)}{kV doc pm cdv ct:Ae}(l:K.lookup f=some ⟨oc,od,.func (El x qual (iX st) (gW st) (eY st) .none kV doc pm an cdv ct),osl⟩)
  (c:Iq K cdv qual=true) (k:Ea K (.ref f)=true):kF K x qual st f (El x qual (iX st) (gW st) (eY st) .none kV doc pm an cdv ct):=⟨⟨oc,od,kV,doc,pm,an,cdv,ct,osl,rfl,l,c⟩,k⟩
end
theorem SJ{A:Co}{k:Nat}(hr:cH k A):A.units + 1 < Fm:=Nat.lt_of_le_of_lt (Jx (by decide:1<=64) _) hr.units
section
variable {X:Cx}
theorem SM:dE X (.builtin "len") (fun xs H Q=>∃ a kvs,xs=[V.ref a]/\H a=some (.dK kvs)/\Q (.int kvs.length) H):=by
 intro pins s σ H xs us Q I r h
 obtain⟨a,kvs,rfl,ha,q⟩:=h
 obtain⟨u,rfl,ru⟩:=vals1 r
 cases ru
 exact R4 I (.inl ha) fun t s' I'=>⟨.int kvs.length,H,I',⟨t,rfl⟩,q⟩
end
theorem SN{A B:Prop}(h:B):if false=true then A else B:=by
 rw[if_neg Ao]
 exact h
theorem SO{A B:Prop}(h:A):if true=true then A else B:=by
 rw[if_pos rfl]
 exact h
end L2
set_option maxHeartbeats 4000000
namespace L2
open PySem PySem.Spec PyProof.Rows
structure kG where
 cl:List (Str×Addr)
 s:Ag
 H:Hp
 fp:List Addr
 C:Addr
def dQ(X:Cx)(sc:Jb)(N':List Str)(B:kG):Cx where
 prog:=X.prog
 w:=X.w
 K:=X.K
 mg:=X.mg
 base:=X.base
 A:=X.A
 N:=N'
 s₀:=B.s
 H₀:=B.H
 env:=compEnvC sc B.cl B.C X.env
 outer:=X.stack
 stack:=X.stack
 ex:=B.fp
 fn:=fun _=>false
 calm:=X.calm
 pn:=[]
 xe:=fun _ _=>False
def gC(cells:List (Str×Addr)):List (Str×Ik)->List (Str×Addr)->List (Str×Addr)
 | [],acc=>acc
 | (n,k) :: r,acc=>if k=.free then gC cells r ((n,(cells.lookup n).getD 0) :: acc) else gC cells r acc
theorem EY{scope:Jb}{env:Env}(h:∀ y∈scope.names,y.2=.free->∃ c,env.cells.lookup y.1=some c):closureFor scope env=pure (gC env.cells scope.names []):=by
 have key:∀ (names:List (Str×Ik)) (acc:List (Str×Addr)),(∀ y∈names,y.2=.free->∃ c,env.cells.lookup y.1=some c)->
   (forIn names acc fun(x:Str×Ik) (cs:List (Str×Addr))=>(if (x.2 == NameKind.free)=true then(do let a <-cellOf env x.1;pure (ForInStep.yield ((x.1,a) :: cs))) else pure (ForInStep.yield cs):Sem (ForInStep (List (Str×Addr)))))=(pure (gC env.cells names acc):Sem _):=by
  intro names
  induction names with
  | nil=>intro acc _;rfl
  | cons y r ih=>
   intro acc hy
   obtain⟨n,k⟩:=y
   rw[Li]
   by_cases hk:k=.free
   ·subst hk
    obtain⟨c,hc⟩:=hy (n,.free) Bd rfl
    have e1:cellOf env n=(pure c:Sem Addr):=by
     unfold cellOf
     rw[show env.cells.lookup n=some c from hc]
    simp only[beq_self_eq_true,if_true,e1,pure_bind]
    rw[ih _ fun z hz=>hy z (Au _ hz)]
    simp only[gC,if_true]
    rw[show env.cells.lookup n=some c from hc]
    rfl
   ·have hb:(k == NameKind.free)=false:=by simpa using hk
    simp only[hb,Ds,if_false,pure_bind]
    rw[ih _ fun z hz=>hy z (Au _ hz)]
    simp only[gC,if_neg hk]
 have e:closureFor scope env=((forIn scope.names [] fun(x:Str×Ik) (cs:List (Str×Addr))=>(if (x.2 == NameKind.free)=true then(do let a <-cellOf env x.1;pure (ForInStep.yield ((x.1,a) :: cs))) else pure (ForInStep.yield cs):Sem (ForInStep (List (Str×Addr))))) >>= fun cs=>pure cs):=by
  unfold closureFor
  rfl
 rw[e,key _ _ h,pure_bind]
theorem v8{cells:List (Str×Addr)}{x:Str}{c:Addr}:∀ {names:List (Str×Ik)} {acc:List (Str×Addr)},(∀ y∈names,y.2=.free->∃ c,cells.lookup y.1=some c)->
  (∀ x c,acc.lookup x=some c->cells.lookup x=some c)->(gC cells names acc).lookup x=some c->cells.lookup x=some c
 | [],acc,_,ha,e=>ha x c e
 | (n,k) :: r,acc,hy,ha,e=>by
  have hr:∀ y∈r,y.2=.free->∃ c,cells.lookup y.1=some c:=fun z hz=>hy z (Au _ hz)
  unfold gC at e
  by_cases hk:k=.free
  ·subst hk
   rw[if_pos rfl] at e
   obtain⟨d,hd⟩:=hy (n,.free) Bd rfl
   have hd:cells.lookup n=some d:=hd
   refine v8 hr (fun z b q=>?_) e
   rw[Gs] at q
   by_cases hz:z=n
   ·subst hz
    rw[beq_self_eq_true,hd] at q
    rw[hd];exact q
   ·have:(z == n)=false:=beq_eq_false_iff_ne.mpr hz
    rw[this] at q
    exact ha z b q
  ·rw[if_neg hk] at e
   exact v8 hr ha e
theorem sW{cells:List (Str×Addr)}{x:Str}:∀ {names:List (Str×Ik)} {acc:List (Str×Addr)},((x,NameKind.free)∈names\/∃ c,acc.lookup x=some c)->∃ c,(gC cells names acc).lookup x=some c
 | [],acc,h=>by
  rcases h with h | h
  ·cases h
  ·exact h
 | (n,k) :: r,acc,h=>by
  unfold gC
  by_cases hk:k=.free
  ·subst hk
   rw[if_pos rfl]
   refine sW ?_
   by_cases hx:x=n
   ·subst hx
    right
    rw[Gs,beq_self_eq_true]
    exact⟨_,rfl⟩
   ·have hb:(x == n)=false:=beq_eq_false_iff_ne.mpr hx
    rcases h with h | ⟨c,h⟩
    ·rcases Ar.mp h with e | h
     ·cases e;exact absurd rfl hx
     ·exact .inl h
    ·right
     rw[Gs,hb]
     exact⟨c,h⟩
  ·rw[if_neg hk]
   refine sW ?_
   rcases h with h | h
   ·rcases Ar.mp h with e | h
    ·cases e;exact absurd rfl hk
    ·exact .inl h
   ·exact .inr h
structure nE(N':List Str)(sc osc:Jb):Prop where
 kind:sc.kind=.function
 nd:N'.Nodup
 nocell:∀ y∈sc.names,y.2≠.cell
 loc:∀ y∈sc.names,y.2=.local->sc.names.lookup y.1=some .local
 free:∀ y∈sc.names,y.2=.free->osc.names.lookup y.1=some .cell\/osc.names.lookup y.1=some .free
def nF(N':List Str)(sc osc:Jb):Bool:=
 decide (sc.kind=.function) && decide N'.Nodup && sc.names.all (fun y=>decide (y.2≠.cell)) && sc.names.all (fun y=>decide (y.2=.local->sc.names.lookup y.1=some .local)) &&
  sc.names.all (fun y=>decide (y.2=.free->osc.names.lookup y.1=some .cell\/osc.names.lookup y.1=some .free))
theorem nE.of{N':List Str}{sc osc:Jb}(h:nF N' sc osc=true):nE N' sc osc:=by
 unfold nF at h
 simp only[Cm] at h
 obtain⟨⟨⟨⟨h1,h2⟩,h3⟩,h4⟩,h5⟩:=h
 exact⟨of_decide_eq_true h1,of_decide_eq_true h2,fun y hy=>of_decide_eq_true (Kw.mp h3 y hy),fun y hy=>of_decide_eq_true (Kw.mp h4 y hy),fun y hy=>of_decide_eq_true (Kw.mp h5 y hy)⟩
def cmap(js:List (Option Nat))(σ:St):St:=js.map fun o=>o.bind fun j=>(σ[j]?).join
def fE(N' N:List Str)(sc:Jb):List (Option Nat)->List Str->Bool
 | [],[]=>true
 | none :: js,_ :: r=>fE N' N sc js r
 | some j :: js,x :: r=>decide (N[j]? = some x) && decide (sc.names.lookup x=some .free) && fE N' N sc js r
 | _,_=>false
theorem v9{N' N:List Str}{sc:Jb}:∀ {js:List (Option Nat)} {r:List Str},fE N' N sc js r=true->js.length=r.length
 | [],[],_=>rfl
 | none :: js,_ :: r,h=>by
  have:=v9 (js:=js) (r:=r) h
  simp[this]
 | some j :: js,x :: r,h=>by
  unfold fE at h
  rw[Cm] at h
  have:=v9 (js:=js) (r:=r) h.2
  simp[this]
 | [],_ :: _,h=>by simp[fE] at h
 | none :: _,[],h=>by simp[fE] at h
 | some _ :: _,[],h=>by simp[fE] at h
theorem wA{N' N:List Str}{sc:Jb}:∀ {js:List (Option Nat)} {r:List Str} {i j:Nat} {x:Str},fE N' N sc js r=true->js[i]? = some (some j)->r[i]? = some x->N[j]? = some x/\sc.names.lookup x=some .free
 | [],[],i,j,x,_,e,_=>by simp at e
 | none :: js,_ :: r,0,j,x,h,e,_=>by simp at e
 | none :: js,_ :: r,i + 1,j,x,h,e,e2=>wA (js:=js) (r:=r) (i:=i) h (by simpa using e) (by simpa using e2)
 | some k :: js,y :: r,0,j,x,h,e,e2=>by
  unfold fE at h
  rw[Cm,Cm] at h
  simp at e e2
  subst e;subst e2
  exact⟨of_decide_eq_true h.1.1,of_decide_eq_true h.1.2⟩
 | some k :: js,y :: r,i + 1,j,x,h,e,e2=>by
  unfold fE at h
  rw[Cm,Cm] at h
  exact wA (js:=js) (r:=r) (i:=i) h.2 (by simpa using e) (by simpa using e2)
 | [],_ :: _,_,_,_,h,_,_=>by simp[fE] at h
 | none :: _,[],_,_,_,h,_,_=>by simp[fE] at h
 | some _ :: _,[],_,_,_,h,_,_=>by simp[fE] at h
theorem wB{env:Env}{x:Str}:∀ {names:List (Str×Ik)},(∀ y∈names,y.2≠.cell)->
  (((names.map fun(n,k)=>if (k == NameKind.free && env.scope.kind == .function && env.kindOf n == some .cell) then(n,NameKind.cell) else(n,k)).lookup x=some .cell\/
    (names.map fun(n,k)=>if (k == NameKind.free && env.scope.kind == .function && env.kindOf n == some .cell) then(n,NameKind.cell) else(n,k)).lookup x=some .free)↔names.lookup x=some .free)
 | [],_=>by simp
 | (n,k) :: r,h=>by
  have ih:=@wB env x r fun y hy=>h y (Au _ hy)
  have hk:k≠.cell:=h (n,k) Bd
  rw[Ay]
  dsimp only
  by_cases hx:(x == n)=true
  ·by_cases hc:(k == NameKind.free && env.scope.kind == .function && env.kindOf n == some .cell)=true
   ·rw[if_pos hc]
    simp only[Gs,hx]
    have:k=.free:=by
     rw[Cm,Cm] at hc
     exact beq_iff_eq.mp hc.1.1
    simp[this]
   ·rw[if_neg hc]
    simp only[Gs,hx]
    constructor
    ·rintro(e | e)
     ·cases e;exact absurd rfl hk
     ·exact e
    ·intro e;exact .inr e
  ·have hx:(x == n)=false:=by simpa using hx
   by_cases hc:(k == NameKind.free && env.scope.kind == .function && env.kindOf n == some .cell)=true
   ·rw[if_pos hc]
    simp only[Gs,hx]
    exact ih
   ·rw[if_neg hc]
    simp only[Gs,hx]
    exact ih
theorem wC{x:Str}{k:Ik}:∀ {names:List (Str×Ik)},names.lookup x=some k->(x,k)∈names:=fun h=>Gn h
section
variable {X:Cx}{sc:Jb}{N':List Str}{js:List (Option Nat)}{pins:List (Addr×Obj)}{σ:St}{H H1:Hp}{s:Ag}{fp:List Addr}{C:Addr}
theorem wD(S:nE N' sc X.env.scope)(I:Inv X pins σ H s):∀ y∈sc.names,y.2=.free->∃ c,X.env.cells.lookup y.1=some c:=fun y hy hk=>
 I.ok.has y.1 (S.free y hy hk)
theorem SQ(S:nE N' sc X.env.scope)(hj:fE N' X.N sc js N'=true)(I:Inv X pins σ H s)(hf:∀ b∈fp,gX X pins H b)(ho:∀ b∈fp,∃ o,s.heap.get? b=some o)
  {h1:Heap} {tk:Nat} {m:Str->Option Ae} (hC:s.heap.objs.size<=C) (keep:∀ b o,s.heap.get? b=some o->h1.get? b=some o) (un:Un (iG X.stack) fp H H1 s.heap h1) (hok:cX X.prog X.w H1 h1) (hn:h1.Ns C m) (hfree:H1 C=none) :
  Inv (dQ X sc N' ⟨gC X.env.cells sc.names [],s,H,fp,C⟩) [] (cmap js σ) H1 {s with heap:=h1,toks:=tk}:=by
 have cs:=wD S I
 have sub:∀ x c,(gC X.env.cells sc.names []).lookup x=some c->X.env.cells.lookup x=some c:=fun x c e=>v8 cs (fun _ _ z=>by simp at z) e
 refine⟨⟨I.ok.mod,S.kind,I.ok.glob,I.ok.blt,hC,fun x y c e1 e2=>I.ok.inj x y c (sub x c e1) (sub y c e2),fun x hx=>?_,fun _ _ h _=>absurd (show false=true from h) Ao,I.ok.hd,I.ok.frames,.inl rfl,fun b hb=>?_,I.bs,Bh I.ok.bsz I.sz,fun b o e hb=>?_,fun b hb hb'=>?_,I.stack,I.stkFree⟩,
  rfl,I.bare,un,⟨m,hn,fun i x v e1 e2 e3=>?_⟩,fun x c e=>?_,hfree,fun x c e=>?_,fun p hp=>absurd (show p∈([]:List (Addr×Obj)) from hp) (by simp),hok,?_⟩
 ·have q:sc.names.lookup x=some .free:=(wB (env:=X.env) S.nocell).mp hx
  exact sW (.inl (wC q))
 ·obtain⟨o,e⟩:=ho b hb
  exact⟨Bg (Bw (Ap e) hC),fun x c q=>(hf b hb).2.2.2.2.1 x c (sub x c q)⟩
 ·rcases(hf b hb).2.2.2.1 with z | z
  ·exact I.ok.noex b o e z
  ·exact absurd (Bw (Ap e) (Bh I.ok.bsz z)) (Jp _)
 ·rcases Ar.mp (I.stkSub b hb') with z | z
  ·exact(hf b hb).2.1 z
  ·exact(hf b hb).2.2.1 z
 ·
  have e1:N'[i]? = some x:=e1
  unfold cmap at e2
  rw[Av] at e2
  cases hji:js[i]? with
  | none=>rw[hji] at e2;cases e2
  | some o=>
   rw[hji] at e2
   cases o with
   | none=>cases e2
   | some j=>
    obtain⟨a1,a2⟩:=wA hj hji e1
    have e2:(σ[j]?).join=some v:=by simpa using e2
    have e2':σ[j]? = some (some v):=by
     cases q:σ[j]? with
     | none=>rw[q] at e2;cases e2
     | some z=>rw[q] at e2;simpa using e2
    obtain⟨m0,hn0,hl0⟩:=I.loc
    have kx:=S.free _ (wC a2) rfl
    obtain⟨u,r,l⟩:=hl0 j x v a1 e2' (kx.elim (fun z=>.inr (.inl z)) fun z=>.inr (.inr z))
    refine⟨u,r,.inr ⟨(wB (env:=X.env) S.nocell).mpr a2,?_⟩⟩
    rcases l with⟨k,_⟩ | ⟨_,c,ec,hc⟩
    ·have k:X.env.scope.names.lookup x=some .local:=k
     rcases kx with z | z
     ·rw[k] at z;cases z
     ·rw[k] at z;cases z
    ·obtain⟨c',ec'⟩:=sW (cells:=X.env.cells) (acc:=[]) (.inl (wC a2))
     have:c'=c:=Ci ((sub x c' ec').symm.trans ec)
     subst this
     obtain⟨oc,hoc,hd⟩:=hc
     exact⟨c',ec',oc,keep _ _ hoc,hd⟩
 ·obtain⟨v,oc,hoc,hd⟩:=I.cell x c (sub x c e)
  exact⟨v,oc,keep _ _ hoc,hd⟩
 ·obtain⟨v,oc,hoc,hd⟩:=I.cell x c (sub x c e)
  have nfp:c∉fp:=fun z=>(hf c z).2.2.2.2.1 x c (sub x c e) rfl
  exact un.free c oc hoc (I.freeC x c (sub x c e)) nfp
 ·show(cmap js σ).length=N'.length
  unfold cmap
  rw[Ab]
  exact v9 hj
end
section
variable {prog:Bq}{w:Cj}{A:Co}{R:Result->Ag->Prop}{s:Ag}
theorem SU{elt target iter:Expr}{ifs:List Expr}{scope:Jb}{pos:Pos}{it acc:Ae}{env:Env}(I:Nat->Ag->Prop)
  (turn:∀ n s,I n s->Bc (Bn prog w) A (Gz it) (fun r s₁=>match r with
   | none=>R (.ok .next) s₁
   | some v=>Bc (Bn prog w) A (Ms target it v) (fun _ s₀=>Bc (Bn prog w) A (Lg target env v) (fun _ s₂=>
     Bc (Bn prog w) A (forIn ifs true fun c r=>if r=true then do let ok <-isTrue c env (eval c env);pure (ForInStep.yield ok) else pure (ForInStep.yield r)) (fun ok s₃=>
      if ok=true then Bc (Bn prog w) A (eval elt env) (fun x s₄=>
       Bc (Bn prog w) A (call (.builtin "list.append") [acc,x]) (fun _ s₅=>∃ m,m < n/\I m s₅) (fun _ _=>False) s₄) (fun _ _=>False) s₃
      else ∃ m,m < n/\I m s₃) (fun _ _=>False) s₂) (fun _ _=>False) s₀) (fun _ _=>False) s₁) (fun _ _=>False) s)
  (n:Nat) (h:I n s) :
  Jm (Bn prog w) A (.compLoop (.ListComp elt [⟨target,iter,ifs,0⟩] scope pos) 0 it acc env) R s:=by
 refine codeAny_loop rfl I (fun n s hI=>?_) n h
 show Bc _ A ((compTurn (.ListComp elt [⟨target,iter,ifs,0⟩] scope pos) 0 it acc env).onRaise (fun x=>do noteFrame x env;theTreesLotGoes x)) _ _ s
 refine wpAny_noted ?_
 rw[compTurn_list]
 refine Aa (Nf (Aa (Ij (turn n s hI) (fun r s₁ h₁=>?_) fun _ _ h'=>h'.elim)))
 cases r with
 | none=>exact Ah h₁
 | some v=>
  refine Aa (Ij h₁ (fun _ s₀ h₀=>?_) fun _ _ h'=>h'.elim)
  refine Aa (Ij h₀ (fun _ s₂ h₂=>Aa (Ij h₂ (fun ok s₃ h₃=>?_) fun _ _ h'=>h'.elim)) fun _ _ h'=>h'.elim)
  cases ok with
  | false=>exact Ah ⟨rfl,h₃⟩
  | true=>
   exact Aa (Aa (Ij h₃ (fun x s₄ h₄=>Aa (Ij h₄ (fun _ s₅ h₅=>Ah (Ah ⟨rfl,h₅⟩)) fun _ _ h'=>h'.elim)) fun _ _ h'=>h'.elim))
end
def iT(X:Cx)(ifs:List Expr)(t:TT):Prop:=
 ∀ (pins:List (Addr×Obj)) (s:Ag) (σ:St) (H:Hp) (Q:Bool->Hp->Prop),Inv X pins σ H s->t σ H Q->
  Bc (Bn X.prog X.w) X.A (forIn ifs true fun c r=>if r=true then do let ok <-isTrue c X.env (eval c X.env);pure (ForInStep.yield ok) else pure (ForInStep.yield r)) (TP X pins σ Q) X.xe s
def SW:TT:=fun _ H Q=>Q true H
theorem SX{X:Cx}:iT X [] SW:=fun _ _ _ H _ I h=>wpAny_tests_nil ⟨H,I,h⟩
theorem SY{X:Cx}{c:Expr}{t:TT}(h:PT X c t):iT X [c] t:=fun pins s σ H Q I hw=>wpAny_tests_one (h pins s σ H Q I hw)
def wF(J:It)(g:TG)(tt:TT)(te:TE)(p:Addr)(σ₀:St)(H1:Hp)(Q:VK):Prop:=
 ∃ W:Nat->Nat->St->List V->Hp->Prop,(∃ m,W 0 m σ₀ [] (aS H1 p (.lst [])))/\∀ i m σ' acc H,W i m σ' acc H->
  (J.stop i H/\Q (.ref p) H)\/(J.go i H/\∃ N:St->List V->Hp->Prop,(∀ σ2 acc' H',N σ2 acc' H'->∃ m',m' < m/\W (i + 1) m' σ2 acc' H')/\∀ x H',J.yld i H x H'->g x σ' H' fun σ2 H2=>tt σ2 H2 fun b H3=>
   if b=true then te σ2 H3 fun y H4=>H4 p=some (.lst acc)/\acc.length < Am/\N σ2 (acc ++ [y]) (aS H4 p (.lst (acc ++ [y])))
   else N σ2 acc H3)
def wH(wi:TI)(g:kG->TG)(tt:kG->TT)(te:kG->TE)(js:List (Option Nat)):TE:=fun σ H Q=>wi σ H fun J H1=>∀ p,H1 p=none->∀ B:kG,wF J (g B) (tt B) (te B) p (cmap js σ) H1 Q
section
variable {X:Cx}{sc:Jb}{N':List Str}{js:List (Option Nat)}{tg iter elt:Expr}{ifs:List Expr}{pos:Pos}{wi:TI}{g:kG->TG}{tt:kG->TT}{te:kG->TE}
theorem EZ(S:nE N' sc X.env.scope)(hj:fE N' X.N sc js N'=true)(hc:X.calm=true)
  (hg:∀ B,PG (dQ X sc N' B) tg (g B)) (ht:∀ B,iT (dQ X sc N' B) ifs (tt B)) (he:∀ B,PE (dQ X sc N' B) elt (te B))
  {pins:List (Addr×Obj)} {s:Ag} {σ:St} {J:It} {H:Hp} {it:Addr} {fp:List Addr} {tn:Nat->Heap->Prop} (I:Inv X pins σ H s) (T:i0 X.prog X.w X.K tg J fp it tn) (st:tn 0 s.heap) (hf:∀ b∈fp,gX X pins H b)
  {Q:VK} (hw:∀ p,H p=none->∀ B:kG,wF J (g B) (tt B) (te B) p (cmap js σ) H Q) {E:Ae->Ag->Prop} {RR:Ae->Addr->Result->Ag->Prop}
  (hRR:∀ p C H' s' m,Inv X pins σ H' s'->gX X pins H' C->s'.heap.Ns C m->Q (.ref p) H'->RR (.ref p) C (.ok .next) s') :
  Bc (Bn X.prog X.w) X.A (newList []) (fun acc s₃=>Bc (Bn X.prog X.w) X.A (newFunctionEnv sc X.env.globals (gC X.env.cells sc.names []) [] X.env.qual none .none (some X.env)) (fun cenv s₄=>
   Jm (Bn X.prog X.w) X.A (.compStart (.ListComp elt [⟨tg,iter,ifs,0⟩] sc pos) 0 (.ref it) acc {cenv with scope:=relabel sc X.env}) (RR acc cenv.locals) s₄) E s₃) E s:=by
 refine Dc (wpAny_newFunctionEnv S.nocell (by intro y hy;simp at hy) (fun h₁ hns₁ hsb₁=>?_) S.kind)
 dsimp only at hns₁ hsb₁ ⊢
 generalize hH2:s.heap.push {cls:=.type "list",dict:=none,data:=.seq ([]:List Ae).toArray} = H2 at hns₁ hsb₁ ⊢
 have hC:H2.objs.size=s.heap.objs.size + 1:=by rw[<-hH2,Du]
 have hDC:s.heap.objs.size≠H2.objs.size:=by rw[hC];exact Bg (Ie _)
 have hCle:s.heap.objs.size<=H2.objs.size:=by rw[hC];exact Ml _
 have below:∀ b,b < s.heap.objs.size->b≠H2.objs.size:=fun b hb=>by rw[hC];exact Bg (Nat.lt_succ_of_lt hb)
 have old:∀ b o,s.heap.get? b=some o->h₁.get? b=some o:=fun b o e=>hsb₁.extBut b o (below b (Ap e)) (Af _ (hH2 ▸ Af _ e))
 have hacc:h₁.get? s.heap.objs.size=some {cls:=.type "list",dict:=none,data:=.seq ([]:List Ae).toArray}:=hsb₁.extBut _ _ hDC (Af _ (hH2 ▸ Az _ rfl))
 have hp0:H s.heap.objs.size=none:=I.hok.fresh (Ai _)
 have newO:cT X.prog X.w (aS H s.heap.objs.size (.lst [])) h₁ s.heap.objs.size (.lst []):=⟨Bv _,[],_,.nil,hacc⟩
 have hok1:cX X.prog X.w (aS H s.heap.objs.size (.lst [])) h₁:=I.hok.laid old (Ai _) newO
 have un1:Un (iG X.stack) fp H (aS H s.heap.objs.size (.lst [])) s.heap h₁:=Un.laid old (Ai _) hp0
 have fC:(aS H s.heap.objs.size (.lst [])) H2.objs.size=none:=by rw[bF (Bf hDC)];exact I.hok.fresh hCle
 have IB:=SQ (tk:=s.toks + ([]:List (Str×Ae)).length) S hj I hf (fun b hb=>let ⟨o,e,_⟩:=T.obj 0 _ st b hb;⟨o,e⟩) hCle old un1 hok1 hns₁ fC
 obtain⟨W,⟨m0,w0⟩,turn⟩:=hw _ hp0 ⟨gC X.env.cells sc.names [],s,H,fp,H2.objs.size⟩
 have st1:tn 0 h₁:=T.keep _ _ _ st fun b _ o e=>old b o e
 have loop:∀ s₃:Ag,s₃ = {s with heap:=h₁,toks:=s.toks + ([]:List (Str×Ae)).length}->
   Jm (Bn X.prog X.w) X.A (.compLoop (.ListComp elt [⟨tg,iter,ifs,0⟩] sc pos) 0 (.ref it) (.ref s.heap.objs.size) (compEnvC sc (gC X.env.cells sc.names []) H2.objs.size X.env))
    (RR (.ref s.heap.objs.size) H2.objs.size) s₃:=by
  rintro s₃ rfl
  generalize hB:(⟨gC X.env.cells sc.names [],s,H,fp,H2.objs.size⟩:kG)=B at turn w0 IB
  have eB:compEnvC sc (gC X.env.cells sc.names []) H2.objs.size X.env=(dQ X sc N' B).env:=by subst hB;rfl
  have exB:(dQ X sc N' B).ex=fp:=by subst hB;rfl
  rw[eB]
  have stat:∀ {σ':St} {H':Hp} {s':Ag},Inv (dQ X sc N' B) [] σ' H' s'->(∀ b∈fp,H' b=none)->∀ b∈fp,gX (dQ X sc N' B) [] H' b:=fun {σ' H' s'} J' hn b hb=>by
   refine⟨hn b hb,(J'.ok.exf b (by rw[exB];exact hb)).1,J'.ok.exfs b (by rw[exB];exact hb),.inl (by rw[exB];exact hb),(J'.ok.exf b (by rw[exB];exact hb)).2,fun p hp=>absurd (show p∈([]:List (Addr×Obj)) from hp) (by simp)⟩
  have fp0:∀ b∈fp,(aS H s.heap.objs.size (.lst [])) b=none:=fun b hb=>by
   obtain⟨o,e,_⟩:=T.obj 0 _ st b hb
   rw[bF (Bg (Ap e))]
   exact(hf b hb).1
  refine SU (fun n s'=>∃ i σ' acc H',Inv (dQ X sc N' B) [] σ' H' s'/\tn i s'.heap/\(∀ b∈fp,H' b=none)/\W i n σ' acc H') ?_ m0 ⟨0,_,[],_,IB,st1,fp0,w0⟩
  rintro n s3 ⟨i,σ3,acc,H3,I3,st3,fr3,w3⟩
  rcases turn i n σ3 acc H3 w3 with⟨stop,qn⟩ | ⟨go,N,hN,step⟩
  ·refine a7 (T.done (dQ X sc N' B) rfl rfl rfl hc i [] s3 σ3 H3 (fun _ _=>False) I3 (stat I3 fr3) st3 stop) fun r s4 ⟨hr,I4⟩=>?_
   subst hr
   obtain⟨m4,hn4,_⟩:=I4.loc
   have u4:Un (iG X.stack) fp H H3 s.heap s4.heap:=by have:=I4.base;subst hB;exact this
   have o4:s4.os=s.os:=by have:=I4.os;subst hB;exact this
   have c4:(dQ X sc N' B).env.locals=H2.objs.size:=by subst hB;rfl
   have hIX:Inv X pins σ H3 s4:=I.call' (ch:=fp) o4 u4 I4.hok I4.bare fun b hb=>⟨(hf b hb).2.2.2.1,(hf b hb).2.1,(hf b hb).2.2.2.2.1,(hf b hb).2.2.2.2.2⟩
   exact hRR _ _ H3 s4 m4 hIX (I.fpOk hCle (by rw[<-c4];exact I4.free)) (by rw[<-c4];exact hn4) qn
  ·refine a7 (T.item (dQ X sc N' B) rfl rfl rfl hc i [] s3 σ3 H3 (fun _ _=>False) I3 (stat I3 fr3) st3 go) fun r s4 ⟨u,hr,h4⟩=>?_
   subst hr
   refine a7 h4 fun _ s5 ⟨x,H5,I5,r5,y5,st5,fr5⟩=>?_
   have I5':=I5.pinned (stat I5 fr5) (T.obj _ _ st5)
   refine a7 (hg B _ s5 σ3 H5 x u _ I5' r5 (step x H5 y5)) fun _ s6 ⟨σ6,H6,I6,q6⟩=>?_
   refine a7 (ht B _ s6 σ6 H6 _ I6 q6) fun ok s7 ⟨H7,I7,q7⟩=>?_
   have again:∀ {H8:Hp} {s8:Ag} {acc':List V},Inv (dQ X sc N' B) ([] ++ qA fp s5.heap) σ6 H8 s8->(∃ m',m' < n/\W (i + 1) m' σ6 acc' H8)->∃ m,m < n/\∃ i σ' acc H',Inv (dQ X sc N' B) [] σ' H' s8/\tn i s8.heap/\(∀ b∈fp,H' b=none)/\W i m σ' acc H':=
    fun {H8 s8 acc'} I8 ⟨m',hm,w8⟩=>by
     refine⟨m',hm,i + 1,σ6,acc',H8,I8.unpinned,T.keep _ _ _ st5 fun b hb o e=>(I8.pin (b,o) (Ca _ (Ca _ (sH hb e)))).1,fun b hb=>?_,w8⟩
     obtain⟨o,e,d⟩:=T.obj _ _ st5 b hb
     exact(I8.pin (b,o) (Ca _ (Ca _ (sH hb e)))).2.1
   cases ok with
   | false=>
    rw[if_neg Ao] at q7
    rw[if_neg Ao]
    exact again I7 (hN _ _ _ q7)
   | true=>
    rw[if_pos rfl] at q7
    rw[if_pos rfl]
    refine a7 (he B _ s7 σ6 H7 _ I7 q7) fun y s8 ⟨z,H8,I8,r8,hp8,hl8,q8⟩=>?_
    exact a7 (EH _ s8 σ6 H8 (.ref s.heap.objs.size) [z] (.ref s.heap.objs.size) [y] (fun _ H9=>N σ6 (acc ++ [z]) H9) I8 rfl (.cons r8 .nil) ⟨_,acc,z,rfl,rfl,hp8,hl8,q8⟩) fun _ s9 ⟨_,H9,I9,_,q9⟩=>again I9 (hN _ _ _ q9)
 exact codeAny_compStart_list (loop _ rfl) (T.self _ 0 _ _ _ st1 (loop _ rfl))
theorem S4(N':List Str)(js:List (Option Nat))(hi:PI X tg iter wi)
  (hg:∀ B,PG (dQ X sc N' B) tg (g B)) (ht:∀ B,iT (dQ X sc N' B) ifs (tt B)) (he:∀ B,PE (dQ X sc N' B) elt (te B))
  (S0:nF N' sc X.env.scope=true:=by kernel_rfl) (hj:fE N' X.N sc js N'=true:=by kernel_rfl) (hc:X.calm=true:=by rfl) (hs:∀ x,Gq iter X.env x=pure x:=by intro _;rfl):PE X (.ListComp elt [⟨tg,iter,ifs,0⟩] sc pos) (wH wi g tt te js):=by
 intro pins s σ H Q I h
 have S:=nE.of S0
 rw[eval_ListComp]
 refine wpAny_comprehension_free (use:=none) rfl hs (EY (wD S I)) S.kind S.loc (a7 (hi pins s σ H _ I h) fun xv s₁ h₁=>a7 h₁ fun itv s₂ h₂=>?_)
 obtain⟨it,fp,tn,J,H2,e,I2,T,st2,f2,hw⟩:=h₂
 subst e
 refine EZ (RR:=fun acc C=>compPost (Bn X.prog X.w) X.A X.xe none (EP X pins σ Q) acc C) S hj hc hg ht he I2 T st2 f2 hw ?_
 intro p C H' s' m I' fC hn q
 refine⟨m,hn,fun h' hs'=>⟨.ref p,H',?_,rfl,q⟩⟩
 exact I'.turned (t':=s'.toks) (fun b o hb e=>(hs'.2 b hb).trans e) fC.1 fC.2.1 fC.2.2.2.1 fC.2.2.2.2.1 fC.2.2.2.2.2
theorem S5{i:Nat}{x:Str}{px spos:Pos}(hN:X.N.Nodup)(hi0:X.N[i]? = some x)(hx:Loc X.env.scope x)(N':List Str)(js:List (Option Nat))(hi:PI X tg iter wi)
  (hg:∀ B,PG (dQ X sc N' B) tg (g B)) (ht:∀ B,iT (dQ X sc N' B) ifs (tt B)) (he:∀ B,PE (dQ X sc N' B) elt (te B))
  (S0:nF N' sc X.env.scope=true:=by kernel_rfl) (hj:fE N' X.N sc js N'=true:=by kernel_rfl) (hc:X.calm=true:=by rfl) (hsw:Jf (.ListComp elt [⟨tg,iter,ifs,0⟩] sc pos) (some (.Name x px)) spos.line X.env=pure true:=by rfl)
  (hf:X.fn x=true\/X.env.scope.names.lookup x=some .local:=by first | exact .inl rfl | exact .inr rfl | assumption)
  (hs:∀ x,Gq iter X.env x=pure x:=by intro _;rfl):PS X (.Assign [.Name x px] (.ListComp elt [⟨tg,iter,ifs,0⟩] sc pos) spos) (sF (wH wi g tt te js) (vR i)):=by
 intro pins s σ H D I h
 have S:=nE.of S0
 rw[exec_Assign_Name_used _ _ _ _ hsw]
 refine Aa (Nf (Aa ?_))
 show Bc _ X.A (do let _ <-comprehension (.ListComp elt [⟨tg,iter,ifs,0⟩] sc pos) sc X.env _ (newList []) false (eval iter X.env) (some (Lg (.Name x px) X.env))) _ _ s
 refine Aa (Ij (wpAny_comprehension_free (use:=some (Lg (.Name x px) X.env)) (Q:=fun _ s'=>SP X pins D .next s') rfl hs (EY (wD S I)) S.kind S.loc
  (a7 (hi pins s σ H _ I h) fun xv s₁ h₁=>a7 h₁ fun itv s₂ h₂=>?_)) (fun _ s' hq=>Ah (Ah hq)) fun _ _ e=>e)
 obtain⟨it,fp,tn,J,H2,e,I2,T,st2,f2,hw⟩:=h₂
 subst e
 refine EZ (RR:=fun acc C=>compPost (Bn X.prog X.w) X.A X.xe (some (Lg (.Name x px) X.env)) (fun _ s'=>SP X pins D .next s') acc C) S hj hc hg ht he I2 T st2 f2 hw ?_
 intro p C H' s' m I' fC hn q
 show Bc _ X.A (Lg (.Name x px) X.env (.ref p)) _ _ _
 refine wpAny_assign_Name (DJ I' hN hi0 hx (v:=.ref p) rfl (fun s'' I'' ⟨a,sb,ha⟩=>?_) hf)
 have hCa:C≠a:=by
  rcases ha with e | e
  ·rw[e];exact fC.2.1
  ·exact fun z=>fC.2.2.2.2.1 x a e z.symm
 refine⟨m,hn.sameBut sb hCa,fun h' hs'=>⟨_,H',?_,q⟩⟩
 exact I''.turned (t':=s''.toks) (fun b o hb e=>(hs'.2 b hb).trans e) fC.1 fC.2.1 fC.2.2.2.1 fC.2.2.2.2.1 fC.2.2.2.2.2
end
section
variable {g:TG}{tt:TT}{te:TE}{p:Addr}{σ₀:St}{H1:Hp}{Q:VK}
theorem S6{J:It}(n:Nat)(Pv:Nat->St->List V->Hp->Prop)(h0:Pv 0 σ₀ [] (aS H1 p (.lst [])))(hd:∀ σ acc H,Pv n σ acc H->J.stop n H/\Q (.ref p) H)
  (hs:∀ i σ acc H,i < n->Pv i σ acc H->J.go i H/\∀ x H',J.yld i H x H'->g x σ H' fun σ2 H2=>tt σ2 H2 fun b H3=>
   if b=true then te σ2 H3 fun y H4=>H4 p=some (.lst acc)/\acc.length < Am/\Pv (i + 1) σ2 (acc ++ [y]) (aS H4 p (.lst (acc ++ [y]))) else Pv (i + 1) σ2 acc H3):wF J g tt te p σ₀ H1 Q:=by
 refine⟨fun i m σ acc H=>m=n - i/\i<=n/\Pv i σ acc H,⟨n,by simp,Bv _,h0⟩,?_⟩
 rintro i m σ acc H ⟨rfl,hi,q⟩
 by_cases hlt:i < n
 ·obtain⟨hg,hy⟩:=hs i σ acc H hlt q
  exact .inr ⟨hg,Pv (i + 1),fun σ2 acc' H' q'=>⟨n - (i + 1),by omega,rfl,hlt,q'⟩,hy⟩
 ·have e:i=n:=by omega
  subst e
  exact .inl (hd σ acc H q)
end
section
variable {X:Cx}
theorem E1{i:Int}(h:i.natAbs < 2 ^ 4096):Builtin.Int.intBits i<=2 ^ 20:=by
 unfold Builtin.Int.intBits
 split
 ·exact Bv _
 ·rename_i h0
  have hn:i.natAbs≠0:=by
   intro z
   have:i=0:=Int.natAbs_eq_zero.mp z
   rw[this] at h0
   exact h0 rfl
  have:i.natAbs.log2 < 4096:=(Nat.log2_lt hn).mpr h
  have e:(2:Nat) ^ 20=1048576:=by decide
  lia
def sX(i j:Int):Prop:=i.natAbs < 2 ^ 4096/\j.natAbs < 2 ^ 4096
theorem S7:bG X (Fh .Mult) (rI sX fun i j=>.int (i * j)):=qD fun _ _ _ _ _ _ _ hc q=>mul_int q (IntMulOk.of_bits (E1 hc.1) (E1 hc.2))
def E2(i j:Int):Prop:=0 < j/\j < 2 ^ 4096
theorem S8:bG X (Fh .FloorDiv) (rI E2 fun i j=>.int (i / j)):=qD fun i j _ _ _ _ _ hc q=>by
 refine floordiv_int (by have:=hc.1;lia) ?_ (.inl (PyProof.noPylong_of_log2 ?_))
 ·rw[Int.fdiv_eq_ediv_of_nonneg _ (Int.le_of_lt hc.1)];exact q
 ·have h0:j.natAbs≠0:=by have:=hc.1;lia
  have h1:j.natAbs < 2 ^ 4096:=by
   have a:=hc.1
   have b:=hc.2
   lia
  have:=(Nat.log2_lt h0).mpr h1
  lia
theorem S9:dE X (.builtin "isinstance") (fun xs H Q=>∃ x T t b,xs=[x,.ty T]/\iH X.K H x t/\Ip X.K t (.type T)=some b/\Q (.bl b) H):=by
 intro pins s σ H xs us Q I r h
 obtain⟨x,T,t,b,rfl,ty,e,q⟩:=h
 obtain⟨u,w',rfl,ru,rw'⟩:=vals2 r
 cases (show w'=Value.type T from rw')
 exact P0 I ru ty e fun tk=>⟨.bl b,H,I.tok _,rfl,q⟩
def wI(z:Str):It:=⟨fun i _=>i < z.cps.size,fun i H x H'=>H'=H/\∃ c,z.cps.toList[i]? = some c/\x=.str ⟨#[c]⟩,fun i _=>z.cps.size<=i⟩
theorem E4{P:Bq}{w:Cj}{K:Ac}{x:Str}{px:Pos}(z:Str)(it:Addr)(ty:String)(tk0:Tok)
  (nx:∀ (A:Co) (s:Ag) (i c:Nat) (Q:Option Ae->Ag->Prop) (E:Ae->Ag->Prop),s.heap.IsStrIter it ty z tk0 i->z.cps[i]? = some c->
   (∀ h',h'.IsStrIter it ty z tk0 (i + 1)->Ff it s.heap h'->Q (some (.str ⟨#[c]⟩ s.toks)) {s with heap:=h',toks:=s.toks + 1})->Bc (Bn P w) A (Gz (.ref it)) Q E s)
  (en:∀ (A:Co) (s:Ag) (i:Nat) (Q:Option Ae->Ag->Prop) (E:Ae->Ag->Prop),A.handled=none->s.heap.IsStrIter it ty z tk0 i->z.cps[i]? = none->
   (∀ h',Md it s.heap h'->Q none {s with heap:=h'})->Bc (Bn P w) A (Gz (.ref it)) Q E s)
  (slf:∀ (A:Co) (i:Nat) (s:Ag) (Q:Ae->Ag->Prop) (E:Ae->Ag->Prop),s.heap.IsStrIter it ty z tk0 i->Q (.ref it) s->Bc (Bn P w) A (pyIter (.ref it)) Q E s) :
  i0 P w K (.Name x px) (wI z) [it] it (fun i h=>h.IsStrIter it ty z tk0 i) where
 mem:=by simp
 obj:=fun i h st b hb=>by
  have e:b=it:=by simpa using hb
  subst e
  obtain⟨o,ho,_,hd⟩:=st
  exact⟨o,ho,fun v q=>by rw[hd] at q;cases q⟩
 keep:=fun i h h' st k=>by
  obtain⟨o,ho,r⟩:=st
  exact⟨o,k it (by simp) o ho,r⟩
 item:=by
  intro X hP hw hK hc i pins s σ H E I hf st hg
  subst hP hw hK
  obtain⟨f0,f1,f2,f3,f4,f5⟩:=hf it (by simp)
  have hi:z.cps[i]? = some z.cps[i]:=Kg hg
  refine nx X.A s i _ _ _ st hi fun h' st' sb=>?_
  have I1:Inv X pins σ H {s with heap:=h',toks:=s.toks + 1}:=I.turned (fun b o hb e=>(sb.2 b hb).trans e) f0 f1 f3 f4 f5
  exact⟨_,rfl,Ah ⟨.str ⟨#[z.cps[i]]⟩,H,I1,⟨_,rfl⟩,⟨rfl,z.cps[i],by rw[Hg];exact hi,rfl⟩,st',fun b hb=>(hf b hb).1⟩⟩
 done:=by
  intro X hP hw hK hc i pins s σ H E I hf st hg
  subst hP hw hK
  obtain⟨f0,f1,f2,f3,f4,f5⟩:=hf it (by simp)
  have hg':z.cps.size<=i:=hg
  exact en X.A s i _ _ (I.ok.hd hc) st (Array.getElem?_eq_none hg') fun h' eb=>⟨rfl,I.turned (t':=s.toks) (fun b o hb e=>eb b o hb e) f0 f1 f3 f4 f5⟩
 self:=slf
theorem E5{prog:Bq}{w:Cj}{A:Co}{E:Ae->Ag->Prop}{it l:Addr}{items:Array Ae}(hne:l≠it):∀ (n i:Nat) (s:Ag) (Q:List Ae->Ag->Prop),s.heap.IsListIter it l i->s.heap.IsList l items->i + n<=items.size->
  (∀ h',h'.IsListIter it l (i + n)->Ff it s.heap h'->Q ((items.toList.drop i).take n) {s with heap:=h'})->Bc (Bn prog w) A (draw (.ref it) n) Q E s
 | 0,i,s,Q,hit,_,_,hQ=>by
  show Bc _ _ (pure []) Q E s
  exact Ah (by simpa using hQ s.heap hit (Heap.SameBut.refl ..))
 | n + 1,i,s,Q,hit,ht,hle,hQ=>by
  have hlt:i < items.size:=by lia
  show Bc _ _ (Gz (.ref it) >>= _) Q E s
  refine Aa (wpAny_pyNext_list_item hit ht (x:=items[i]) (by simp[hlt]) fun h₁ hit₁ hs₁=>?_)
  refine Aa (Dg (E5 hne n (i + 1) _ _ hit₁ (ht.extBut hs₁.extBut hne) (by lia) fun h₂ hit₂ hs₂=>Ah ?_))
  have hd:items.toList.drop i=items[i] :: items.toList.drop (i + 1):=by simp[Fi,hlt]
  have:=hQ h₂ (by rw[show i + (n + 1)=i + 1 + n by lia];exact hit₂) (hs₁.trans hs₂)
  rw[hd,List.take_succ_cons] at this
  exact this
theorem TB{prog:Bq}{w:Cj}{A:Co}{E:Ae->Ag->Prop}{s:Ag}{t:Addr}{items:Array Ae}{targets:List (Bool×(Ae->Sem Unit))}{Q:Unit->Ag->Prop}(hh:A.handled=none)(ht:s.heap.IsList t items)
  (hn:targets.length=items.size) (hstar:targets.findIdx? (·.1)=none)
  (h:∀ h',Md s.heap.objs.size s.heap h'->Bc (Bn prog w) A (assignInOrder (targets.map (·.2)) items.toList) Q E {s with heap:=h'}) :
  Bc (Bn prog w) A (unpack (.ref t) targets) Q E s:=by
 have hlt:t≠s.heap.objs.size:=by obtain⟨o,ho,_⟩:=ht;exact Bg (Ap ho)
 unfold unpack
 rw[hn,hstar]
 refine Aa (Dg ?_)
 unfold unpackItems
 refine Aa ?_
 unfold notIterableAtAll
 refine Aa (Jc ht.typeIs F.slot_list_iter.lookup ?_)
 refine Ah ?_
 simp only[Ds,if_false]
 refine Aa (Dg (La ht ?_))
 refine Aa (Dg (E5 hlt items.size 0 _ _ ⟨_,Az _ rfl,rfl,rfl⟩ (ht.push _) (by lia) fun h₁ hit₁ hs₁=>?_))
 have hall:List.take items.size (List.drop 0 items.toList)=items.toList:=by
  rw[Mc];exact Fd (by simp)
 rw[hall]
 rw[if_neg (by simp)]
 have ht₁:h₁.IsList t items:=(ht.push _).extBut hs₁.extBut hlt
 refine Aa (Dg (wpAny_pyNext_list_end hh hit₁ ht₁ (by simp) fun h₂ he₂=>?_))
 simp only[Option.isSome_none,Ds,if_false]
 refine Ah (h h₂ fun b o hb e=>he₂ b o hb (hs₁.extBut b o hb (Af _ e)))
def TC(K:Ac)(n:Nat)(t:jN):TG:=fun v σ H Q=>∃ a xs,v=.ref a/\bD K H a xs/\xs.length=n/\t xs σ H Q
theorem E6{es:List Expr}{k:Nat}{pos:Pos}{t:jN}{n:Nat}(hc:X.calm=true)(h:iZ X es t)
  (hn:(Gi es X.env).length=n:=by rfl) (hst:(Gi es X.env).findIdx? (·.1)=none:=by rfl):PG X (.Tuple es k pos) (TC X.K n t):=by
 intro pins s σ H v u Q I r hw
 obtain⟨a,xs,e1,hq,hl,hw⟩:=hw
 subst e1
 cases r
 obtain⟨its,rv,ht,hz⟩:=I.list hq
 rw[PyProof.Rows.assign_Tuple]
 refine Aa (Nf (TB (I.ok.hd hc) ht.isList (by simp[hn,<-hl,rv.length]) hst fun h' hx=>?_))
 have I1:Inv X pins σ H {s with heap:=h'}:=I.kept (t':=s.toks) fun b o e=>hx b o (Bg (Ap e)) e
 exact h pins _ σ H xs _ Q I1 (by simpa using rv) hw
end
section
variable {X:Cx}
def E7(d:Kt):Prop:=d.canLay0=true/\d.depth<=60
theorem sY:∀ {xs:List V} {us:List Ae},xs.length=us.length->(∀ (j:Nat) (u:Ae),us[j]? = some u->∃ x,xs[j]? = some x/\RelV x u)->aZ xs us
 | [],[],_,_=>.nil
 | [],_ :: _,h,_=>by simp at h
 | _ :: _,[],h,_=>by simp at h
 | x :: xs,u :: us,h,k=>by
  obtain⟨y,e,r⟩:=k 0 u rfl
  simp at e
  subst e
  exact .cons r (sY (by simpa using h) fun j v hv=>by
   obtain⟨y,e,r⟩:=k (j + 1) v (by simpa using hv)
   exact⟨y,by simpa using e,r⟩)
theorem E8:∀ {kvs:List (aD×V)} {vs:List (aD×Ae)} {j:Nat} {k:aD} {x:Ae},KV kvs vs->vs[j]? = some (k,x)->∃ v,kvs[j]? = some (k,v)
 | _,_,_,_,_,.nil,e=>by simp at e
 | _,_,0,_,_,.cons (a:=p) r _,e=>by
  simp at e
  subst e
  exact⟨p.2,by obtain⟨a,b⟩:=p;cases r.1;rfl⟩
 | _,_,j + 1,k,x,.cons _ t,e=>by
  obtain⟨v,q⟩:=E8 (j:=j) (k:=k) (x:=x) t (by simpa using e)
  exact⟨v,by simpa using q⟩
theorem E9{k:aD}{v:Ae}(h:m8 k v=true):RelV (kV k) v:=by
 rcases kA h with⟨i,t,rfl,rfl⟩ | ⟨x,t,rfl,rfl⟩
 ·exact⟨t,rfl⟩
 ·exact⟨t,rfl⟩
theorem TF(hc:X.calm=true):dE X (.type "list") (fun xs H Q=>∃ d kvs,xs=[.ref d]/\H d=some (.dK kvs)/\∀ l,H l=none->Q (.ref l) (aS H l (.lst (kvs.map fun kv=>kV kv.1)))):=by
 intro pins s σ H xs us Q I r h
 obtain⟨d,kvs,rfl,hd,q⟩:=h
 obtain⟨u,rfl,ru⟩:=vals1 r
 cases ru
 obtain⟨hz,hne,vs,rkv,hD⟩:=(show cT X.prog X.w H s.heap d (.dK kvs) from I.hok d _ hd)
 obtain⟨ep,hat⟩:=hD.dictAt
 have hl:=rkv.length
 refine PySem.W.kdl_call (PySem.W.kdl_dict (knd:=c8 X.prog X.w) (kvs:=vs) (ep:=ep) hne) (I.ok.hd hc) hat (by rw[<-hl];exact hz) fun h' tk acc' c' hk hS hacc=>?_
 refine⟨.ref s.heap.objs.size,_,I.laid (o:=.lst (kvs.map fun kv=>kV kv.1)) (t':=tk) hk (Ai _) ⟨by rw[Ab];exact hz,acc'.toList,c',?_,by rw[Lx];exact hS⟩,rfl,q _ (I.hok.fresh (Ai _))⟩
 refine sY (by have h1:=hacc.1;have h2:acc'.toList.length=acc'.size:=Gp;have h3:(kvs.map fun kv=>kV kv.1).length=kvs.length:=Ab ..;lia) fun j v hv=>?_
 obtain⟨k,x,hx,hk'⟩:=hacc.2 j v (by rw[<-Hg];exact hv)
 obtain⟨y,hy⟩:=E8 rkv hx
 exact⟨kV k,by rw[Av,hy];rfl,E9 hk'⟩
theorem oQ{n:Nat}(i j:Nat)(h:i≠j):n + i≠n + j:=by lia
theorem sZ{n:Nat}(i:Nat)(h:i≠0):n + i≠n:=by lia
theorem FA{n:Nat}(i:Nat)(h:i≠0):n≠n + i:=by lia
theorem iI{n a:Nat}(i:Nat)(h:a < n):a≠n + i:=by lia
theorem tB{n a:Nat}(h:a < n):a≠n:=by lia
theorem FC{n:Nat}(i:Nat):n<=n + i:=by lia
def tD(K:Ac)(a b:Addr)(xs ys:List V):It:=
 ⟨fun i H=>bD K H a xs/\bD K H b ys/\i < xs.length/\i < ys.length,
   fun i H x H'=>∃ p u v,xs[i]? = some u/\ys[i]? = some v/\H p=none/\x=.ref p/\H'=aS H p (.tup [u,v]),
   fun i H=>bD K H a xs/\bD K H b ys/\(xs.length<=i\/ys.length<=i)⟩
theorem TH{P:Bq}{w:Cj}{K:Ac}{es:List Expr}{kx:Nat}{px:Pos}(a b z TI TO i1 i2:Addr)(xs ys:List V)(D:ZipApart z TI TO i1 i2 a b) :
  i0 P w K (.Tuple es kx px) (tD K a b xs ys) [z,TI,TO,i1,i2] z (fun i h=>Na h z TI TO .none/\Gv h TI (.ref i1) (.ref i2)/\(∃ c d,Gv h TO c d)/\h.IsListIter i1 a i/\h.IsListIter i2 b i) where
 mem:=by simp
 obj:=fun i h st c hc=>by
  obtain⟨h1,h2,⟨p,q,h3⟩,⟨o4,h4,_,h4d⟩,⟨o5,h5,_,h5d⟩⟩:=st
  simp only[Ar,Cq,or_false] at hc
  rcases hc with rfl | rfl | rfl | rfl | rfl
  ·exact⟨_,h1,fun v q=>by cases q⟩
  ·exact⟨_,h2,fun v q=>by cases q⟩
  ·exact⟨_,h3,fun v q=>by cases q⟩
  ·exact⟨_,h4,fun v q=>by rw[h4d] at q;cases q⟩
  ·exact⟨_,h5,fun v q=>by rw[h5d] at q;cases q⟩
 keep:=fun i h h' st k=>by
  obtain⟨h1,h2,⟨p,q,h3⟩,⟨o4,h4,r4⟩,⟨o5,h5,r5⟩⟩:=st
  exact⟨k z (by simp) _ h1,k TI (by simp) _ h2,⟨p,q,k TO (by simp) _ h3⟩,⟨o4,k i1 (by simp) _ h4,r4⟩,⟨o5,k i2 (by simp) _ h5,r5⟩⟩
 item:=by
  intro X hP hw hK hc i pins s σ H E I hf st hg
  subst hP hw hK
  obtain⟨h1,h2,⟨c,d,h3⟩,h4,h5⟩:=st
  obtain⟨hqa,hqb,hi,hj⟩:=hg
  obtain⟨its,rv,pl,hz⟩:=I.list hqa
  obtain⟨its2,rv2,pl2,hz2⟩:=I.list hqb
  obtain⟨u,hu,ru⟩:=rv.get (An hi)
  obtain⟨v,hv,rvv⟩:=rv2.get (An hj)
  refine wpAny_pyNext_zip_item D h1 h2 h3 h4 h5 pl.isList pl2.isList (x:=u) (y:=v) (by simpa using hu) (by simpa using hv) fun h' a1 a2 a3 a4 a5 a6 hk=>?_
  refine⟨_,rfl,wpAny_letOwnedTupleGo_zip a1 fun h'' z' sb=>?_⟩
  have hfr:H s.heap.objs.size=none:=I.hok.fresh (Ai _)
  have ltz:z < s.heap.objs.size:=Ap h1
  have ltO:TO < s.heap.objs.size:=Ap h3
  have lt1:i1 < s.heap.objs.size:=by obtain⟨_,e,_⟩:=h4;exact Ap e
  have lt2:i2 < s.heap.objs.size:=by obtain⟨_,e,_⟩:=h5;exact Ap e
  have keep2:∀ q o,q∉[z,TI,TO,i1,i2]->s.heap.get? q=some o->h''.get? q=some o:=fun q o hq e=>by
   simp only[Ar,Cq,or_false,not_or] at hq
   exact(sb.2 q hq.1).trans (hk q o hq.1 hq.2.2.1 hq.2.2.2.1 hq.2.2.2.2 e)
  have hp2:Gv h'' s.heap.objs.size u v:=(sb.2 _ (Ct ltz)).trans a5
  have nfp:∀ q∈[z,TI,TO,i1,i2],H q=none:=fun q hq=>(hf q hq).1
  have I1:Inv X pins σ (aS H s.heap.objs.size (.tup [xs[i],ys[i]])) {s with heap:=h''}:=by
   refine I.step (g':=s.gens) (d':=s.drawn) (t':=s.toks) (ch:=[z,TI,TO,i1,i2]) (fun q hq=>⟨(hf q hq).2.2.2.1,(hf q hq).2.1,(hf q hq).2.2.2.2.1,(hf q hq).2.2.2.2.2⟩)
    (fun q o _ _ hc e _=>keep2 q o hc e) (fun q o _ _ hc e _=>⟨o.slots,keep2 q o hc e⟩) (fun q o _ e n=>by rw[bF (Bg (Ap e))];exact n)
    (fun q o hc e=>⟨o,keep2 q o hc e⟩) (fun q zs e=>by rw[bF (eE e hfr)];exact e) (fun q o zs e=>by rw[bF (eE e hfr)];exact e) (fun q ps e=>⟨#[],by rw[bF (eE e hfr),e];simp⟩) (fun m hm=>?_) ?_ I.bare
   ·obtain⟨o,es,ep,ho,r⟩:=hm
    exact⟨o,es,ep,keep2 _ o (fun z=>absurd rfl (hf _ z).2.1) ho,r⟩
   ·intro q o e
    by_cases hq:q=s.heap.objs.size
    ·subst hq
     rw[cJ] at e;cases e
     exact⟨by show 2<=Am;decide,[u,v],.cons ru (.cons rvv .nil),⟨_,hp2,rfl,_,rfl⟩⟩
    ·rw[bF hq] at e
     refine(I.hok q o e).stay (fun t w' ht qq=>keep2 t w' (fun z=>?_) qq) (fun t qq=>by rw[bF (eE qq hfr)];exact qq) fun t zs qq=>by rw[bF (eE qq hfr)];exact qq
     have n0:=nfp t z
     rcases ht with rfl | ht
     ·rw[n0] at e;cases e
     ·rw[n0] at ht;cases ht
  refine⟨.ref s.heap.objs.size,_,I1,rfl,⟨s.heap.objs.size,xs[i],ys[i],An hi,An hj,hfr,rfl,rfl⟩,⟨z',(sb.2 _ D.TIz).trans (hk _ _ D.TIz D.TITO D.TIi1 D.TIi2 h2),⟨u,v,(sb.2 _ D.TOz).trans a2⟩,a3.extBut sb.extBut D.i1z,a4.extBut sb.extBut D.i2z⟩,fun q hq=>?_⟩
  rw[bF]
  ·exact nfp q hq
  ·intro e
   subst e
   have:H s.heap.objs.size=none:=hfr
   simp only[Ar,Cq,or_false] at hq
   have ltI:TI < s.heap.objs.size:=Ap h2
   rcases hq with e | e | e | e | e
   ·exact Ct ltz e
   ·exact Ct ltI e
   ·exact Ct ltO e
   ·exact Ct lt1 e
   ·exact Ct lt2 e
 done:=by
  intro X hP hw hK hc i pins s σ H E I hf st hg
  subst hP hw hK
  obtain⟨h1,h2,⟨c,d,h3⟩,h4,h5⟩:=st
  obtain⟨hqa,hqb,hij⟩:=hg
  obtain⟨its,rv,pl,hz⟩:=I.list hqa
  obtain⟨its2,rv2,pl2,hz2⟩:=I.list hqb
  have l1:=rv.length
  have l2:=rv2.length
  refine wpAny_pyNext_zip_end (I.ok.hd hc) D h1 h2 h3 h4 h5 pl.isList pl2.isList (hij.elim (fun q=>.inl (by simp;lia)) fun q=>.inr (by simp;lia)) fun h' hk=>⟨rfl,?_⟩
  have keep2:∀ q o,q∉[z,TI,TO,i1,i2]->s.heap.get? q=some o->h'.get? q=some o:=fun q o hq e=>by
   simp only[Ar,Cq,or_false,not_or] at hq
   exact hk q o hq.1 hq.2.2.1 hq.2.2.2.1 hq.2.2.2.2 e
  have nfp:∀ q∈[z,TI,TO,i1,i2],H q=none:=fun q hq=>(hf q hq).1
  refine I.step (g':=s.gens) (d':=s.drawn) (t':=s.toks) (ch:=[z,TI,TO,i1,i2]) (fun q hq=>⟨(hf q hq).2.2.2.1,(hf q hq).2.1,(hf q hq).2.2.2.2.1,(hf q hq).2.2.2.2.2⟩)
    (fun q o _ _ hc e _=>keep2 q o hc e) (fun q o _ _ hc e _=>⟨o.slots,keep2 q o hc e⟩) (fun q o _ e n=>n)
    (fun q o hc e=>⟨o,keep2 q o hc e⟩) (fun q zs e=>e) (fun q o zs e=>e) (fun q ps e=>⟨#[],by rw[e];simp⟩) (fun m hm=>?_) ?_ I.bare
  ·obtain⟨o,es,ep,ho,r⟩:=hm
   exact⟨o,es,ep,keep2 _ o (fun z=>absurd rfl (hf _ z).2.1) ho,r⟩
  ·intro q o e
   refine(I.hok q o e).stay (fun t w' ht qq=>keep2 t w' (fun z=>?_) qq) (fun t qq=>qq) fun t zs qq=>qq
   have n0:=nfp t z
   rcases ht with rfl | ht
   ·rw[n0] at e;cases e
   ·rw[n0] at ht;cases ht
 self:=fun _ _ _ _ _ st h=>Lp st.1 h
theorem TJ:Cp "zip" = some (.type "zip"):=by decide +kernel
end
section
variable {X:Cx}
def wJ(K:Ac)(a:Addr)(xs:List V):It:=
 ⟨fun i H=>bD K H a xs/\i < xs.length,
   fun i H x H'=>∃ p u,xs[i]? = some u/\H p=none/\x=.ref p/\H'=aS H p (.tup [.int (i:Nat),u]),
   fun i H=>bD K H a xs/\xs.length<=i⟩
theorem Inv.laidT{pins:List (Addr×Obj)}{σ:St}{H:Hp}{s:Ag}{fp:List Addr}{h'':Heap}{tk:Nat}{xs:List V}{its:List Ae}(I:Inv X pins σ H s)(hf:∀ b∈fp,gX X pins H b)
  (keep2:∀ q o,q∉fp->s.heap.get? q=some o->h''.get? q=some o) (hz:xs.length<=Am) (rv:aZ xs its) (hp2:h''.get? s.heap.objs.size=some {cls:=.type "tuple",data:=.seq its.toArray}) :
  Inv X pins σ (aS H s.heap.objs.size (.tup xs)) {s with heap:=h'',toks:=tk}:=by
 have hfr:H s.heap.objs.size=none:=I.hok.fresh (Ai _)
 have nfp:∀ q∈fp,H q=none:=fun q hq=>(hf q hq).1
 refine I.step (g':=s.gens) (d':=s.drawn) (t':=tk) (ch:=fp) (fun q hq=>⟨(hf q hq).2.2.2.1,(hf q hq).2.1,(hf q hq).2.2.2.2.1,(hf q hq).2.2.2.2.2⟩)
  (fun q o _ _ hc e _=>keep2 q o hc e) (fun q o _ _ hc e _=>⟨o.slots,keep2 q o hc e⟩) (fun q o _ e n=>by rw[bF (Bg (Ap e))];exact n)
  (fun q o hc e=>⟨o,keep2 q o hc e⟩) (fun q zs e=>by rw[bF (eE e hfr)];exact e) (fun q o zs e=>by rw[bF (eE e hfr)];exact e) (fun q ps e=>⟨#[],by rw[bF (eE e hfr),e];simp⟩) (fun m hm=>?_) ?_ I.bare
 ·obtain⟨o,es,ep,ho,r⟩:=hm
  exact⟨o,es,ep,keep2 _ o (fun z=>absurd rfl (hf _ z).2.1) ho,r⟩
 ·intro q o e
  by_cases hq:q=s.heap.objs.size
  ·subst hq
   rw[cJ] at e;cases e
   exact⟨hz,its,rv,⟨_,hp2,rfl,_,rfl⟩⟩
  ·rw[bF hq] at e
   refine(I.hok q o e).stay (fun t w' ht qq=>keep2 t w' (fun z=>?_) qq) (fun t qq=>by rw[bF (eE qq hfr)];exact qq) fun t zs qq=>by rw[bF (eE qq hfr)];exact qq
   have n0:=nfp t z
   rcases ht with rfl | ht
   ·rw[n0] at e;cases e
   ·rw[n0] at ht;cases ht
theorem Inv.turnedT{pins:List (Addr×Obj)}{σ:St}{H:Hp}{s:Ag}{fp:List Addr}{h'':Heap}{tk:Nat}(I:Inv X pins σ H s)(hf:∀ b∈fp,gX X pins H b)
  (keep2:∀ q o,q∉fp->s.heap.get? q=some o->h''.get? q=some o):Inv X pins σ H {s with heap:=h'',toks:=tk}:=by
 have nfp:∀ q∈fp,H q=none:=fun q hq=>(hf q hq).1
 refine I.step (g':=s.gens) (d':=s.drawn) (t':=tk) (ch:=fp) (fun q hq=>⟨(hf q hq).2.2.2.1,(hf q hq).2.1,(hf q hq).2.2.2.2.1,(hf q hq).2.2.2.2.2⟩)
   (fun q o _ _ hc e _=>keep2 q o hc e) (fun q o _ _ hc e _=>⟨o.slots,keep2 q o hc e⟩) (fun q o _ e n=>n)
   (fun q o hc e=>⟨o,keep2 q o hc e⟩) (fun q zs e=>e) (fun q o zs e=>e) (fun q ps e=>⟨#[],by rw[e];simp⟩) (fun m hm=>?_) ?_ I.bare
 ·obtain⟨o,es,ep,ho,r⟩:=hm
  exact⟨o,es,ep,keep2 _ o (fun z=>absurd rfl (hf _ z).2.1) ho,r⟩
 ·intro q o e
  refine(I.hok q o e).stay (fun t w' ht qq=>keep2 t w' (fun z=>?_) qq) (fun t qq=>qq) fun t zs qq=>qq
  have n0:=nfp t z
  rcases ht with rfl | ht
  ·rw[n0] at e;cases e
  ·rw[n0] at ht;cases ht
theorem TL{P:Bq}{w:Cj}{K:Ac}{es:List Expr}{kx:Nat}{px:Pos}(a e it:Addr)(xs:List V)(hne:e≠it) :
  i0 P w K (.Tuple es kx px) (wJ K a xs) [e,it] e (fun i h=>(∃ old,IsEnum h e it (i:Nat) old)/\h.IsListIter it a i) where
 mem:=by simp
 obj:=fun i h st c hc=>by
  obtain⟨⟨old,h1⟩,⟨o4,h4,_,h4d⟩⟩:=st
  simp only[Ar,Cq,or_false] at hc
  rcases hc with rfl | rfl
  ·exact⟨_,h1,fun v q=>by cases q⟩
  ·exact⟨_,h4,fun v q=>by rw[h4d] at q;cases q⟩
 keep:=fun i h h' st k=>by
  obtain⟨⟨old,h1⟩,⟨o4,h4,r4⟩⟩:=st
  exact⟨⟨old,k e (by simp) _ h1⟩,⟨o4,k it (by simp) _ h4,r4⟩⟩
 item:=by
  intro X hP hw hK hc i pins s σ H E I hf st hg
  subst hP hw hK
  obtain⟨⟨old,h1⟩,h4⟩:=st
  obtain⟨hqa,hi⟩:=hg
  obtain⟨its,rv,pl,hz⟩:=I.list hqa
  obtain⟨u,hu,ru⟩:=rv.get (An hi)
  refine wpAny_pyNext_enum_item h1 h4 pl.isList (x:=u) (by simpa using hu) hne fun h' a1 a2 a3 a4 hk=>?_
  refine⟨_,rfl,wpAny_letOwnedTupleGo_enum a1 fun h'' e' sb=>?_⟩
  have hfr:H s.heap.objs.size=none:=I.hok.fresh (Ai _)
  have lte:e < s.heap.objs.size:=Ap h1
  have lti:it < s.heap.objs.size:=by obtain⟨_,q,_⟩:=h4;exact Ap q
  have keep2:∀ q o,q∉[e,it]->s.heap.get? q=some o->h''.get? q=some o:=fun q o hq eq=>by
   simp only[Ar,Cq,or_false,not_or] at hq
   exact(sb.2 q hq.1).trans (hk q o hq.1 hq.2 eq)
  have hp2:h''.get? s.heap.objs.size=some {cls:=.type "tuple",data:=.seq [.int (i:Nat) s.toks,u].toArray}:=(sb.2 _ (Ct lte)).trans a3
  have I1:Inv X pins σ (aS H s.heap.objs.size (.tup [.int (i:Nat),xs[i]])) {s with heap:=h'',toks:=s.toks + 1}:=I.laidT (its:=[.int (i:Nat) s.toks,u]) hf keep2 (by show 2<=Am;decide) (.cons ⟨_,rfl⟩ (.cons ru .nil)) hp2
  refine⟨.ref s.heap.objs.size,_,I1,rfl,⟨s.heap.objs.size,xs[i],An hi,hfr,rfl,rfl⟩,⟨⟨u,by rw[Int.natCast_add];exact e'⟩,a2.extBut sb.extBut hne.symm⟩,fun q hq=>?_⟩
  rw[bF]
  ·exact(hf q hq).1
  ·intro eq
   subst eq
   simp only[Ar,Cq,or_false] at hq
   rcases hq with q | q
   ·exact Ct lte q
   ·exact Ct lti q
 done:=by
  intro X hP hw hK hc i pins s σ H E I hf st hg
  subst hP hw hK
  obtain⟨⟨old,h1⟩,h4⟩:=st
  obtain⟨hqa,hij⟩:=hg
  obtain⟨its,rv,pl,hz⟩:=I.list hqa
  have l1:=rv.length
  refine wpAny_pyNext_enum_end (I.ok.hd hc) h1 h4 pl.isList (by simp;lia) fun h' hk=>⟨rfl,?_⟩
  exact I.turnedT (tk:=s.toks) hf fun q o hq eq=>hk q o (fun z=>hq (by simp[z])) eq
 self:=fun _ _ _ _ _ st h=>by
  obtain⟨⟨old,h1⟩,_⟩:=st
  exact Lb h1 h
def TM(K:Ac)(ta:TA):TI:=fun σ H R=>ta σ H fun vs H1=>∃ a xs,vs=[.ref a]/\bD K H1 a xs/\R (wJ K a xs) H1
theorem TN{a:Expr}{ta:TA}{p pos:Pos}{es:List Expr}{kx:Nat}{px:Pos}(hg:Gl X "enumerate")(hm:X.mg "enumerate" = none)(ha:PA X [a] ta)(hs:Bi [a] X.env=[(false,eval a X.env)]:=by rfl) :
  PI X (.Tuple es kx px) (.Call (.Name "enumerate" p) [a] [] pos) (TM X.K ta):=by
 intro pins s σ H R I h
 refine Call_ (iY I hg hm boot_enumerate (Ck (a7 (ha pos pins s σ H _ I h) fun us s1 ⟨vs,H1,I1,r1,q1⟩=>?_) hs rfl))
 obtain⟨a,xs,rfl,hqa,q⟩:=q1
 obtain⟨u,rfl,ru⟩:=vals1 r1
 cases ru
 obtain⟨its,rv1,pl,hz⟩:=I1.list hqa
 refine call_enumerate_list pl.isList fun h' g1 g2 g3 k=>?_
 refine Lb g1 ?_
 refine⟨s1.heap.objs.size + 1,[s1.heap.objs.size + 1,s1.heap.objs.size],_,_,H1,rfl,I1.kept (t':=s1.toks) k,TL a _ _ xs (sZ 1 (by decide)),⟨⟨_,g1⟩,g2⟩,fun q hq=>?_,q⟩
 have hge:s1.heap.objs.size<=q:=by
  simp only[Ar,Cq,or_false] at hq
  rcases hq with e | e
  ·rw[e];exact FC 1
  ·rw[e];exact Ai _
 exact I1.fpOk hge (I1.hok.fresh hge)
end
abbrev zft:=aD×List aD
end L2
namespace L2
open PySem PySem.Spec PySem.W PyProof.Rows
section
variable {prog:Bq}{w:Cj}{A:Co}{E:Ae->Ag->Prop}{s:Ag}
theorem TQ{it d:Addr}{i ep:Nat}{es:Array Hu}{od:Obj}{Q:Option Ae->Ag->Prop}(hit:s.heap.IsKeyIter it d i es.size ep)(hod:s.heap.get? d=some od)(hdd:od.data=.dict es ep)(hi:i < es.size)
  (hQ:∀ h',h'.IsKeyIter it d (i + 1) es.size ep->Ff it s.heap h'->Q (some es[i].key) {s with heap:=h'}):Bc (Bn prog w) A (Gz (.ref it)) Q E s:=by
 have hT:=hit.typeIs
 obtain⟨o,ho,hc,hd⟩:=id hit
 have own:Builtin.Dict_items.ownsTuple "dict_keyiterator" = false:=by decide
 have nn:¬ ((Value.ref d == Value.none)=true):=Ao
 have up:(s.heap.update it (Obj.mapFields (·.setIfInBounds 1 (Hj ((i:Int) + 1))))).IsKeyIter it d (i + 1) es.size ep:=
  ⟨_,Eo _ ho (Obj.isFreed_of_fields (Kf hd _)),(Obj.cls_mapFields ..).trans hc,by rw[Kf hd];simp[Hj]⟩
 have uT:=up.typeIs (s:={s with heap:=s.heap.update it (Obj.mapFields (·.setIfInBounds 1 (Hj ((i:Int) + 1))))})
 unfold Gz
 refine Aa (Ho (Dr (name:=Dk "__next__") hT Er (Cz Er hT PySem.F.entry_dict_keyiterator_next ?_ (PySem.F.args_dict_keyiterator_next_1 _))))
 refine Aa (Ah (Aa (Aa ?_)))
 first | refine Aa (Hh hT (Ah ?_)) | refine Aa (Iz hT (Ah ?_))
 refine Aa (wpAny_fieldsOf ho hd ?_)
 rw[own,if_neg Ao]
 show Bc _ _ (if (Value.ref d == Value.none)=true then _ else _) _ _ _
 rw[if_neg nn]
 refine Aa (Ah (Aa (Hy hod hdd ?_)))
 rw[if_neg (by simp)]
 refine Aa (Ah (Aa (wpAny_dictEpoch hod hdd ?_)))
 rw[if_neg (by simp)]
 refine Ah ?_
 simp only[show ¬ ((i:Int) < 0) by omega,if_false,Dy,Kg hi]
 refine Aa ?_
 first | refine Aa (Hh hT (Ah ?_)) | refine Aa (Iz hT (Ah ?_))
 refine Aa (wpAny_isOneOf_keyiter hT ?_)
 show Bc _ _ (setField (.ref it) 1 (Hj ((i:Int) + 1)) >>= _) _ _ _
 refine Aa (My ho hd (by simp) (Aa (Dg (Aa (wpAny_isOneOf_keyiter uT ?_)))))
 show Bc _ _ (pure es[i].key) _ _ _
 exact Ah (Ah ⟨_,rfl,Ah (hQ _ up (Ex ..))⟩)
theorem TR{it d:Addr}{i ep:Nat}{es:Array Hu}{od:Obj}{Q:Option Ae->Ag->Prop}(hh:A.handled=none)(hit:s.heap.IsKeyIter it d i es.size ep)(hod:s.heap.get? d=some od)(hdd:od.data=.dict es ep)(hi:es.size<=i)
  (hQ:∀ h',Md it s.heap h'->Q none {s with heap:=h'}):Bc (Bn prog w) A (Gz (.ref it)) Q E s:=by
 have hT:=hit.typeIs
 obtain⟨o,ho,hc,hd⟩:=id hit
 have own:Builtin.Dict_items.ownsTuple "dict_keyiterator" = false:=by decide
 have nn:¬ ((Value.ref d == Value.none)=true):=Ao
 unfold Gz
 refine Aa (Ho (Dr (name:=Dk "__next__") hT Er (Cz Er hT PySem.F.entry_dict_keyiterator_next ?_ (PySem.F.args_dict_keyiterator_next_1 _))))
 refine Aa (Ah (Aa (Aa ?_)))
 first | refine Aa (Hh hT (Ah ?_)) | refine Aa (Iz hT (Ah ?_))
 refine Aa (wpAny_fieldsOf ho hd ?_)
 rw[own,if_neg Ao]
 show Bc _ _ (if (Value.ref d == Value.none)=true then _ else _) _ _ _
 rw[if_neg nn]
 refine Aa (Ah (Aa (Hy hod hdd ?_)))
 rw[if_neg (by simp)]
 refine Aa (Ah (Aa (wpAny_dictEpoch hod hdd ?_)))
 rw[if_neg (by simp)]
 refine Ah ?_
 simp only[show ¬ ((i:Int) < 0) by omega,if_false,Dy,Array.getElem?_eq_none hi]
 refine Aa ?_
 first | refine Aa (Hh hT (Ah ?_)) | refine Aa (Iz hT (Ah ?_))
 show Bc _ _ (setField (.ref it) 0 .none >>= _) _ _ _
 refine Aa (My ho hd (by simp) ?_)
 show Bc _ _ (newExc (.type "StopIteration") [] >>= _) _ _ _
 refine Aa ?_
 simp only[newExc,newTuple]
 refine Aa (Dc (Aa (m:=Jl _ _) (Ge (a:=Value.none) (by first | rfl | (simp only[Jl];rfl)) (Dc ?_ (by size_fits)))) (by size_fits))
 simp only[raiseNew]
 refine Aa (wpAny_handled ?_)
 rw[show A.in1.handled=none from hh]
 refine Aa (Ah (wpAny_throw ?_))
 refine Aa (Gy (T:="StopIteration") (b:=true) ⟨_,Az _ rfl,rfl⟩ isSubtype_stop ?_)
 exact Ah (hQ _ (((Ex ..).extBut.push _).push _))
def qI(h:Heap)(a:Addr)(es:Array Hu)(ep:Nat):Prop:=∃ o,h.get? a=some o/\o.ExactDict/\o.data=.dict es ep
theorem qI.typeIs{d:Addr}{es:Array Hu}{ep:Nat}(h:qI s.heap d es ep):s.TypeIs (.ref d) "dict":=let ⟨o,ho,hc,_⟩:=h;⟨o,ho,hc.1⟩
theorem FD{d:Addr}{es:Array Hu}{ep:Nat}{Q:Ae->Ag->Prop}(hd:(d == Fx)=false)(hm:qI s.heap d es ep)
  (hQ:Q (.ref s.heap.objs.size) {s with heap:=s.heap.push {cls:=.type "dict_keyiterator",data:=.fields #[.ref d,.int 0 0,.int es.size 0,.int ep 0]}}):Bc (Bn prog w) A (pyIter (.ref d)) Q E s:=by
 have hT:=hm.typeIs
 obtain⟨o,ho,hc,hdat⟩:=hm
 refine wpAny_pyIter_slot hT PySem.F.slot_dict_iter (Cz PySem.F.slot_dict_iter hT PySem.F.entry_dict_iter ?_ (PySem.F.args_dict_iter_1 _))
 unfold Gx.«dict.__iter__»
 refine Aa ?_
 unfold Builtin.Dict.dictSlotNone
 refine Aa (Hv hT (Ah ?_))
 show Bc _ _ (Builtin.Dict.showsAll d >>= _) _ _ _
 unfold Builtin.Dict.showsAll
 rw[if_neg (by rw[hd];exact Ao)]
 refine Aa (Ah (Aa (Hy ho hdat (Aa (wpAny_dictEpoch ho hdat ?_)))))
 refine Aa (Dc (Ah ⟨_,rfl,"dict_keyiterator",_,⟨_,Az _ rfl,rfl⟩,Er.lookup,?_⟩))
 simpa [Hj] using hQ
end
end L2
namespace PySem
namespace Rv
open PyProof.Rows L2 PySem.Spec
theorem TU:TypeCalled "reversed" "reversed.__new__" "object.__init__":=
 ⟨by decide +kernel,by decide +kernel,⟨_,_,F.mro_reversed⟩,madeBy_type F.mro_reversed F.lookup_reversed_new (by decide +kernel),by decide +kernel,F.sub_reversed_self,
  .of (owner:="object") (n:="__init__") (by rw[Gm,Ew];kernel_rfl) (by decide +kernel) (by decide +kernel) (by decide +kernel) (by first | exact .inl (by decide +kernel) | exact .inr (by decide +kernel)) (by rw[Kr];kernel_rfl)⟩
theorem TV:typeLookup (.type "tuple") "__reversed__" = pure none:=by rw[Gm,Ew];kernel_rfl
def rvObj(t:Addr)(i:Int):Obj:={cls:=.type "reversed",data:=.fields #[.ref t,Hj i]}
theorem TX(t:Addr)(items:Array Ae) :
  Meets (Gx.«reversed.__new__» ⟨[.type "reversed",.ref t],[]⟩) (fun _ R s=>s.heap.IsTuple t items/\items.size<=Am/\
   ∀ tk',R (.ok (.ret (.ref s.heap.objs.size))) {s with toks:=tk',heap:=s.heap.push (rvObj t ((items.size:Int) - 1))}):=
 .of_wp fun prog w A R s h=>by
  obtain⟨hp,g,d,tk,os⟩:=s
  obtain⟨ht,hz,h⟩:=h
  have hty:=Heap.IsTuple.typeIs (s:=⟨hp,g,d,tk,os⟩) ht
  unfold Gx.«reversed.__new__»
  refine Aa (Ge (newClass_reversed _) (by
   dsimp only
   refine Aa (Ge (a:=()) rfl (Aa (Ge (a:=()) (by first | rfl | kernel_rfl) ?_)))
   try dsimp only
   refine Aa (Jc hty TV (Aa ?_))
   wp_delta
   refine Aa (Gy (T:="tuple") (b:=false) hty (by rw[Kr];kernel_rfl) ?_)
   try dsimp only
   rw[if_neg (by decide)]
   refine Aa (Jc hty F.slot_tuple_getitem.lookup ?_)
   generalize hid:("tuple.__getitem__" : String)=id0
   dsimp only
   rw[if_pos (by subst hid;decide +kernel)]
   refine Ah ?_
   rw[if_neg (by decide)]
   refine Aa (len_tuple (s:=⟨hp,g,d,tk,os⟩) (t:=t) (items:=items) ht (by have:=jO;omega) (Aa (Ge (a:=some (items.size:Int)) rfl (Aa (m:=Builtin.SmallTypes.newRecord _ _) ?_))))
   unfold Builtin.SmallTypes.newRecord
   dsimp only
   exact Dc (Ah ⟨_,rfl,h _⟩) (by first | size_fits | decide)))
section
variable {prog:Bq}{w:Cj}{A:Co}{E:Ae->Ag->Prop}{s:Ag}
theorem call_rev{t:Addr}{items:Array Ae}{Q:Ae->Ag->Prop}(ht:s.heap.IsTuple t items)(hz:items.size<=Am)
  (h:∀ tk',Q (.ref s.heap.objs.size) {s with toks:=tk',heap:=s.heap.push (rvObj t ((items.size:Int) - 1))}):Bc (Bn prog w) A (call (.type "reversed") [.ref t]) Q E s:=
 callType_new TU (by decide) (F.typeCall_reversed_1 _) (F.newCall_reversed_1 _) (fun obj=>F.args_object_init_2 obj _) F.entry_reversed_new (TX t items) ⟨ht,hz,fun tk'=>⟨⟨_,Az _ rfl,rfl⟩,h tk'⟩⟩
theorem qJ:Slot "reversed" "__next__" "reversed.__next__":=
 .of (owner:="reversed") (n:="__next__") (by rw[Gm,Ew];kernel_rfl) (by decide +kernel) (by decide +kernel) (by decide +kernel) (by first | exact .inl (by decide +kernel) | exact .inr (by decide +kernel)) (by rw[Kr];kernel_rfl)
theorem FE:Slot "reversed" "__iter__" "reversed.__iter__":=
 .of (owner:="reversed") (n:="__iter__") (by rw[Gm,Ew];kernel_rfl) (by decide +kernel) (by decide +kernel) (by decide +kernel) (by first | exact .inl (by decide +kernel) | exact .inr (by decide +kernel)) (by rw[Kr];kernel_rfl)
theorem FF:entryFor table "reversed.__next__" = some Gx.«reversed.__next__»:=entryFor_of_tree (by kernel_rfl)
theorem TY:entryFor table "reversed.__iter__" = some Gx.«dict_keyiterator.__iter__»:=
 entryFor_alias (id':="dict_keyiterator.__iter__") (by kernel_rfl) (by first | rfl | decide +kernel) (by decide +kernel) (by kernel_rfl)
theorem wL:Manifest.owners.lookup (String.ofList ['d','e','s','r','e','v','e','r'].reverse)=some Manifest.sig_reversed:=by kernel_rfl
theorem FG(a:Ae):argsOk "reversed.__next__" ⟨[a],[]⟩:=by
 unfold argsOk
 rw[signature?_of (id:="reversed.__next__") (n:=['_','_','t','x','e','n','_','_']) (o:=['d','e','s','r','e','v','e','r']) (by kernel_rfl) wL]
 kernel_rfl
theorem TZ(a:Ae):argsOk "reversed.__iter__" ⟨[a],[]⟩:=by
 unfold argsOk
 rw[signature?_of (id:="reversed.__iter__") (n:=['_','_','r','e','t','i','_','_']) (o:=['d','e','s','r','e','v','e','r']) (by kernel_rfl) wL]
 kernel_rfl
abbrev jQ(h:Heap)(a t:Addr)(i:Int):Prop:=h.get? a=some {cls:=.type "reversed",dict:=none,data:=.fields #[.ref t,Hj i],slots:=#[]}
theorem i6{a t:Addr}{i:Int}(x:jQ s.heap a t i):s.TypeIs (.ref a) "reversed":=⟨_,x,rfl⟩
theorem next_item{a t:Addr}{i:Nat}{items:Array Ae}{x:Ae}{Q:Option Ae->Ag->Prop}(hr:jQ s.heap a t i)(ht:s.heap.IsTuple t items)(hx:items[i]? = some x)(hi:(i:Int) < 2 ^ 63)
  (hQ:∀ h' tk,jQ h' a t ((i:Int) - 1)->Ff a s.heap h'->Q (some x) {s with heap:=h',toks:=tk}):Bc (Bn prog w) A (Gz (.ref a)) Q E s:=by
 unfold Gz
 refine Aa (Ho (Dr (name:=Dk "__next__") (i6 hr) qJ (Cz qJ (i6 hr) FF ?_ (FG _))))
 unfold Gx.«reversed.__next__»
 refine Aa (Ge (a:=(Value.ref a,[])) rfl ?_)
 dsimp only
 refine Aa (Cv hr rfl (x:=.ref t) rfl (Aa (Cv hr rfl (x:=Hj (i:Int)) rfl ?_)))
 show Bc _ _ (if (i:Int) < 0 then _ else _) _ _ _
 rw[if_neg (by omega)]
 refine Aa (Jc ht.typeIs F.slot_tuple_getitem.lookup ?_)
 rw[if_neg (by decide)]
 have hlt:i < items.size:=(Hn.mp hx).1
 have hix:gY items.size (i:Int)=some i:=by unfold gY;rw[if_pos (by omega),if_pos (by omega),Dy]
 refine Aa (wpAny_mkInt (Aa (Ho (getItem_tuple (j:=i) (x:=x) ht (by omega) hi (vZ hix).1 hx ?_))))
 dsimp only
 refine Aa (Cv (s:={s with toks:=s.toks + 1}) hr rfl (x:=Hj (i:Int)) rfl ?_)
 exact Aa (Ez (s:={s with toks:=s.toks + 1}) hr (by simp) fun h1 r1 sb=>Ah ⟨x,rfl,Ah (hQ h1 _ r1 sb)⟩)
theorem T4{a t:Addr}{Q:Option Ae->Ag->Prop}(hh:A.handled=none)(hr:jQ s.heap a t (-1))(hQ:∀ h',Md a s.heap h'->Q none {s with heap:=h'}):Bc (Bn prog w) A (Gz (.ref a)) Q E s:=by
 unfold Gz
 refine Aa (Ho (Dr (name:=Dk "__next__") (i6 hr) qJ (Cz qJ (i6 hr) FF ?_ (FG _))))
 unfold Gx.«reversed.__next__»
 refine Aa (Ge (a:=(Value.ref a,[])) rfl ?_)
 dsimp only
 refine Aa (Cv hr rfl (x:=.ref t) rfl (Aa (Cv hr rfl (x:=Hj (-1)) rfl ?_)))
 show Bc _ _ (if (-1:Int) < 0 then _ else _) _ _ _
 rw[if_pos (by decide)]
 refine Aa (Fw (Aa ?_))
 wp_delta
 refine Aa (Ez hr (by simp) fun h1 r1 sb1=>Ez r1 (by simp) fun h2 r2 sb2=>Aa ?_)
 unfold Hl
 refine Aa (m:=newExc (.type "StopIteration") []) ?_
 simp only[newExc,newTuple]
 refine Aa (Dc (Aa (m:=Jl _ _) (Ge (a:=Value.none) (by first | rfl | (simp only[Jl];rfl)) (Dc ?_ (by size_fits)))) (by size_fits))
 simp only[raiseNew]
 refine Aa (wpAny_handled ?_)
 rw[show A.in1.handled=none from hh]
 refine Aa (Ah (wpAny_throw (Aa ?_)))
 refine Gy (T:="StopIteration") (b:=true) ⟨_,Az _ rfl,rfl⟩ isSubtype_stop (Ah (hQ _ fun c o hc e=>?_))
 exact Af _ (Af _ (sb2.extBut _ _ hc (sb1.extBut _ _ hc e)))
theorem FH{a t:Addr}{i:Int}{Q:Ae->Ag->Prop}(hr:jQ s.heap a t i)(h:Q (.ref a) s):Bc (Bn prog w) A (pyIter (.ref a)) Q E s:=by
 refine wpAny_pyIter_slot (i6 hr) FE (Cz FE (i6 hr) TY ?_ (TZ _))
 show Bc _ _ (ret (.ref a)) _ _ s
 exact Ah ⟨_,rfl,"reversed",_,i6 hr,qJ.lookup,h⟩
end
theorem T5{prog:Bq}{w:Cj}{A:Co}(hh:A.handled=none)(I t:Addr)(hne:t≠I)(items:Array Ae)(hz:items.size<=Am) :
  Walks prog w A I [I,t] [I] items.size (fun i v=>items[items.size - 1 - i]? = some v) (fun i h=>i<=items.size/\jQ h I t ((items.size:Int) - 1 - (i:Int))/\h.IsTuple t items) where
 sub:=fun b hb=>by simp at hb;simp[hb]
 frame:=fun i h h' x hk=>⟨x.1,hk I (by simp) _ x.2.1,by obtain⟨o,e,r⟩:=x.2.2;exact⟨o,hk t (by simp) o e,r⟩⟩
 item:=fun i s Q E hi x hQ=>by
  obtain⟨x1,x2,x3⟩:=x
  have hx:items[items.size - 1 - i]? = some (items[items.size - 1 - i]'(by omega)):=Kg (by omega)
  rw[show(items.size:Int) - 1 - (i:Int)=((items.size - 1 - i:Nat):Int) by omega] at x2
  refine next_item x2 x3 hx (by have:=jO;omega) fun h' tk r sb=>hQ _ h' tk hx ⟨hi,?_,?_⟩ fun b o hb eo=>sb.extBut b o (fun h=>hb (by simp[h])) eo
  ·rw[show(items.size:Int) - 1 - ((i + 1:Nat):Int)=((items.size - 1 - i:Nat):Int) - 1 by omega];exact r
  ·obtain⟨o,e,q⟩:=x3;exact⟨o,(sb.2 t hne).trans e,q⟩
 done:=fun s Q E x hQ=>by
  have x2:=x.2.1
  rw[show(items.size:Int) - 1 - (items.size:Int) = -1 by omega] at x2
  exact T4 hh x2 fun h' he=>hQ h' s.toks fun b o hb eo=>he b o (fun h=>hb (by simp[h])) eo
 self:=fun _ _ _ _ x hQ=>FH x.2.1 hQ
end Rv
end PySem
namespace PySem
namespace Rv
open PyProof.Rows L2 PySem.Spec
section
variable {prog:Bq}{w:Cj}{A:Co}{E:Ae->Ag->Prop}{s:Ag}
theorem T6:typeLookup (.type "reversed") "__len__" = pure none:=by rw[Gm,Ew];kernel_rfl
theorem T7:typeLookup (.type "reversed") "__length_hint__" = pure (some (.builtin "reversed.__length_hint__")):=by rw[Gm,Ew];kernel_rfl
theorem FI:Slot "reversed" "__length_hint__" "reversed.__length_hint__":=
 .of (owner:="reversed") (n:="__length_hint__") (by rw[Gm,Ew];kernel_rfl) (by decide +kernel) (by decide +kernel) (by decide +kernel) (by first | exact .inl (by decide +kernel) | exact .inr (by decide +kernel)) (by rw[Kr];kernel_rfl)
theorem T8:entryFor table "reversed.__length_hint__" = some Gx.«reversed.__length_hint__»:=entryFor_of_tree (by kernel_rfl)
theorem T9(a:Ae):argsOk "reversed.__length_hint__" ⟨[a],[]⟩:=by
 unfold argsOk
 rw[signature?_of (id:="reversed.__length_hint__") (n:=['_','_','t','n','i','h','_','h','t','g','n','e','l','_','_']) (o:=['d','e','s','r','e','v','e','r']) (by kernel_rfl) wL]
 kernel_rfl
theorem UA{r t:Addr}{items:Array Ae}{Q:Ae->Ag->Prop}(hr:jQ s.heap r t ((items.size:Int) - 1))(ht:s.heap.IsTuple t items)(hz:items.size<=Am)
  (h:∀ tk tk',Q (.int items.size tk) {s with toks:=tk'}):Bc (Bn prog w) A (call (.builtin "reversed.__length_hint__") [.ref r]) Q E s:=by
 refine Cz FI (i6 hr) T8 ?_ (T9 _)
 unfold Gx.«reversed.__length_hint__»
 have l63:=jO
 refine Aa (Ge (a:=Value.ref r) rfl (Aa (Cv hr rfl (x:=.ref t) rfl ?_)))
 rw[if_neg (show ¬ (Value.ref t == Value.none)=true from Ao)]
 refine Aa (len_tuple (t:=t) (items:=items) ht (by omega) (Aa (Ge (a:=some (items.size:Int)) rfl ?_)))
 try dsimp only
 refine Aa (Cv (s:={s with toks:=s.toks + 1 + 1}) hr rfl (x:=Hj ((items.size:Int) - 1)) rfl ?_)
 show Bc _ _ (if (items.size:Int) < (items.size:Int) - 1 + 1 then _ else _) _ _ _
 rw[if_neg (by omega),show(items.size:Int) - 1 + 1=items.size by omega]
 exact Aa (wpAny_mkInt (Ah ⟨_,rfl,h _ _⟩))
theorem UB{r t:Addr}{items:Array Ae}{Q:Bool->Ag->Prop}(hr:jQ s.heap r t ((items.size:Int) - 1))(ht:s.heap.IsTuple t items)(hz:items.size<=Am)(h:∀ b tk,Q b {s with toks:=tk}):Bc (Bn prog w) A (Builtin.List.listLengthHint (.ref r)) Q E s:=by
 unfold Builtin.List.listLengthHint
 refine Aa (Jc (i6 hr) T6 ?_)
 try dsimp only
 rw[if_neg (by decide)]
 rw[if_neg (by decide)]
 refine Aa (Jc (i6 hr) T7 ?_)
 generalize hid:("reversed.__length_hint__" : String)=id0
 try dsimp only
 rw[show splitId id0=some ("reversed","__length_hint__") from by subst hid;decide +kernel]
 subst hid
 refine Aa (Gy (T:="reversed") (b:=true) (i6 hr) F.sub_reversed_self ?_)
 try dsimp only
 rw[if_neg (by decide)]
 rw[if_neg (by decide +kernel)]
 refine Aa (Fw (Aa (Ge (FI.bind _) ?_)))
 try dsimp only
 refine Aa (Ho (UA hr ht hz fun tk tk'=>?_))
 have e1:asInt? (Value.int (items.size:Int) tk)=pure (some (items.size:Int)):=rfl
 show Bc _ _ (asInt? (Value.int (items.size:Int) tk) >>= _) _ _ _
 rw[e1,pure_bind]
 try dsimp only
 have l63:=jO
 have fits:Gw (items.size:Int)=true:=by
  unfold Gw
  rw[Cm]
  exact⟨decide_eq_true (by omega),decide_eq_true (by omega)⟩
 rw[if_neg (show ¬ (!Builtin.List.listFitsIndex (items.size:Int))=true by rw[fits];exact Ao),if_neg (show ¬ (items.size:Int) < 0 by omega),if_neg (by rw[Dy];exact fun z=>absurd z (by rw[EG hz];decide))]
 exact Ah (h _ _)
end
end Rv
end PySem
namespace PySem
namespace Rv
open PyProof.Rows L2 PySem.Spec
section
variable {prog:Bq}{w:Cj}{A:Co}{E:Ae->Ag->Prop}{s:Ag}
theorem UC{R:Result->Ag->Prop}{S r t:Addr}{items:Array Ae}{c₀:Nat}(hh:A.handled=none)(hr:jQ s.heap r t ((items.size:Int) - 1))(ht:s.heap.IsTuple t items)(hz:items.size<=Am)
  (hSr:S≠r) (hSt:S≠t) (htr:t≠r) (hS:s.heap.get? S=some {cls:=.type "list",data:=.seq #[] c₀})
  (hR:∀ h' tk acc' c',(∀ b o,b≠S->b≠r->s.heap.get? b=some o->h'.get? b=some o)->h'.get? S=some {cls:=.type "list",dict:=none,data:=.seq acc' c',slots:=#[]}->ItemsOf (fun i v=>items[items.size - 1 - i]? = some v) acc' items.size->R (.ok (.ret .none)) {s with heap:=h',toks:=tk}) :
  Bc (Bn prog w) A.in1 (Jg (.ref S) (.ref r) .none)
   (fun fin s'=>match fin with | .done f=>R (.ok f) s' | .again c'=>c'.quiet=true/\Jm (Bn prog w) A c' R s') (fun e s'=>R (.error e) s') s:=by
 have W:=T5 (prog:=prog) (w:=w) (A:=A.in1) hh r t htr items hz
 have hSf:S∉[r,t]:=by simp[hSr,hSt]
 have loop:∀ (h:Heap) (c₁ tk:Nat),jQ h r t ((items.size:Int) - 1)->h.IsTuple t items->(∀ b o,b≠S->s.heap.get? b=some o->h.get? b=some o)->h.get? S=some {cls:=.type "list",data:=.seq #[] c₁}->
   Jm (Bn prog w) A (.builtin "list.extend.loop" ⟨[.ref S,.ref r,.none],[]⟩) R {s with heap:=h,toks:=tk}:=fun h c₁ tk h1 h2 hk h3=>by
  refine codeAny_extend_loopS W.toS hz S hSf .none items.size 0 _ #[] c₁ rfl (Bv _) ⟨Bv _,by simpa using h1,h2⟩ h3 (ItemsOf.nil _) fun s' acc' c' hm hS' hacc=>?_
  rw[Moved.eq_with hm]
  exact hR s'.heap s'.toks acc' c' (fun b o hb hbr e=>hm.heap b o (by simp[hb,hbr]) (hk b o hb e)) hS' hacc
 unfold Jg
 refine Aa (Kj (T:="reversed") (i6 hr) ?_)
 rw[if_neg (by simp[Builtin.List.listSameRef,hSr])]
 refine Aa (FH hr (Aa (Dg (UB hr ht hz fun b tk=>?_))))
 refine wpAny_ite_split (fun _=>?_) (fun _=>Ah ⟨Jv PySem.F.plain_extend_loop _,loop _ c₀ _ hr ht (fun b o _ e=>e) hS⟩)
 refine Aa (Fw (Aa (m:=Builtin.List.listTouch _) ?_))
 show Bc _ _ (updateSeq S (·.push .none) >>= fun _=>updateSeq S (·.pop)) _ _ _
 have g1:=Eo (Hb (·.push Value.none)) hS rfl
 have g2:=Eo (Hb (·.pop)) g1 rfl
 have ot:∀ b o,b≠S->s.heap.get? b=some o->((s.heap.update S (Hb (·.push Value.none))).update S (Hb (·.pop))).get? b=some o:=fun b o hb e=>by
  rw[Fe _ _ (Bf hb),Fe _ _ (Bf hb)];exact e
 refine Aa (wpAny_updateSeq (s:={s with toks:=tk}) hS rfl (wpAny_updateSeq (hz:=by seq_fits) g1 rfl (Ah ⟨Jv PySem.F.plain_extend_loop _,loop _ _ _ (ot r _ (Bf hSr) hr) ?_ ot g2⟩)))
 obtain⟨o,e,q⟩:=ht
 exact⟨o,ot t o (Bf hSt) e,q⟩
theorem list_rev{Q:Ae->Ag->Prop}{r t:Addr}{items:Array Ae}(hh:A.handled=none)(hr:jQ s.heap r t ((items.size:Int) - 1))(ht:s.heap.IsTuple t items)(hz:items.size<=Am)(htr:t≠r)
  (hQ:∀ h' tk acc' c',(∀ b o,b≠r->s.heap.get? b=some o->h'.get? b=some o)->h'.get? s.heap.objs.size=some {cls:=.type "list",dict:=none,data:=.seq acc' c',slots:=#[]}->ItemsOf (fun i v=>items[items.size - 1 - i]? = some v) acc' items.size->
   Q (.ref s.heap.objs.size) {s with heap:=h',toks:=tk}):Bc (Bn prog w) A (call (.type "list") [.ref r]) Q E s:=by
 have lr:r < s.heap.objs.size:=Ap hr
 have lt:t < s.heap.objs.size:=by obtain⟨o,e,_⟩:=ht;exact Ap e
 refine callType_codes (Q₁:=fun obj s₁=>obj=.ref s.heap.objs.size/\s₁ = {s with heap:=s.heap.push {cls:=.type "list",data:=.seq #[]}}) PySem.F.called_list (PySem.F.typeCall_list_1 _) PySem.F.entry_list_init (code_list_new _ ⟨rfl,rfl⟩) ?_
 rintro obj s₁ ⟨rfl,rfl⟩
 have g0:(s.heap.push {cls:=.type "list",data:=.seq #[]}).get? s.heap.objs.size=some {cls:=.type "list",data:=.seq #[]}:=Az _ rfl
 have g1:=Eo (Hb fun _=>(#[]:Array Ae)) g0 rfl
 have ot:∀ b o,b≠s.heap.objs.size->s.heap.get? b=some o->((s.heap.push {cls:=.type "list",data:=.seq #[]}).update s.heap.objs.size (Hb fun _=>(#[]:Array Ae))).get? b=some o:=fun b o hb e=>by
  rw[Fe _ _ (Bf hb)];exact Af _ e
 refine⟨⟨_,g0,rfl⟩,PySem.F.args_list_init_2 _ _,?_⟩
 show Bc _ _ (Builtin.List.listItems (.ref s.heap.objs.size) >>= fun old=>Builtin.List.listUpdate (.ref s.heap.objs.size) (fun _=>#[]) >>= fun _=>letGo old.toList.reverse >>= fun _=>Jg (.ref s.heap.objs.size) (.ref r) .none) _ _ _
 refine Aa (wpAny_listItems g0 rfl (Aa ?_))
 show Bc _ _ (updateSeq s.heap.objs.size (fun _=>#[])) _ _ _
 refine wpAny_updateSeq g0 rfl (Aa (Mz (UC (A:=A.in1) hh (ot r _ (Bg lr) hr) ?_ hz (Ct lr) (Ct lt) htr g1 fun h' tk acc' c' hk hS' hacc=>⟨rfl,hQ h' tk acc' c' (fun b o hb e=>hk b o (Bg (Ap e)) hb (ot b o (Bg (Ap e)) e)) hS' hacc⟩)))
 obtain⟨o,e,q⟩:=ht
 exact⟨o,ot t o (Bg lt) e,q⟩
end
end Rv
end PySem
namespace L2
open PySem PySem.Spec PyProof.Rows
section
variable {X:Cx}{a:Expr}{ta:TA}{p p2 pos pos2:Pos}
theorem UD{xs:List V}{its:List Ae}{acc:Array Ae}(r:aZ xs its)(h:ItemsOf (fun i v=>its.toArray[its.toArray.size - 1 - i]? = some v) acc its.toArray.size):aZ xs.reverse acc.toList:=by
 have hl:=r.length
 have ha:acc.size=its.length:=by simpa using h.1
 have ha2:acc.toList.length=acc.size:=Gp
 refine sY (by rw[Fs];omega) fun j v hv=>?_
 have hv':acc[j]? = some v:=by rw[<-Hg];exact hv
 have hj:j < acc.size:=(Hn.mp hv').1
 have e:=h.2 j v hv'
 have e':its[its.length - 1 - j]? = some v:=by simpa using e
 have hlt:its.length - 1 - j < xs.length:=by omega
 obtain⟨u,hu,ru⟩:=r.get (An hlt)
 rw[e'] at hu;cases hu
 refine⟨xs[its.length - 1 - j],?_,ru⟩
 rw[List.getElem?_reverse (by omega),An (by omega)]
 congr 2
 omega
def UE(K:Ac)(ta:TA):TE:=fun σ H Q=>ta σ H fun vs H1=>∃ t xs,vs=[.ref t]/\bL K H1 t xs/\∀ q,H1 q=none->Q (.ref q) (aS H1 q (.lst xs.reverse))
theorem FJ:Cp "reversed" = some (.type "reversed"):=by decide +kernel
theorem UG:Cp "list" = some (.type "list"):=by decide +kernel
theorem UH(hc:X.calm=true)(hg:Gl X "list")(hm:X.mg "list" = none)(hg2:Gl X "reversed")(hm2:X.mg "reversed" = none)(ha:PA X [a] ta)
  (hs1:Bi [.Call (.Name "reversed" p2) [a] [] pos2] X.env=[(false,eval (.Call (.Name "reversed" p2) [a] [] pos2) X.env)]:=by rfl) (hs2:Bi [a] X.env=[(false,eval a X.env)]:=by rfl) :
  PE X (.Call (.Name "list" p) [.Call (.Name "reversed" p2) [a] [] pos2] [] pos) (UE X.K ta):=by
 intro pins s σ H Q I h
 refine Dv (iY I hg hm UG (Ck ?_ hs1 rfl))
 rw[hs1]
 refine Calls.spliced_cons (Dv (iY I hg2 hm2 FJ (Ck (a7 (ha pos2 pins s σ H _ I h) fun us s1 ⟨vs,H1,I1,r1,q1⟩=>?_) hs2 rfl)))
 obtain⟨t,xs,rfl,hq,q⟩:=q1
 obtain⟨u,rfl,ru⟩:=vals1 r1
 cases ru
 obtain⟨its,rv,pl,hz⟩:=I1.tuple hq
 have hsz:its.toArray.size<=Am:=by rw[Bb];have:=rv.length;omega
 refine Rv.call_rev (t:=t) (items:=its.toArray) pl hsz fun tk'=>Calls.spliced_nil ?_
 have lt:t < s1.heap.objs.size:=by obtain⟨o,e,_⟩:=(show s1.heap.IsTuple t its.toArray from pl);exact Ap e
 refine Rv.list_rev (s:={s1 with toks:=tk',heap:=s1.heap.push (Rv.rvObj t ((its.toArray.size:Int) - 1))}) (t:=t) (items:=its.toArray) (I1.ok.hd hc) (Az _ rfl) ?_ hsz (Bg lt) fun h' tk acc' c' hk hS hacc=>?_
 ·obtain⟨o,e,r⟩:=(show s1.heap.IsTuple t its.toArray from pl)
  exact⟨o,Af _ e,r⟩
 ·have hp:({s1 with toks:=tk',heap:=s1.heap.push (Rv.rvObj t ((its.toArray.size:Int) - 1))}:Ag).heap.objs.size=s1.heap.objs.size + 1:=Du ..
  rw[hp] at hS ⊢
  have hle:s1.heap.objs.size<=s1.heap.objs.size + 1:=Ml _
  have va:=UD rv hacc
  refine⟨.ref (s1.heap.objs.size + 1),_,I1.laid (o:=.lst xs.reverse) (t':=tk) (fun b o e=>hk b o (Bg (Ap e)) (Af _ e)) hle ⟨by rw[Fs];exact hz,acc'.toList,c',va,by rw[Lx];exact hS⟩,rfl,q _ (I1.hok.fresh hle)⟩
end
end L2
namespace PySem
namespace Zt
open PyProof.Rows L2 PySem.Spec
section
variable {prog:Bq}{w:Cj}{A:Co}{E:Ae->Ag->Prop}{s:Ag}
theorem UI{α:Type}{Q:α->Ag->Prop}(hh:A.handled=none)(hE:∀ h' e,(∀ c o,s.heap.get? c=some o->h'.get? c=some o)->(∃ o,h'.get? e=some o/\o.cls=.type "StopIteration")->E (.ref e) {s with heap:=h'}) :
  Bc (Bn prog w) A (Hl:Sem α) Q E s:=by
 unfold Hl
 refine Aa (m:=newExc (.type "StopIteration") []) ?_
 simp only[newExc,newTuple]
 refine Aa (Dc (Aa (m:=Jl _ _) (Ge (a:=Value.none) (by first | rfl | (simp only[Jl];rfl)) (Dc ?_ (by size_fits)))) (by size_fits))
 simp only[raiseNew]
 refine Aa (wpAny_handled ?_)
 rw[hh]
 refine Aa (Ah (wpAny_throw (hE _ _ (fun c o e=>Af _ (Af _ e)) ⟨_,Az _ rfl,rfl⟩)))
structure lB(prog:Bq)(w:Cj)(i l:Addr)(xs:Array Ae)(St:Nat->Heap->Prop):Prop where
 keep:∀ k h h',St k h->(∀ c,c=i\/c=l->∀ o,h.get? c=some o->h'.get? c=some o)->St k h'
 there:∀ k h,St k h->i < h.objs.size
 item:∀ (A:Co) (E:Ae->Ag->Prop) (s:Ag) (k:Nat) (x:Ae) (Q:Ae->Ag->Prop),St k s.heap->xs[k]? = some x->(∀ h',St (k + 1) h'->Ff i s.heap h'->Q x {s with heap:=h'})->
  Bc (Bn prog w) A (Dd (.ref i)) Q E s
 stop:∀ (A:Co) (E:Ae->Ag->Prop) (s:Ag) (k:Nat) (Q:Ae->Ag->Prop),A.handled=none->St k s.heap->xs[k]? = none->
  (∀ h' e,Md i s.heap h'->(∃ o,h'.get? e=some o/\o.cls=.type "StopIteration")->E (.ref e) {s with heap:=h'})->Bc (Bn prog w) A (Dd (.ref i)) Q E s
theorem side_tuple(i l:Addr)(hne:l≠i)(xs:Array Ae):lB prog w i l xs (fun k h=>h.IsTupleIter i l k/\h.IsTuple l xs) where
 keep:=fun k h h' x hk=>by
  obtain⟨⟨o,e,r⟩,⟨u,g,q⟩⟩:=x
  exact⟨⟨o,hk i (.inl rfl) o e,r⟩,⟨u,hk l (.inr rfl) u g,q⟩⟩
 there:=fun k h x=>by obtain⟨_,e,_⟩:=x.1;exact Ap e
 item:=fun A E s k x Q st hx hQ=>by
  obtain⟨⟨o,ho,hc,hd⟩,⟨u,hu,hcu,n,hdu⟩⟩:=st
  have ty:s.TypeIs (.ref i) "tuple_iterator":=⟨o,ho,hc⟩
  unfold Dd
  refine Aa (Dr (name:=Dk "__next__") ty Ih (Cz Ih ty F.entry_tuple_iterator_next ?_ (F.args_tuple_iterator_next_1 _)))
  show Bc _ _ (field (.ref i) 0 >>= fun q=>_) _ _ _
  refine Aa (Cv ho hd (x:=.ref l) rfl ?_)
  show Bc _ _ (if (Value.ref l == Value.none)=true then _ else _) _ _ s
  rw[if_neg (show ¬ (Value.ref l == Value.none)=true from fun z=>nomatch z)]
  show Bc _ _ (field (.ref i) 1 >>= fun q=>_) _ _ _
  refine Aa (Cv ho hd (x:=.int k 0) rfl ?_)
  show Bc _ _ (seqItems? (.ref l) >>= fun q=>_) _ _ _
  refine Aa (Fp hu hdu ?_)
  simp only[Dy,hx]
  refine Aa (My ho hd (by simp) (Ah ⟨x,rfl,Ah (hQ _ ⟨⟨_,Eo _ ho (Obj.isFreed_of_fields (Kf hd _)),(Obj.cls_mapFields ..).trans hc,?_⟩,⟨u,?_,hcu,n,hdu⟩⟩ (Ex ..))⟩))
  ·rw[Kf hd];simp[Hj]
  ·exact(Fe _ _ (Bf hne)).trans hu
 stop:=fun A E s k Q hh st hx hE=>by
  obtain⟨⟨o,ho,hc,hd⟩,⟨u,hu,hcu,n,hdu⟩⟩:=st
  have ty:s.TypeIs (.ref i) "tuple_iterator":=⟨o,ho,hc⟩
  unfold Dd
  refine Aa (Dr (name:=Dk "__next__") ty Ih (Cz Ih ty F.entry_tuple_iterator_next ?_ (F.args_tuple_iterator_next_1 _)))
  show Bc _ _ (field (.ref i) 0 >>= fun q=>_) _ _ _
  refine Aa (Cv ho hd (x:=.ref l) rfl ?_)
  show Bc _ _ (if (Value.ref l == Value.none)=true then _ else _) _ _ s
  rw[if_neg (show ¬ (Value.ref l == Value.none)=true from fun z=>nomatch z)]
  show Bc _ _ (field (.ref i) 1 >>= fun q=>_) _ _ _
  refine Aa (Cv ho hd (x:=.int k 0) rfl ?_)
  show Bc _ _ (seqItems? (.ref l) >>= fun q=>_) _ _ _
  refine Aa (Fp hu hdu ?_)
  simp only[Dy,hx]
  refine Aa (Fw (Aa (My ho hd (by simp) (UI hh fun h' e hk he=>hE h' e (fun c q hc' g=>hk c q ((Fe _ _ (Bf hc')).trans g)) he))))
structure Apart(z TI TO i1 i2 l1 l2:Addr):Prop where
 nd : [z,TI,TO,i1,i2].Nodup
 a:l1≠z/\l1≠TI/\l1≠TO/\l1≠i1/\l1≠i2
 b:l2≠z/\l2≠TI/\l2≠TO/\l2≠i1/\l2≠i2
variable {z TI TO i1 i2 l1 l2:Addr}{xs ys:Array Ae}{S1 S2:Nat->Heap->Prop}
theorem item{k:Nat}{x y a b:Ae}{Q:Ae->Ag->Prop}(D:Apart z TI TO i1 i2 l1 l2)(W1:lB prog w i1 l1 xs S1)(W2:lB prog w i2 l2 ys S2)(hz:Na s.heap z TI TO .none)(hI:Gv s.heap TI (.ref i1) (.ref i2))(hO:Gv s.heap TO a b)
  (h1:S1 k s.heap) (h2:S2 k s.heap) (hx:xs[k]? = some x) (hy:ys[k]? = some y)
  (hQ:∀ h',Na h' z TI TO (Hj s.heap.objs.size)->Gv h' TO x y->S1 (k + 1) h'->S2 (k + 1) h'->Gv h' s.heap.objs.size x y->(∀ c o,c≠z->c≠TO->c≠i1->c≠i2->s.heap.get? c=some o->h'.get? c=some o)->Q (.ref s.heap.objs.size) {s with heap:=h'}) :
  Bc (Bn prog w) A (Gx.«zip.__next__» ⟨[.ref z],[]⟩) (fun fin s'=>∃ v,fin=.done (.ret v)/\Q v s') E s:=by
 have nd:=D.nd
 simp only[Cr,Ar,Ji,or_false,not_or,not_false_eq_true,Cy,and_true] at nd
 obtain⟨⟨zI,zO,z1,z2⟩,⟨IO,I1,I2⟩,⟨O1,O2⟩,n12⟩:=nd
 obtain⟨az,aI,aO,a1,a2⟩:=D.a
 obtain⟨bz,bI,bO,b1,b2⟩:=D.b
 show Bc _ _ (field (.ref z) 2 >>= fun q=>_) _ _ _
 refine Aa (Cv hz rfl (x:=.bool false) rfl ?_)
 show Bc _ _ (field (.ref z) 3 >>= fun q=>_) _ _ _
 refine Aa (Cv hz rfl (x:=.ref TI) rfl (Aa (Fp hI rfl ?_)))
 show Bc _ _ (Fl (.ref z) >>= fun q=>_) _ _ _
 refine Aa ?_
 unfold Fl
 refine Aa (Cv hz rfl (x:=.none) rfl (Ah ?_))
 simp only[if_true]
 refine Aa (Fw (Aa (Cv hz rfl (x:=.ref TO) rfl (Aa (Ez hz (by simp) fun g1 q1 s1=>Aa ?_)))))
 simp only[Jh,List.zipIdx_nil,Li,List.forIn_nil]
 have k1:∀ c,c=i1\/c=l1->c≠z/\c≠TO/\c≠i2:=fun c hc=>by
  rcases hc with rfl | rfl
  ·exact⟨Bf z1,Bf O1,n12⟩
  ·exact⟨az,aO,a2⟩
 have k2:∀ c,c=i2\/c=l2->c≠z/\c≠TO/\c≠i1:=fun c hc=>by
  rcases hc with rfl | rfl
  ·exact⟨Bf z2,Bf O2,Bf n12⟩
  ·exact⟨bz,bO,b1⟩
 refine Aa (Aa (Ng ?_))
 show Bc _ _ (Dd (.ref i1) >>= fun q=>_) _ _ _
 refine Aa (W1.item _ _ {s with heap:=g1} k x _ (W1.keep k _ _ h1 fun c hc o e=>s1.extBut c o (k1 c hc).1 e) hx fun g2 t2 s2=>Ah ?_)
 have o2:Gv g2 TO a b:=s2.extBut _ _ O1 (s1.extBut _ _ (Bf zO) hO)
 refine Aa (Fp o2 rfl (Aa (Mx o2 fun g3 o3 s3=>Aa (Mz (Ah ?_)))))
 replace o3:Gv g3 TO x b:=o3
 refine Aa (Aa (Ng ?_))
 show Bc _ _ (Dd (.ref i2) >>= fun q=>_) _ _ _
 refine Aa (W2.item _ _ {s with heap:=g3} k y _ (W2.keep k _ _ h2 fun c hc o e=>s3.extBut c o (k2 c hc).2.1 (s2.extBut c o (k2 c hc).2.2 (s1.extBut c o (k2 c hc).1 e))) hy fun g4 t4 s4=>Ah ?_)
 have o4:Gv g4 TO x b:=s4.extBut _ _ O2 o3
 refine Aa (Fp o4 rfl (Aa (Mx o4 fun g5 o5 s5=>Aa (Mz (Ah (Ah ?_))))))
 replace o5:Gv g5 TO x y:=o5
 refine Aa (Fp o5 rfl (Aa (wpAny_newTuple ?_)))
 have size5:g5.objs.size=s.heap.objs.size:=by rw[s5.1,s4.1,s3.1,s2.1,s1.1]
 have z5:Na g5 z TI TO .ellipsis:=s5.extBut _ _ zO (s4.extBut _ _ z2 (s3.extBut _ _ zO (s2.extBut _ _ z1 q1)))
 have lz:z < g5.objs.size:=Ap z5
 refine Aa (m:=Builtin.SmallTypes.ownedTupleHandOut _ _) ?_
 unfold Builtin.SmallTypes.ownedTupleHandOut
 have z6:Na (g5.push {cls:=.type "tuple",data:=.seq #[x,y]}) z TI TO .ellipsis:=Af _ z5
 refine Aa (Ez z6 (by simp) fun g7 z7 s7=>Ez z7 (by simp) fun g8 z8 s8=>Ah ⟨_,rfl,?_⟩)
 have up:∀ c o,c≠z->g5.get? c=some o->g8.get? c=some o:=fun c o hc e=>s8.extBut _ _ hc (s7.extBut _ _ hc (Af _ e))
 have t8:Gv g8 g5.objs.size x y:=s8.extBut _ _ (Ct lz) (s7.extBut _ _ (Ct lz) (Az _ rfl))
 have r1:S1 (k + 1) g8:=W1.keep _ _ _ t2 fun c hc o e=>up c o (k1 c hc).1 (s5.extBut _ _ (k1 c hc).2.1 (s4.extBut _ _ (k1 c hc).2.2 (s3.extBut _ _ (k1 c hc).2.1 e)))
 have r2:S2 (k + 1) g8:=W2.keep _ _ _ t4 fun c hc o e=>up c o (k2 c hc).1 (s5.extBut _ _ (k2 c hc).2.1 e)
 show Q (.ref g5.objs.size) _
 replace z8:Na g8 z TI TO (Hj g5.objs.size):=z8
 rw[size5] at z8 t8 ⊢
 exact hQ g8 z8 (up _ _ (Bf zO) o5) r1 r2 t8 fun c o c1 c2 c3 c4 e=>up c o c1 (s5.extBut _ _ c2 (s4.extBut _ _ c4 (s3.extBut _ _ c2 (s2.extBut _ _ c3 (s1.extBut _ _ c1 e)))))
theorem stop{k:Nat}{a b:Ae}{Q:Fin->Ag->Prop}(hh:A.handled=none)(D:Apart z TI TO i1 i2 l1 l2)(W1:lB prog w i1 l1 xs S1)(W2:lB prog w i2 l2 ys S2)(hz:Na s.heap z TI TO .none)(hI:Gv s.heap TI (.ref i1) (.ref i2))(hO:Gv s.heap TO a b)
  (h1:S1 k s.heap) (h2:S2 k s.heap) (hend:xs[k]? = none\/ys[k]? = none)
  (hE:∀ h' e,(∀ c o,c≠z->c≠TO->c≠i1->c≠i2->s.heap.get? c=some o->h'.get? c=some o)->(∃ o,h'.get? e=some o/\o.cls=.type "StopIteration")->E (.ref e) {s with heap:=h'}) :
  Bc (Bn prog w) A (Gx.«zip.__next__» ⟨[.ref z],[]⟩) Q E s:=by
 have nd:=D.nd
 simp only[Cr,Ar,Ji,or_false,not_or,not_false_eq_true,Cy,and_true] at nd
 obtain⟨⟨zI,zO,z1,z2⟩,⟨IO,I1,I2⟩,⟨O1,O2⟩,n12⟩:=nd
 obtain⟨az,aI,aO,a1,a2⟩:=D.a
 obtain⟨bz,bI,bO,b1,b2⟩:=D.b
 have k1:∀ c,c=i1\/c=l1->c≠z:=fun c hc=>by rcases hc with rfl | rfl;exact Bf z1;exact az
 have k2:∀ c,c=i2\/c=l2->c≠z/\c≠TO/\c≠i1:=fun c hc=>by
  rcases hc with rfl | rfl
  ·exact⟨Bf z2,Bf O2,Bf n12⟩
  ·exact⟨bz,bO,b1⟩
 show Bc _ _ (field (.ref z) 2 >>= fun q=>_) _ _ _
 refine Aa (Cv hz rfl (x:=.bool false) rfl ?_)
 show Bc _ _ (field (.ref z) 3 >>= fun q=>_) _ _ _
 refine Aa (Cv hz rfl (x:=.ref TI) rfl (Aa (Fp hI rfl ?_)))
 show Bc _ _ (Fl (.ref z) >>= fun q=>_) _ _ _
 refine Aa ?_
 unfold Fl
 refine Aa (Cv hz rfl (x:=.none) rfl (Ah ?_))
 simp only[if_true]
 refine Aa (Fw (Aa (Cv hz rfl (x:=.ref TO) rfl (Aa (Ez hz (by simp) fun g1 q1 s1=>Aa ?_)))))
 simp only[Jh,List.zipIdx_nil,Li,List.forIn_nil]
 refine Aa (Aa (Ng ?_))
 show Bc _ _ (Dd (.ref i1) >>= fun q=>_) _ _ _
 cases hx:xs[k]? with
 | none=>
  refine Aa (W1.stop _ _ {s with heap:=g1} k _ hh (W1.keep k _ _ h1 fun c hc o e=>s1.extBut c o (k1 c hc) e) hx fun g2 e s2 he=>?_)
  obtain⟨oe,ge,ce⟩:=he
  have q2:Na g2 z TI TO .ellipsis:=s2 _ _ z1 q1
  have ez:e≠z:=fun u=>by subst u;rw[q2] at ge;cases ge;simp at ce
  exact Ez q2 (by simp) fun g3 _ s3=>hE g3 e (fun c o c1 _ c3 _ u=>s3.extBut _ _ c1 (s2 _ _ c3 (s1.extBut _ _ c1 u))) ⟨oe,s3.extBut _ _ ez ge,ce⟩
 | some x=>
  have hy:ys[k]? = none:=by rcases hend with h | h;rw[hx] at h;cases h;exact h
  refine Aa (W1.item _ _ {s with heap:=g1} k x _ (W1.keep k _ _ h1 fun c hc o e=>s1.extBut c o (k1 c hc) e) hx fun g2 t2 s2=>Ah ?_)
  have o2:Gv g2 TO a b:=s2.extBut _ _ O1 (s1.extBut _ _ (Bf zO) hO)
  refine Aa (Fp o2 rfl (Aa (Mx o2 fun g3 o3 s3=>Aa (Mz (Ah ?_)))))
  refine Aa (Aa (Ng ?_))
  show Bc _ _ (Dd (.ref i2) >>= fun q=>_) _ _ _
  refine Aa (W2.stop _ _ {s with heap:=g3} k _ hh (W2.keep k _ _ h2 fun c hc o e=>s3.extBut c o (k2 c hc).2.1 (s2.extBut c o (k2 c hc).2.2 (s1.extBut c o (k2 c hc).1 e))) hy fun g4 e s4 he=>?_)
  obtain⟨oe,ge,ce⟩:=he
  have q4:Na g4 z TI TO .ellipsis:=s4 _ _ z2 (s3.extBut _ _ zO (s2.extBut _ _ z1 q1))
  have ez:e≠z:=fun u=>by subst u;rw[q4] at ge;cases ge;simp at ce
  exact Ez q4 (by simp) fun g5 _ s5=>hE g5 e (fun c o c1 c2 c3 c4 u=>s5.extBut _ _ c1 (s4 _ _ c4 (s3.extBut _ _ c2 (s2.extBut _ _ c3 (s1.extBut _ _ c1 u))))) ⟨oe,s5.extBut _ _ ez ge,ce⟩
end
end Zt
end PySem
namespace PySem
namespace Zt
open PyProof.Rows L2 PySem.Spec
section
variable {prog:Bq}{w:Cj}{A:Co}{E:Ae->Ag->Prop}{s:Ag}{z TI TO i1 i2 l1 l2:Addr}{xs ys:Array Ae}{S1 S2:Nat->Heap->Prop}
theorem next_item{k:Nat}{x y a b:Ae}{Q:Option Ae->Ag->Prop}(D:Apart z TI TO i1 i2 l1 l2)(W1:lB prog w i1 l1 xs S1)(W2:lB prog w i2 l2 ys S2)(hz:Na s.heap z TI TO .none)(hI:Gv s.heap TI (.ref i1) (.ref i2))(hO:Gv s.heap TO a b)
  (h1:S1 k s.heap) (h2:S2 k s.heap) (hx:xs[k]? = some x) (hy:ys[k]? = some y)
  (hQ:∀ h',Na h' z TI TO (Hj s.heap.objs.size)->Gv h' TO x y->S1 (k + 1) h'->S2 (k + 1) h'->Gv h' s.heap.objs.size x y->(∀ c o,c≠z->c≠TO->c≠i1->c≠i2->s.heap.get? c=some o->h'.get? c=some o)->Q (some (.ref s.heap.objs.size)) {s with heap:=h'}) :
  Bc (Bn prog w) A (Gz (.ref z)) Q E s:=by
 have ty:s.TypeIs (.ref z) "zip":=⟨_,hz,rfl⟩
 unfold Gz
 exact Aa (Ho (Dr (name:=Dk "__next__") ty Mf (Cz Mf ty F.entry_zip_next (item D W1 W2 hz hI hO h1 h2 hx hy fun h' c1 c2 c3 c4 c5 c6=>Ah (hQ h' c1 c2 c3 c4 c5 c6)) (F.args_zip_next_1 _))))
theorem next_stop{k:Nat}{a b:Ae}{Q:Option Ae->Ag->Prop}(hh:A.handled=none)(D:Apart z TI TO i1 i2 l1 l2)(W1:lB prog w i1 l1 xs S1)(W2:lB prog w i2 l2 ys S2)(hz:Na s.heap z TI TO .none)(hI:Gv s.heap TI (.ref i1) (.ref i2))(hO:Gv s.heap TO a b)
  (h1:S1 k s.heap) (h2:S2 k s.heap) (hend:xs[k]? = none\/ys[k]? = none)
  (hQ:∀ h',(∀ c o,c≠z->c≠TO->c≠i1->c≠i2->s.heap.get? c=some o->h'.get? c=some o)->Q none {s with heap:=h'}):Bc (Bn prog w) A (Gz (.ref z)) Q E s:=by
 have ty:s.TypeIs (.ref z) "zip":=⟨_,hz,rfl⟩
 unfold Gz
 refine Aa (Ho (Dr (name:=Dk "__next__") ty Mf (Cz Mf ty F.entry_zip_next (stop hh D W1 W2 hz hI hO h1 h2 hend fun h' e hk ⟨o,ho,hc⟩=>?_) (F.args_zip_next_1 _))))
 exact Aa (Gy (T:="StopIteration") (b:=true) ⟨o,ho,hc⟩ isSubtype_stop (Ah (hQ _ hk)))
end
abbrev zh1(h:Heap)(a:Addr):Heap:=h.push {cls:=.type "tuple_iterator",data:=.fields #[.ref a,.int 0 0]}
abbrev zh2(h:Heap)(a b:Addr):Heap:=(zh1 h a).push {cls:=.type "tuple_iterator",data:=.fields #[.ref b,.int 0 0]}
abbrev zh3(h:Heap)(a b:Addr):Heap:=(zh2 h a b).push {cls:=.type "tuple",data:=.seq #[.ref h.objs.size,.ref (zh1 h a).objs.size]}
abbrev zh4(h:Heap)(a b:Addr):Heap:=(zh3 h a b).push {cls:=.type "tuple",data:=.seq #[.none,.none]}
abbrev zh5(h:Heap)(a b:Addr):Heap:=(zh4 h a b).push {cls:=.type "zip",data:=.fields #[.none,.bool false,.bool false,.ref (zh2 h a b).objs.size,.ref (zh3 h a b).objs.size]}
theorem meets_new(a b:Addr)(xs ys:Array Ae) :
  Meets (Gx.«zip.__new__» ⟨[.type "zip",.ref a,.ref b],[]⟩) (fun _ R s=>s.heap.IsTuple a xs/\s.heap.IsTuple b ys/\R (.ok (.ret (.ref (zh4 s.heap a b).objs.size))) {s with heap:=zh5 s.heap a b}):=
 .of_wp fun prog w A R s h=>by
  obtain⟨hp,g,d,tk,os⟩:=s;obtain⟨ta,tb,h⟩:=h
  have hsub:=sub_zip
  have T1:Nd (Shared.heap ⟨hp,g,d,tk,os⟩) a xs:=ta
  have T2:Nd (Shared.heap ⟨hp.push {cls:=.type "tuple_iterator",data:=.fields #[.ref a,.int 0 0]},g,d,tk,os⟩) b ys:=by
   obtain⟨o,e,r⟩:=(show hp.IsTuple b ys from tb)
   exact⟨o,Af _ e,r⟩
  wp_walk using Hi T1,Hi T2
  exact⟨_,rfl,h⟩
end Zt
end PySem
namespace L2
open PySem PySem.Spec PyProof.Rows
def tE(K:Ac)(a b:Addr)(xs ys:List V):It:=
 ⟨fun i H=>bL K H a xs/\bL K H b ys/\i < xs.length/\i < ys.length,
   fun i H x H'=>∃ p u v,xs[i]? = some u/\ys[i]? = some v/\H p=none/\x=.ref p/\H'=aS H p (.tup [u,v]),
   fun i H=>bL K H a xs/\bL K H b ys/\(xs.length<=i\/ys.length<=i)⟩
theorem UJ{P:Bq}{w:Cj}{K:Ac}{es:List Expr}{kx:Nat}{px:Pos}(a b z TI TO i1 i2:Addr)(xs ys:List V)(D:Zt.Apart z TI TO i1 i2 a b) :
  i0 P w K (.Tuple es kx px) (tE K a b xs ys) [z,TI,TO,i1,i2] z (fun i h=>Na h z TI TO .none/\Gv h TI (.ref i1) (.ref i2)/\(∃ c d,Gv h TO c d)/\h.IsTupleIter i1 a i/\h.IsTupleIter i2 b i) where
 mem:=by simp
 obj:=fun i h st c hc=>by
  obtain⟨h1,h2,⟨p,q,h3⟩,⟨o4,h4,_,d4⟩,⟨o5,h5,_,d5⟩⟩:=st
  simp only[Ar,Cq,or_false] at hc
  rcases hc with rfl | rfl | rfl | rfl | rfl
  ·exact⟨_,h1,fun v g=>nomatch g⟩
  ·exact⟨_,h2,fun v g=>nomatch g⟩
  ·exact⟨_,h3,fun v g=>nomatch g⟩
  ·exact⟨_,h4,fun v g=>by rw[d4] at g;cases g⟩
  ·exact⟨_,h5,fun v g=>by rw[d5] at g;cases g⟩
 keep:=fun i h h' st k=>by
  obtain⟨h1,h2,⟨p,q,h3⟩,⟨o4,h4,r4⟩,⟨o5,h5,r5⟩⟩:=st
  exact⟨k z (by simp) _ h1,k TI (by simp) _ h2,⟨p,q,k TO (by simp) _ h3⟩,⟨o4,k i1 (by simp) _ h4,r4⟩,⟨o5,k i2 (by simp) _ h5,r5⟩⟩
 item:=by
  intro X hP hw hK hc i pins s σ H E I hf st hg
  subst hP hw hK
  obtain⟨h1,h2,⟨c,d,h3⟩,h4,h5⟩:=st
  obtain⟨hqa,hqb,hi,hj⟩:=hg
  obtain⟨its,rv,pl,hz⟩:=I.tuple hqa
  obtain⟨its2,rv2,pl2,hz2⟩:=I.tuple hqb
  obtain⟨u,hu,ru⟩:=rv.get (An hi)
  obtain⟨v,hv,rvv⟩:=rv2.get (An hj)
  refine Zt.next_item D (Zt.side_tuple i1 a D.a.2.2.2.1 its.toArray) (Zt.side_tuple i2 b D.b.2.2.2.2 its2.toArray) h1 h2 h3 ⟨h4,pl⟩ ⟨h5,pl2⟩ (x:=u) (y:=v) (by simpa using hu) (by simpa using hv) fun h' c1 c2 c3 c4 c5 hk=>?_
  refine⟨_,rfl,wpAny_letOwnedTupleGo_zip c1 fun h'' z' sb=>?_⟩
  have nd:=D.nd
  simp only[Cr,Ar,Ji,or_false,not_or,not_false_eq_true,Cy,and_true] at nd
  obtain⟨⟨zI,zO,z1,z2⟩,⟨IO,I1',I2'⟩,⟨O1,O2⟩,n12⟩:=nd
  have hfr:H s.heap.objs.size=none:=I.hok.fresh (Ai _)
  have ltz:z < s.heap.objs.size:=Ap h1
  have keep2:∀ q o,q∉[z,TI,TO,i1,i2]->s.heap.get? q=some o->h''.get? q=some o:=fun q o hq e=>by
   simp only[Ar,Cq,or_false,not_or] at hq
   exact(sb.2 q hq.1).trans (hk q o hq.1 hq.2.2.1 hq.2.2.2.1 hq.2.2.2.2 e)
  have hp2:h''.get? s.heap.objs.size=some {cls:=.type "tuple",data:=.seq [u,v].toArray}:=(sb.2 _ (Ct ltz)).trans c5
  have I1:Inv X pins σ (aS H s.heap.objs.size (.tup [xs[i],ys[i]])) {s with heap:=h'',toks:=s.toks}:=I.laidT (its:=[u,v]) hf keep2 (by show 2<=Am;decide) (.cons ru (.cons rvv .nil)) hp2
  have low:∀ q∈[z,TI,TO,i1,i2],q < s.heap.objs.size:=fun q hq=>by
   simp only[Ar,Cq,or_false] at hq
   rcases hq with rfl | rfl | rfl | rfl | rfl
   ·exact ltz
   ·exact Ap h2
   ·exact Ap h3
   ·obtain⟨_,e,_⟩:=h4;exact Ap e
   ·obtain⟨_,e,_⟩:=h5;exact Ap e
  refine⟨.ref s.heap.objs.size,_,I1,rfl,⟨s.heap.objs.size,xs[i],ys[i],An hi,An hj,hfr,rfl,rfl⟩,⟨z',(sb.2 _ (Bf zI)).trans (hk _ _ (Bf zI) IO I1' I2' h2),⟨u,v,(sb.2 _ (Bf zO)).trans c2⟩,?_,?_⟩,fun q hq=>?_⟩
  ·obtain⟨o,e,r⟩:=c3.1;exact⟨o,(sb.2 _ (Bf z1)).trans e,r⟩
  ·obtain⟨o,e,r⟩:=c4.1;exact⟨o,(sb.2 _ (Bf z2)).trans e,r⟩
  ·rw[bF (Bg (low q hq))];exact(hf q hq).1
 done:=by
  intro X hP hw hK hc i pins s σ H E I hf st hg
  subst hP hw hK
  obtain⟨h1,h2,⟨c,d,h3⟩,h4,h5⟩:=st
  obtain⟨hqa,hqb,hij⟩:=hg
  obtain⟨its,rv,pl,hz⟩:=I.tuple hqa
  obtain⟨its2,rv2,pl2,hz2⟩:=I.tuple hqb
  have l1:=rv.length
  have l2:=rv2.length
  refine Zt.next_stop (I.ok.hd hc) D (Zt.side_tuple i1 a D.a.2.2.2.1 its.toArray) (Zt.side_tuple i2 b D.b.2.2.2.2 its2.toArray) h1 h2 h3 ⟨h4,pl⟩ ⟨h5,pl2⟩ (hij.elim (fun q=>.inl (by simp;lia)) fun q=>.inr (by simp;lia)) fun h' hk=>⟨rfl,?_⟩
  exact I.turnedT (tk:=s.toks) hf fun q o hq e=>hk q o (fun y=>hq (by simp[y])) (fun y=>hq (by simp[y])) (fun y=>hq (by simp[y])) (fun y=>hq (by simp[y])) e
 self:=fun _ _ _ _ _ st h=>Lp st.1 h
theorem UK(n:Nat) : [n + 4,n + 2,n + 3,n,n + 1].Nodup:=by
 simp only[Cr,Ar,Ji,or_false,not_or,not_false_eq_true,Cy,and_true]
 lia
theorem tF{n q:Nat}(h:q∈[n + 4,n + 2,n + 3,n,n + 1]):n<=q:=by
 simp only[Ar,Cq,or_false] at h
 lia
section
variable {X:Cx}
theorem UL{pins:List (Addr×Obj)}{s1:Ag}{σ:St}{H1:Hp}{R:It->Hp->Prop}{a b:Addr}{xs ys:List V}{es:List Expr}{kx:Nat}{px:Pos}(I1:Inv X pins σ H1 s1)(hqa:bL X.K H1 a xs)(hqb:bL X.K H1 b ys)(q:R (tE X.K a b xs ys) H1) :
  Bc (Bn X.prog X.w) X.A (call (.type "zip") [.ref a,.ref b]) (fun v s1=>Bc (Bn X.prog X.w) X.A (pyIter v) (p8 X pins σ (.Tuple es kx px) R) X.xe s1) X.xe s1:=by
 obtain⟨its,rv1,pl,hz⟩:=I1.tuple hqa
 obtain⟨its2,rv2,pl2,hz2⟩:=I1.tuple hqb
 have la:a < s1.heap.objs.size:=by obtain⟨_,e,_⟩:=(show s1.heap.IsTuple a its.toArray from pl);exact Ap e
 have lb:b < s1.heap.objs.size:=by obtain⟨_,e,_⟩:=(show s1.heap.IsTuple b its2.toArray from pl2);exact Ap e
 have y1:(Zt.zh1 s1.heap a).objs.size=s1.heap.objs.size + 1:=Du ..
 have y2:(Zt.zh2 s1.heap a b).objs.size=s1.heap.objs.size + 2:=by rw[Du,y1]
 have y3:(Zt.zh3 s1.heap a b).objs.size=s1.heap.objs.size + 3:=by rw[Du,y2]
 have y4:(Zt.zh4 s1.heap a b).objs.size=s1.heap.objs.size + 4:=by rw[Du,y3]
 have kall:∀ c o,s1.heap.get? c=some o->(Zt.zh5 s1.heap a b).get? c=some o:=fun c o e=>Af _ (Af _ (Af _ (Af _ (Af _ e))))
 have e5:(Zt.zh5 s1.heap a b).get? (Zt.zh4 s1.heap a b).objs.size=some _:=Az _ rfl
 have e4:(Zt.zh5 s1.heap a b).get? (Zt.zh3 s1.heap a b).objs.size=some _:=Af _ (Az _ rfl)
 have e3:(Zt.zh5 s1.heap a b).get? (Zt.zh2 s1.heap a b).objs.size=some _:=Af _ (Af _ (Az _ rfl))
 have e2:(Zt.zh5 s1.heap a b).get? (Zt.zh1 s1.heap a).objs.size=some _:=Af _ (Af _ (Af _ (Az _ rfl)))
 have e1:(Zt.zh5 s1.heap a b).get? s1.heap.objs.size=some _:=Af _ (Af _ (Af _ (Af _ (Az _ rfl))))
 refine callType_new F.called_zip (by decide) (F.typeCall_zip_2 _ _) (F.newCall_zip_2 _ _) (fun obj=>F.args_object_init_3 obj _ _) F.entry_zip_new (Zt.meets_new a b its.toArray its2.toArray) ⟨pl,pl2,⟨_,e5,rfl⟩,?_⟩
 refine Lp e5 ?_
 rw[y2,y3,y4] at e5
 rw[y1,y2] at e3
 rw[y3] at e4
 rw[y1] at e2
 rw[y4]
 refine⟨s1.heap.objs.size + 4,[s1.heap.objs.size + 4,s1.heap.objs.size + 2,s1.heap.objs.size + 3,s1.heap.objs.size,s1.heap.objs.size + 1],_,_,H1,rfl,I1.kept (t':=s1.toks) kall,
  UJ a b (s1.heap.objs.size + 4) (s1.heap.objs.size + 2) (s1.heap.objs.size + 3) s1.heap.objs.size (s1.heap.objs.size + 1) xs ys ⟨UK _,⟨iI 4 la,iI 2 la,iI 3 la,tB la,iI 1 la⟩,⟨iI 4 lb,iI 2 lb,iI 3 lb,tB lb,iI 1 lb⟩⟩,⟨e5,e3,⟨_,_,e4⟩,⟨_,e1,rfl,rfl⟩,⟨_,e2,rfl,rfl⟩⟩,fun q hq=>I1.fpOk (tF hq) (I1.hok.fresh (tF hq)),q⟩
theorem UM{pins:List (Addr×Obj)}{s1:Ag}{σ:St}{H1:Hp}{R:It->Hp->Prop}{a b:Addr}{xs ys:List V}{es:List Expr}{kx:Nat}{px:Pos}(I1:Inv X pins σ H1 s1)(hqa:bD X.K H1 a xs)(hqb:bD X.K H1 b ys)(q:R (tD X.K a b xs ys) H1) :
  Bc (Bn X.prog X.w) X.A (call (.type "zip") [.ref a,.ref b]) (fun v s1=>Bc (Bn X.prog X.w) X.A (pyIter v) (p8 X pins σ (.Tuple es kx px) R) X.xe s1) X.xe s1:=by
 obtain⟨its,rv1,pl,hz⟩:=I1.list hqa
 obtain⟨its2,rv2,pl2,hz2⟩:=I1.list hqb
 have la:a < s1.heap.objs.size:=by obtain⟨_,e,_⟩:=pl.isList;exact Ap e
 have lb:b < s1.heap.objs.size:=by obtain⟨_,e,_⟩:=pl2.isList;exact Ap e
 refine call_zip_2 pl.isList pl2.isList fun h' g1 g2 g3 g4 g5 g6 k=>Lp g1 ?_
 refine⟨s1.heap.objs.size + 4,[s1.heap.objs.size + 4,s1.heap.objs.size + 2,s1.heap.objs.size + 3,s1.heap.objs.size,s1.heap.objs.size + 1],_,_,H1,rfl,I1.kept (t':=s1.toks) k,
  TH a b _ _ _ _ _ xs ys ⟨oQ 2 4 (by decide),oQ 3 4 (by decide),FA 4 (by decide),oQ 1 4 (by decide),oQ 2 3 (by decide),sZ 2 (by decide),oQ 2 1 (by decide),sZ 3 (by decide),oQ 3 1 (by decide),FA 1 (by decide),iI 4 la,iI 3 la,tB la,iI 1 la,iI 4 lb,iI 3 lb,tB lb,iI 1 lb⟩,⟨g1,g2,⟨_,_,g3⟩,g4,g5⟩,fun q hq=>I1.fpOk (tF hq) (I1.hok.fresh (tF hq)),q⟩
def UN(K:Ac)(ta:TA):TI:=fun σ H R=>ta σ H fun vs H1=>∃ a b xs ys,vs=[.ref a,.ref b]/\((bL K H1 a xs/\bL K H1 b ys/\R (tE K a b xs ys) H1)\/(bD K H1 a xs/\bD K H1 b ys/\R (tD K a b xs ys) H1))
theorem UO{a b:Expr}{ta:TA}{p pos:Pos}{es:List Expr}{kx:Nat}{px:Pos}(hg:Gl X "zip")(hm:X.mg "zip" = none)(ha:PA X [a,b] ta)(hs:Bi [a,b] X.env=[(false,eval a X.env),(false,eval b X.env)]:=by rfl)(hs2:Bi [b] X.env=[(false,eval b X.env)]:=by rfl) :
  PI X (.Tuple es kx px) (.Call (.Name "zip" p) [a,b] [] pos) (UN X.K ta):=by
 intro pins s σ H R I h
 refine Call_ (iY I hg hm TJ (Ck (a7 (ha pos pins s σ H _ I h) fun us s1 ⟨vs,H1,I1,r1,q1⟩=>?_) (by rw[hs,hs2]) (by rw[hs2];rfl)))
 obtain⟨a,b,xs,ys,rfl,q1⟩:=q1
 obtain⟨u,v,rfl,ru,rv⟩:=vals2 r1
 cases ru;cases rv
 rcases q1 with⟨h1,h2,q⟩ | ⟨h1,h2,q⟩
 ·exact UL I1 h1 h2 q
 ·exact UM I1 h1 h2 q
end
end L2
namespace L3
open PySem PySem.Spec PyProof.Rows L2
abbrev SV:=L2.St
inductive W where
 | non | bl (b:Bool) | int (i:Int) | str (x:Str) | ty (n:String) | tup (ws:List W) | rl (ws:List W) | sc (ws:List W) | ref (a:Addr)
 | dk (kvs:List (aD×W)) | dt (kvs:List (List aD×W)) | fk (kvs:List (aD×W)) | ft (kvs:List (List aD×W))
inductive MO where
 | lst (ws:List W) | dK (kvs:List (aD×W)) | dT (kvs:List (List aD×W)) | fix (vs:List V) | ins (C dx:Addr) (fs:List (Str×W))
abbrev Mm:=Addr->Option MO
def put(M:Mm)(a:Addr)(o:MO):Mm:=fun b=>if b=a then some o else M b
def del(M:Mm)(a:Addr):Mm:=fun b=>if b=a then none else M b
theorem aT{M:Mm}{a:Addr}{o:MO}:put M a o a=some o:=by unfold put;rw[if_pos rfl]
theorem aN{M:Mm}{a b:Addr}{o:MO}(h:b≠a):put M a o b=M b:=by unfold put;rw[if_neg h]
theorem gP{M:Mm}{a:Addr}{o u:MO}:put (put M a o) a u=put M a u:=by
 funext b;unfold put;split <;> rfl
theorem i7{M:Mm}{a:Addr}{o:MO}(h:M a=none):del (put M a o) a=M:=by
 funext b;unfold del put;split
 ·rename_i e;rw[e,h]
 ·rfl
theorem oR{M:Mm}{a:Addr}:del M a a=none:=by unfold del;rw[if_pos rfl]
theorem l8{M:Mm}{a b:Addr}(h:b≠a):del M a b=M b:=by unfold del;rw[if_neg h]
theorem wM{M:Mm}{a b:Addr}{o u:MO}(h:a≠b):put (put M a o) b u=put (put M b u) a o:=by
 funext c
 unfold put
 by_cases h1:c=b
 ·by_cases h2:c=a
  ·exact absurd (h2.symm.trans h1) h
  ·rw[if_pos h1,if_neg h2,if_pos h1]
 ·by_cases h2:c=a
  ·rw[if_neg h1,if_pos h2,if_pos h2]
  ·rw[if_neg h1,if_neg h2,if_neg h2,if_neg h1]
theorem UP{M:Mm}{a:Addr}{o:MO}(h:M a=some o):put M a o=M:=by
 funext b;unfold put;split
 ·rename_i e;rw[e,h]
 ·rfl
def Sub(M M':Mm):Prop:=∀ a o,M a=some o->M' a=some o
theorem Sub.refl(M:Mm):Sub M M:=fun _ _ h=>h
theorem Sub.trans{M M1 M2:Mm}(a:Sub M M1)(b:Sub M1 M2):Sub M M2:=fun c o h=>b c o (a c o h)
theorem Sub.new{M:Mm}{a:Addr}{o:MO}(h:M a=none):Sub M (put M a o):=fun b u e=>by
 rw[aN (fun z=>by rw[z,h] at e;cases e)];exact e
theorem Sub.put{M M':Mm}{a:Addr}{o:MO}(h:Sub M M'):Sub (put M a o) (put M' a o):=fun b u e=>by
 unfold L3.put at e ⊢
 split at e
 ·rename_i z;rw[if_pos z];exact e
 ·rename_i z;rw[if_neg z];exact h b u e
theorem Sub.del{M:Mm}{a:Addr}:Sub (del M a) M:=fun b u e=>by
 unfold L3.del at e
 split at e
 ·cases e
 ·exact e
theorem Sub.non{M M':Mm}(h:Sub M M'){a:Addr}(e:M' a=none):M a=none:=by
 cases q:M a with
 | none=>rfl
 | some o=>rw[h a o q] at e;cases e
def lC(K:Ac)(H:Hp)(a:Addr)(xs:List V):Prop:=
 (∃ o,H a=some (.frz o (.lst xs)))\/
  ∃ (o:Obj) (its:Array Ae) (n:Nat),K.lookup a=some o/\o.cls=.type "list"/\o.dict=none/\o.data=.seq its n/\its.size<=Am/\aZ xs its.toList
theorem lC.sq{K:Ac}{H:Hp}{a:Addr}{xs:List V}(h:lC K H a xs):bD K H a xs:=by
 rcases h with⟨o,h⟩ | h
 ·exact .inl (.inr ⟨o,h⟩)
 ·exact .inr h
mutual
inductive AV(K:Ac)(H:Hp)(M:Mm):V->W->Prop
 | non:AV K H M .non .non
 | bl (b:Bool):AV K H M (.bl b) (.bl b)
 | int (i:Int):AV K H M (.int i) (.int i)
 | str (x:Str):AV K H M (.str x) (.str x)
 | ty (n:String):AV K H M (.ty n) (.ty n)
 | tup {a:Addr} {xs:List V} {ws:List W}:H a=some (.tup xs)->aM K H M xs ws->AV K H M (.ref a) (.tup ws)
 | sc {a:Addr} {xs:List V} {ws:List W}:lC K H a xs->aM K H M xs ws->AV K H M (.ref a) (.sc ws)
 | rl {a:Addr} {xs:List V} {ws:List W}:H a=some (.lst xs)->M a=none->aM K H M xs ws->AV K H M (.ref a) (.rl ws)
 | ref (a:Addr):AV K H M (.ref a) (.ref a)
 | dk {a:Addr} {ks:List (aD×V)} {kvs:List (aD×W)}:H a=some (.dK ks)->M a=none->ks.map Fj=kvs.map Fj->aM K H M (ks.map Hc) (kvs.map Hc)->AV K H M (.ref a) (.dk kvs)
 | dt {a:Addr} {ks:List (List aD×V)} {kvs:List (List aD×W)}:H a=some (.dT ks)->M a=none->ks.map Fj=kvs.map Fj->aM K H M (ks.map Hc) (kvs.map Hc)->AV K H M (.ref a) (.dt kvs)
 | fk {a:Addr} {o:Obj} {ks:List (aD×V)} {kvs:List (aD×W)}:H a=some (.frz o (.dK ks))->ks.map Fj=kvs.map Fj->aM K H M (ks.map Hc) (kvs.map Hc)->AV K H M (.ref a) (.fk kvs)
 | ft {a:Addr} {o:Obj} {ks:List (List aD×V)} {kvs:List (List aD×W)}:H a=some (.frz o (.dT ks))->ks.map Fj=kvs.map Fj->aM K H M (ks.map Hc) (kvs.map Hc)->AV K H M (.ref a) (.ft kvs)
inductive aM(K:Ac)(H:Hp)(M:Mm):List V->List W->Prop
 | nil:aM K H M [] []
 | cons {v:V} {vs:List V} {w:W} {ws:List W}:AV K H M v w->aM K H M vs ws->aM K H M (v :: vs) (w :: ws)
end
abbrev bQ(K:Ac)(H:Hp)(M:Mm)(κ:Type):List (κ×V)->List (κ×W)->Prop:=Ha fun p q=>p.1=q.1/\AV K H M p.2 q.2
theorem oS{K:Ac}{H:Hp}{M:Mm}{κ:Type}:∀ {ks:List (κ×V)} {kvs:List (κ×W)},ks.map Fj=kvs.map Fj->aM K H M (ks.map Hc) (kvs.map Hc)->bQ K H M κ ks kvs
 | [],[],_,_=>.nil
 | [],_ :: _,e,_=>by simp at e
 | _ :: _,[],e,_=>by simp at e
 | p :: ps,q :: qs,e,h=>by
  rw[Ay,Ay] at e h
  rw[Cs] at e
  cases h with
  | cons x r=>exact .cons ⟨e.1,x⟩ (oS e.2 r)
theorem bQ.keys{K:Ac}{H:Hp}{M:Mm}{κ:Type}{ks:List (κ×V)}{kvs:List (κ×W)}(h:bQ K H M κ ks kvs):ks.map Fj=kvs.map Fj:=by
 induction h with
 | nil=>rfl
 | cons r _ ih=>rw[Ay,Ay,ih,r.1]
theorem bQ.vals{K:Ac}{H:Hp}{M:Mm}{κ:Type}{ks:List (κ×V)}{kvs:List (κ×W)}(h:bQ K H M κ ks kvs):aM K H M (ks.map Hc) (kvs.map Hc):=by
 induction h with
 | nil=>exact .nil
 | cons r _ ih=>exact .cons r.2 ih
def AO(K:Ac)(H:Hp)(M:Mm)(a:Addr):MO->Prop
 | .lst ws=>∃ vs,H a=some (.lst vs)/\aM K H M vs ws
 | .dK kvs=>∃ ks,H a=some (.dK ks)/\bQ K H M aD ks kvs
 | .dT kvs=>∃ ks,H a=some (.dT ks)/\bQ K H M (List aD) ks kvs
 | .fix vs=>H a=some (.lst vs)
 | .ins C dx fs=>∃ gs,H a=some (.ins C dx gs)/\bQ K H M Str gs fs
def AM(K:Ac)(H:Hp)(M:Mm):Prop:=∀ a o,M a=some o->AO K H M a o
structure Kp(H:Hp)(M:Mm)(H':Hp)(M':Mm):Prop where
 fr:∀ a o,M a=none->H a=some o->H' a=some o/\M' a=none
 dom:∀ a o,M a=some o->∃ u,H' a=some u
structure Go(H:Hp)(M:Mm)(H':Hp)(M':Mm):Prop where
 ht:∀ b xs,H b=some (.tup xs)->H' b=some (.tup xs)
 hf:∀ b o u,H b=some (.frz o u)->H' b=some (.frz o u)
 hl:∀ b o,M b=none->H b=some o->H' b=some o/\M' b=none
section
variable {K:Ac}{H H' H1 H2:Hp}{M M' M1 M2:Mm}{a:Addr}
theorem AO.has{o:MO}(h:AO K H M a o):∃ u,H a=some u:=by
 cases o with
 | lst ws=>obtain⟨vs,e,_⟩:=h;exact⟨_,e⟩
 | dK kvs=>obtain⟨ks,e,_⟩:=h;exact⟨_,e⟩
 | dT kvs=>obtain⟨ks,e,_⟩:=h;exact⟨_,e⟩
 | fix vs=>exact⟨_,h⟩
 | ins C dx fs=>obtain⟨gs,e,_⟩:=h;exact⟨_,e⟩
theorem AM.nonM(am:AM K H M)(h:H a=none):M a=none:=by
 cases q:M a with
 | none=>rfl
 | some o=>obtain⟨u,e⟩:=(am a o q).has;rw[h] at e;cases e
theorem AM.noTup(am:AM K H M){xs:List V}(h:H a=some (.tup xs)):M a=none:=by
 cases q:M a with
 | none=>rfl
 | some o=>
  have:=am a o q
  cases o with
  | lst ws=>obtain⟨vs,e,_⟩:=this;rw[h] at e;cases e
  | dK kvs=>obtain⟨ks,e,_⟩:=this;rw[h] at e;cases e
  | dT kvs=>obtain⟨ks,e,_⟩:=this;rw[h] at e;cases e
  | fix vs=>have e:H a=some (.lst vs):=this;rw[h] at e;cases e
  | ins C dx fs=>obtain⟨gs,e,_⟩:=this;rw[h] at e;cases e
theorem AM.noFrz(am:AM K H M){ob:Obj}{u:HO}(h:H a=some (.frz ob u)):M a=none:=by
 cases q:M a with
 | none=>rfl
 | some o=>
  have:=am a o q
  cases o with
  | lst ws=>obtain⟨vs,e,_⟩:=this;rw[h] at e;cases e
  | dK kvs=>obtain⟨ks,e,_⟩:=this;rw[h] at e;cases e
  | dT kvs=>obtain⟨ks,e,_⟩:=this;rw[h] at e;cases e
  | fix vs=>have e:H a=some (.lst vs):=this;rw[h] at e;cases e
  | ins C dx fs=>obtain⟨gs,e,_⟩:=this;rw[h] at e;cases e
theorem Kp.refl(am:AM K H M):Kp H M H M:=⟨fun a o h e=>⟨e,h⟩,fun a o h=>(am a o h).has⟩
theorem Kp.trans(x:Kp H M H1 M1)(y:Kp H1 M1 H2 M2):Kp H M H2 M2 where
 fr:=fun a o h e=>by
  obtain⟨e1,n1⟩:=x.fr a o h e
  exact y.fr a o n1 e1
 dom:=fun a o h=>by
  obtain⟨u,e⟩:=x.dom a o h
  cases q:M1 a with
  | none=>exact⟨u,(y.fr a u q e).1⟩
  | some o1=>exact y.dom a o1 q
theorem Kp.sub(x:Kp H M H1 M1)(h:Sub M2 M1):Kp H M H1 M2 where
 fr:=fun a o n e=>⟨(x.fr a o n e).1,h.non (x.fr a o n e).2⟩
 dom:=x.dom
theorem Kp.go(am:AM K H M)(k:Kp H M H' M'):Go H M H' M':=⟨fun b xs e=>(k.fr b _ (am.noTup e) e).1,fun b o u e=>(k.fr b _ (am.noFrz e) e).1,k.fr⟩
theorem Go.sub(h:Sub M' M):Go H M H M':=⟨fun _ _ e=>e,fun _ _ _ e=>e,fun b o n e=>⟨e,h.non n⟩⟩
theorem AV.go(g:Go H M H' M'){v:V}{w:W}(h:AV K H M v w):AV K H' M' v w:=AV.rec (motive_1:=fun v w _=>AV K H' M' v w) (motive_2:=fun vs ws _=>aM K H' M' vs ws) .non .bl .int .str .ty (fun e _ q=>.tup (g.ht _ _ e) q) (fun e _ q=>.sc (e.elim (fun z=>.inl (z.elim fun o q=>⟨o,g.hf _ _ _ q⟩)) .inr) q) (fun e n _ q=>.rl (g.hl _ _ n e).1 (g.hl _ _ n e).2 q) .ref
  (fun e n ke _ q=>.dk (g.hl _ _ n e).1 (g.hl _ _ n e).2 ke q) (fun e n ke _ q=>.dt (g.hl _ _ n e).1 (g.hl _ _ n e).2 ke q) (fun e ke _ q=>.fk (g.hf _ _ _ e) ke q) (fun e ke _ q=>.ft (g.hf _ _ _ e) ke q) .nil (fun _ _ x r=>.cons x r) h
theorem aM.go(g:Go H M H' M'){vs:List V}{ws:List W}(h:aM K H M vs ws):aM K H' M' vs ws:=aM.rec (motive_1:=fun v w _=>AV K H' M' v w) (motive_2:=fun vs ws _=>aM K H' M' vs ws) .non .bl .int .str .ty (fun e _ q=>.tup (g.ht _ _ e) q) (fun e _ q=>.sc (e.elim (fun z=>.inl (z.elim fun o q=>⟨o,g.hf _ _ _ q⟩)) .inr) q) (fun e n _ q=>.rl (g.hl _ _ n e).1 (g.hl _ _ n e).2 q) .ref
  (fun e n ke _ q=>.dk (g.hl _ _ n e).1 (g.hl _ _ n e).2 ke q) (fun e n ke _ q=>.dt (g.hl _ _ n e).1 (g.hl _ _ n e).2 ke q) (fun e ke _ q=>.fk (g.hf _ _ _ e) ke q) (fun e ke _ q=>.ft (g.hf _ _ _ e) ke q) .nil (fun _ _ x r=>.cons x r) h
theorem bQ.go{κ:Type}{ks:List (κ×V)}{kvs:List (κ×W)}(g:Go H M H' M')(h:bQ K H M κ ks kvs):bQ K H' M' κ ks kvs:=Paired.mapP h fun p q z=>⟨z.1,z.2.go g⟩
theorem AO.go{o:MO}(g:Go H M H' M')(e:H' a=H a)(h:AO K H M a o):AO K H' M' a o:=by
 cases o with
 | lst ws=>obtain⟨vs,e1,r⟩:=h;exact⟨vs,by rw[e];exact e1,r.go g⟩
 | dK kvs=>obtain⟨vs,e1,r⟩:=h;exact⟨vs,by rw[e];exact e1,r.go g⟩
 | dT kvs=>obtain⟨vs,e1,r⟩:=h;exact⟨vs,by rw[e];exact e1,r.go g⟩
 | fix vs=>exact e.trans h
 | ins C dx fs=>obtain⟨gs,e1,r⟩:=h;exact⟨gs,by rw[e];exact e1,r.go g⟩
theorem AM.sub(am:AM K H M')(h:Sub M M'):AM K H M:=fun a o e=>(am a o (h a o e)).go (Go.sub h) rfl
theorem AV.sub(h:Sub M' M){v:V}{w:W}(x:AV K H M v w):AV K H M' v w:=x.go (Go.sub h)
theorem aM.sub(h:Sub M' M){v:List V}{w:List W}(x:aM K H M v w):aM K H M' v w:=x.go (Go.sub h)
theorem AV.kp(am:AM K H M)(k:Kp H M H' M'){v:V}{w:W}(h:AV K H M v w):AV K H' M' v w:=h.go (k.go am)
theorem aM.kp(am:AM K H M)(k:Kp H M H' M'){vs:List V}{ws:List W}(h:aM K H M vs ws):aM K H' M' vs ws:=h.go (k.go am)
theorem aM.length:∀ {vs:List V} {ws:List W},aM K H M vs ws->vs.length=ws.length
 | _,_,.nil=>rfl
 | _,_,.cons _ r=>by simp[aM.length r]
theorem aM.append:∀ {vs us:List V} {ws zs:List W},aM K H M vs ws->aM K H M us zs->aM K H M (vs ++ us) (ws ++ zs)
 | _,_,_,_,.nil,s=>s
 | _,_,_,_,.cons x r,s=>.cons x (aM.append r s)
theorem aM.getW:∀ {vs:List V} {ws:List W} {i:Nat} {w:W},aM K H M vs ws->ws[i]? = some w->∃ v,vs[i]? = some v/\AV K H M v w
 | _,_,_,_,.nil,e=>by simp at e
 | _,_,0,_,.cons x _,e=>by simp at e;subst e;exact⟨_,rfl,x⟩
 | _,_,i + 1,w,.cons _ r,e=>by
  obtain⟨v,h1,h2⟩:=aM.getW (i:=i) (w:=w) r (by simpa using e)
  exact⟨v,by simpa using h1,h2⟩
theorem aM.getV:∀ {vs:List V} {ws:List W} {i:Nat} {v:V},aM K H M vs ws->vs[i]? = some v->∃ w,ws[i]? = some w/\AV K H M v w
 | _,_,_,_,.nil,e=>by simp at e
 | _,_,0,_,.cons x _,e=>by simp at e;subst e;exact⟨_,rfl,x⟩
 | _,_,i + 1,v,.cons _ r,e=>by
  obtain⟨w,h1,h2⟩:=aM.getV (i:=i) (v:=v) r (by simpa using e)
  exact⟨w,by simpa using h1,h2⟩
theorem aM.set{v:V}{w:W}(x:AV K H M v w):∀ {vs:List V} {ws:List W} (i:Nat),aM K H M vs ws->aM K H M (vs.set i v) (ws.set i w)
 | _,_,_,.nil=>.nil
 | _,_,0,.cons _ t=>.cons x t
 | _,_,i + 1,.cons q t=>.cons q (aM.set x i t)
theorem aM.take:∀ {vs:List V} {ws:List W} (n:Nat),aM K H M vs ws->aM K H M (vs.take n) (ws.take n)
 | _,_,0,_=>by simp;exact .nil
 | _,_,_ + 1,.nil=>.nil
 | _,_,n + 1,.cons x t=>.cons x (aM.take n t)
theorem aM.drop:∀ {vs:List V} {ws:List W} (n:Nat),aM K H M vs ws->aM K H M (vs.drop n) (ws.drop n)
 | _,_,0,h=>h
 | _,_,_ + 1,.nil=>.nil
 | _,_,n + 1,.cons _ t=>aM.drop n t
theorem aM.reverse{vs:List V}{ws:List W}(h:aM K H M vs ws):aM K H M vs.reverse ws.reverse:=by
 induction vs generalizing ws with
 | nil=>cases h;exact .nil
 | cons v vs ih=>
  cases h with
  | cons x r=>rw[List.reverse_cons,List.reverse_cons];exact(ih r).append (.cons x .nil)
theorem aM.dropLast{vs:List V}{ws:List W}(h:aM K H M vs ws):aM K H M vs.dropLast ws.dropLast:=by
 rw[List.dropLast_eq_take,List.dropLast_eq_take,h.length];exact h.take _
theorem aM.flatRep{vs:List V}{ws:List W}(h:aM K H M vs ws):∀ n:Nat,aM K H M (Bt n vs).flatten (Bt n ws).flatten
 | 0=>.nil
 | n + 1=>by
  rw[Fq,Fq,Gj,Gj]
  exact h.append (aM.flatRep h n)
theorem aM.int(is:List Int):aM K H M (is.map V.int) (is.map W.int):=by
 induction is with
 | nil=>exact .nil
 | cons i r ih=>exact .cons (.int i) ih
theorem FK{p:Addr}{u:HO}(hp:H p=none)(hs:∀ b,b≠p->M b=none->M' b=none):Go H M (aS H p u) M':=
 ⟨fun b xs e=>by rw[bF (eE e hp)];exact e,fun b o x e=>by rw[bF (eE e hp)];exact e,fun b o n e=>⟨by rw[bF (eE e hp)];exact e,hs b (eE e hp) n⟩⟩
theorem FL{p:Addr}{o:MO}{u:HO}(hp:H p=none):Go H M (aS H p u) (put M p o):=FK hp fun b ne n=>by rw[aN ne];exact n
theorem go_same{p:Addr}{u:HO}(hp:H p=none):Go H M (aS H p u) M:=FK hp fun b ne n=>n
theorem AM.laid{p:Addr}{o:MO}{u:HO}(am:AM K H M)(hp:H p=none)(h:AO K (aS H p u) (put M p o) p o):AM K (aS H p u) (put M p o)/\Kp H M (aS H p u) (put M p o):=by
 refine⟨fun a x e=>?_,fun a x h e=>⟨?_,?_⟩,fun a x h=>?_⟩
 ·by_cases ha:a=p
  ·subst ha;rw[aT] at e;cases e;exact h
  ·rw[aN ha] at e
   exact(am a x e).go (FL hp) (bF ha)
 ·rw[bF (eE e hp)];exact e
 ·rw[aN (eE e hp)];exact h
 ·obtain⟨y,e⟩:=(am a x h).has
  exact⟨y,by rw[bF (eE e hp)];exact e⟩
theorem FN{p:Addr}{o u:MO}:Go H (put M p o) H (put M p u):=⟨fun _ _ e=>e,fun _ _ _ e=>e,fun b x n e=>⟨e,by
 have ne:b≠p:=fun z=>by rw[z,aT] at n;cases n
 rw[aN ne] at n ⊢;exact n⟩⟩
theorem AM.tup{p:Addr}{u:HO}(am:AM K H M)(hp:H p=none):AM K (aS H p u) M/\Kp H M (aS H p u) M:=by
 refine⟨fun a x e=>?_,fun a x h e=>⟨?_,h⟩,fun a x h=>?_⟩
 ·have ne:a≠p:=fun z=>by rw[z,am.nonM hp] at e;cases e
  exact(am a x e).go (go_same hp) (bF ne)
 ·rw[bF (eE e hp)];exact e
 ·obtain⟨y,e⟩:=(am a x h).has
  exact⟨y,by rw[bF (eE e hp)];exact e⟩
theorem oT{l:Addr}{o0 o:MO}{u:HO}(am:AM K H M)(hl:M l=some o0):Go H M (aS H l u) (put M l o):=
 ⟨fun b xs e=>by rw[bF (fun z=>by rw[<-z,am.noTup e] at hl;cases hl)];exact e,fun b ob x e=>by rw[bF (fun z=>by rw[<-z,am.noFrz e] at hl;cases hl)];exact e,
   fun b x n e=>by
  have ne:b≠l:=fun z=>by rw[<-z,n] at hl;cases hl
  rw[bF ne,aN ne];exact⟨e,n⟩⟩
theorem AM.write{l:Addr}{o0 o:MO}{u:HO}(am:AM K H M)(hl:M l=some o0)(h:AO K (aS H l u) (put M l o) l o):AM K (aS H l u) (put M l o)/\Kp H M (aS H l u) (put M l o):=by
 refine⟨fun a x e=>?_,fun a x h e=>?_,fun a x h=>?_⟩
 ·by_cases ha:a=l
  ·subst ha;rw[aT] at e;cases e;exact h
  ·rw[aN ha] at e
   exact(am a x e).go (oT am hl) (bF ha)
 ·have:a≠l:=fun z=>by rw[z,hl] at h;cases h
  rw[bF this,aN this];exact⟨e,h⟩
 ·by_cases ha:a=l
  ·subst ha;exact⟨u,cJ⟩
  ·obtain⟨y,e⟩:=(am a x h).has
   exact⟨y,by rw[bF ha];exact e⟩
theorem AM.lst(am:AM K H M){ws:List W}(h:M a=some (.lst ws)):∃ vs,H a=some (.lst vs)/\aM K H M vs ws:=am a _ h
theorem aM.newT{p:Addr}{u:HO}{vs:List V}{ws:List W}(hp:H p=none)(h:aM K H M vs ws):aM K (aS H p u) M vs ws:=h.go (go_same hp)
theorem aM.newL{p:Addr}{u:HO}{o:MO}{vs:List V}{ws:List W}(hp:H p=none)(h:aM K H M vs ws):aM K (aS H p u) (put M p o) vs ws:=h.go (FL hp)
theorem aM.wr{l:Addr}{o0 o:MO}{u:HO}{vs:List V}{ws:List W}(am:AM K H M)(hl:M l=some o0)(h:aM K H M vs ws):aM K (aS H l u) (put M l o) vs ws:=h.go (oT am hl)
theorem AV.wr{l:Addr}{o0 o:MO}{u:HO}{v:V}{w:W}(am:AM K H M)(hl:M l=some o0)(h:AV K H M v w):AV K (aS H l u) (put M l o) v w:=h.go (oT am hl)
end
abbrev S3:=List (Option W)
abbrev K3:=W->Mm->Prop
abbrev aY:=S3->Mm->K3->Prop
abbrev dR:=S3->Mm->(Bool->Mm->Prop)->Prop
abbrev dA:=S3->Mm->(List W->Mm->Prop)->Prop
abbrev R3:=W->W->Mm->K3->Prop
structure D3 where
 nx:S3->Mm->Prop
 rt:K3
 bk:S3->Mm->Prop:=fun _ _=>False
 ct:S3->Mm->Prop:=fun _ _=>False
abbrev aJ:=D3->S3->Mm->Prop
def AS(K:Ac)(H:Hp)(M:Mm):SV->S3->Prop:=Ha fun ov ow=>∀ w,ow=some w->∃ v,ov=some v/\AV K H M v w
section
variable {K:Ac}{H H':Hp}{M M':Mm}
theorem AS.kp(am:AM K H M)(k:Kp H M H' M'){σ:SV}{τ:S3}(h:AS K H M σ τ):AS K H' M' σ τ:=
 Paired.mapP h fun ov ow z w e=>by obtain⟨v,e1,r⟩:=z w e;exact⟨v,e1,r.kp am k⟩
theorem AS.sub{M':Mm}(g:Sub M' M){σ:SV}{τ:S3}(h:AS K H M σ τ):AS K H M' σ τ:=
 Paired.mapP h fun ov ow z w e=>by obtain⟨v,e1,r⟩:=z w e;exact⟨v,e1,r.sub g⟩
theorem AS.get{w:W}:∀ {σ:SV} {τ:S3} {i:Nat},AS K H M σ τ->τ[i]? = some (some w)->∃ v,σ[i]? = some (some v)/\AV K H M v w
 | _,_,_,.nil,e=>by simp at e
 | _,_,0,.cons r _,e=>by
  simp at e
  obtain⟨v,h1,h2⟩:=r w e
  exact⟨v,by rw[h1];rfl,h2⟩
 | _,_,i + 1,.cons _ t,e=>by
  obtain⟨v,h1,h2⟩:=AS.get (i:=i) t (by simpa using e)
  exact⟨v,by simpa using h1,h2⟩
theorem AS.set{v:V}{w:W}(r:AV K H M v w):∀ {σ:SV} {τ:S3} (i:Nat),AS K H M σ τ->AS K H M (σ.set i (some v)) (τ.set i (some w))
 | _,_,_,.nil=>.nil
 | _,_,0,.cons _ t=>.cons (fun x e=>⟨v,rfl,by cases e;exact r⟩) t
 | _,_,i + 1,.cons q t=>.cons q (AS.set r i t)
theorem AS.nones:∀ n:Nat,AS K H M (Bt n none) (Bt n none)
 | 0=>.nil
 | n + 1=>.cons (fun _ e=>nomatch e) (AS.nones n)
theorem AS.start{vs:List V}{ws:List W}(h:aM K H M vs ws)(n:Nat):AS K H M (vs.map some ++ Bt n none) (ws.map some ++ Bt n none):=by
 induction vs generalizing ws with
 | nil=>cases h;exact AS.nones n
 | cons v vs ih=>
  cases h with
  | cons x r=>exact .cons (fun w e=>⟨v,rfl,by cases e;exact x⟩) (ih r)
end
def Up(K:Ac)(H:Hp)(M:Mm)(R:K3)(Q:VK):Prop:=∀ v H' w M',Kp H M H' M'->AM K H' M'->AV K H' M' v w->R w M'->Q v H'
def up(K:Ac)(t:aY):TE:=fun σ H Q=>∃ τ M R,AS K H M σ τ/\AM K H M/\t τ M R/\Up K H M R Q
def kH(K:Ac)(t:dR):TT:=fun σ H Q=>∃ (τ:S3) (M:Mm) (R:Bool->Mm->Prop),AS K H M σ τ/\AM K H M/\t τ M R/\∀ b H' M',Kp H M H' M'->AM K H' M'->R b M'->Q b H'
def oU(K:Ac)(t:dA):TA:=fun σ H Q=>∃ (τ:S3) (M:Mm) (R:List W->Mm->Prop),AS K H M σ τ/\AM K H M/\t τ M R/\∀ vs H' ws M',Kp H M H' M'->AM K H' M'->aM K H' M' vs ws->R ws M'->Q vs H'
def iJ(K:Ac)(H:Hp)(M:Mm)(R:S3->Mm->Prop)(Q:SV->Hp->Prop):Prop:=∀ σ' H' τ' M',Kp H M H' M'->AM K H' M'->AS K H' M' σ' τ'->R τ' M'->Q σ' H'
structure qK(K:Ac)(H:Hp)(M:Mm)(D:D3)(E:k7):Prop where
 nx:iJ K H M D.nx E.nx
 rt:Up K H M D.rt E.rt
 bk:iJ K H M D.bk E.bk
 ct:iJ K H M D.ct E.ct
def qL(K:Ac)(t:aJ):TS:=fun E σ H=>∃ τ M D,AS K H M σ τ/\AM K H M/\t D τ M/\qK K H M D E
section
variable {K:Ac}{H H1:Hp}{M M1:Mm}
theorem Up.kp{R:K3}{Q:VK}(h:Up K H M R Q)(k:Kp H M H1 M1):Up K H1 M1 R Q:=fun v H' w M' k' am av r=>h v H' w M' (k.trans k') am av r
theorem iJ.kp{R:S3->Mm->Prop}{Q:SV->Hp->Prop}(h:iJ K H M R Q)(k:Kp H M H1 M1):iJ K H1 M1 R Q:=fun v H' w M' k' am av r=>h v H' w M' (k.trans k') am av r
theorem qK.kp{D:D3}{E:k7}(h:qK K H M D E)(k:Kp H M H1 M1):qK K H1 M1 D E:=⟨h.nx.kp k,h.rt.kp k,h.bk.kp k,h.ct.kp k⟩
theorem Up.at{R:K3}{Q:VK}(h:Up K H M R Q)(am:AM K H M){v:V}{w:W}(av:AV K H M v w)(r:R w M):Q v H:=h v H w M (Kp.refl am) am av r
end
def frz:W->Mm->K3->Prop
 | .ref p,M,R=>(∃ ws,M p=some (.lst ws)/\R (.rl ws) (del M p))\/(∃ kvs,M p=some (.dK kvs)/\R (.dk kvs) (del M p))\/(∃ kvs,M p=some (.dT kvs)/\R (.dt kvs) (del M p))\/R (.ref p) M
 | w,M,R=>R w M
theorem Up.frz{K:Ac}{H:Hp}{M:Mm}{R:K3}{Q:VK}(h:Up K H M R Q):Up K H M (fun w M'=>frz w M' R) Q:=fun v H' w M' k am av r=>by
 have av':=av
 cases av <;> first | exact h _ _ _ _ k am av' r | skip
 case ref p=>
  rcases r with⟨ws,e,r⟩ | ⟨kvs,e,r⟩ | ⟨kvs,e,r⟩ | r
  ·obtain⟨vs,f,q⟩:=am.lst e
   exact h _ _ _ _ (k.sub Sub.del) (am.sub Sub.del) (.rl f oR (q.sub Sub.del)) r
  ·obtain⟨ks,f,q⟩:=am _ _ e
   exact h _ _ _ _ (k.sub Sub.del) (am.sub Sub.del) (.dk f oR q.keys (q.vals.sub Sub.del)) r
  ·obtain⟨ks,f,q⟩:=am _ _ e
   exact h _ _ _ _ (k.sub Sub.del) (am.sub Sub.del) (.dt f oR q.keys (q.vals.sub Sub.del)) r
  ·exact h _ _ _ _ k am (.ref p) r
theorem UQ{M:Mm}{p:Addr}{ws:List W}{R:K3}(hp:M p=none)(r:R (.rl ws) M):frz (.ref p) (put M p (.lst ws)) R:=.inl ⟨ws,aT,by rw[i7 hp];exact r⟩
theorem UR{M:Mm}{p:Addr}{kvs:List (List aD×W)}{R:K3}(hp:M p=none)(r:R (.dt kvs) M):frz (.ref p) (put M p (.dT kvs)) R:=.inr (.inr (.inl ⟨kvs,aT,by rw[i7 hp];exact r⟩))
def bC(ws:List W)(M:Mm)(R:K3):Prop:=∀ p,M p=none->R (.ref p) (put M p (.lst ws))
def lD(kvs:List (aD×W))(M:Mm)(R:K3):Prop:=∀ p,M p=none->R (.ref p) (put M p (.dK kvs))
def kI(kvs:List (List aD×W))(M:Mm)(R:K3):Prop:=∀ p,M p=none->R (.ref p) (put M p (.dT kvs))
theorem bC.frz{M:Mm}{ws:List W}{R:K3}(r:R (.rl ws) M):bC ws M fun w M'=>L3.frz w M' R:=fun p hp=>UQ hp r
theorem kI.frz{M:Mm}{kvs:List (List aD×W)}{R:K3}(r:R (.dt kvs) M):kI kvs M fun w M'=>L3.frz w M' R:=fun p hp=>UR hp r
def dS(t:aY):aY:=fun τ M R=>t τ M fun w M'=>frz w M' R
def US(K:Ac)(H:Hp)(M:Mm)(v:V):W->Prop
 | .non=>v=.non
 | .bl b=>v=.bl b
 | .int i=>v=.int i
 | .str x=>v=.str x
 | .ty n=>v=.ty n
 | .tup ws=>∃ a xs,v=.ref a/\H a=some (.tup xs)/\aM K H M xs ws
 | .sc ws=>∃ a xs,v=.ref a/\lC K H a xs/\aM K H M xs ws
 | .rl ws=>∃ a xs,v=.ref a/\H a=some (.lst xs)/\M a=none/\aM K H M xs ws
 | .ref a=>v=.ref a
 | .dk kvs=>∃ a ks,v=.ref a/\H a=some (.dK ks)/\M a=none/\bQ K H M aD ks kvs
 | .dt kvs=>∃ a ks,v=.ref a/\H a=some (.dT ks)/\M a=none/\bQ K H M (List aD) ks kvs
 | .fk kvs=>∃ a ks,v=.ref a/\(∃ o,H a=some (.frz o (.dK ks)))/\bQ K H M aD ks kvs
 | .ft kvs=>∃ a ks,v=.ref a/\(∃ o,H a=some (.frz o (.dT ks)))/\bQ K H M (List aD) ks kvs
section
variable {K:Ac}{H:Hp}{M:Mm}{v:V}{vs:List V}{w:W}{ws:List W}{C:Prop}
theorem AV.inv(h:AV K H M v w):US K H M v w:=by
 cases h
 case non | bl | int | str | ty | ref=>rfl
 case tup | sc=>rename_i e q;exact⟨_,_,rfl,e,q⟩
 case rl=>rename_i e n q;exact⟨_,_,rfl,e,n,q⟩
 case dk | dt=>rename_i e n z q;exact⟨_,_,rfl,e,n,oS z q⟩
 case fk | ft=>rename_i e z q;exact⟨_,_,rfl,⟨_,e⟩,oS z q⟩
theorem AV.tupE(h:AV K H M v (.tup ws))(c:∀ a xs,v=.ref a->H a=some (.tup xs)->aM K H M xs ws->C):C:=
 let ⟨a,xs,e,f,q⟩:=h.inv;c a xs e f q
theorem AV.scE(h:AV K H M v (.sc ws))(c:∀ a xs,v=.ref a->lC K H a xs->aM K H M xs ws->C):C:=
 let ⟨a,xs,e,f,q⟩:=h.inv;c a xs e f q
theorem AV.rlE(h:AV K H M v (.rl ws))(c:∀ a xs,v=.ref a->H a=some (.lst xs)->aM K H M xs ws->C):C:=
 let ⟨a,xs,e,f,_,q⟩:=h.inv;c a xs e f q
theorem aM.nil_(h:aM K H M vs []):vs=[]:=by cases h;rfl
theorem aM.one(h:aM K H M vs [w]):∃ v,vs=[v]/\AV K H M v w:=by
 cases h with
 | cons x r=>rw[r.nil_];exact⟨_,rfl,x⟩
theorem aM.oneE(h:aM K H M vs [w])(c:∀ v,vs=[v]->AV K H M v w->C):C:=h.one.elim fun v h=>c v h.1 h.2
theorem aM.two{z:W}(h:aM K H M vs [w,z]):∃ v u,vs=[v,u]/\AV K H M v w/\AV K H M u z:=by
 cases h with
 | cons x r=>obtain⟨u,rfl,y⟩:=r.one;exact⟨_,_,rfl,x,y⟩
theorem AM.lstE{a:Addr}(am:AM K H M)(e:M a=some (.lst ws))(c:∀ xs,H a=some (.lst xs)->aM K H M xs ws->C):C:=(am.lst e).elim fun v h=>c v h.1 h.2
theorem iK{x y:V}(e:vs=[x])(f:x=y):vs=[y]:=by rw[e,f]
end
theorem up.el{K:Ac}{H:Hp}{σ:SV}{C:Prop}{t:aY}{Q:VK}(h:up K t σ H Q)(c:∀ τ M R,AS K H M σ τ->AM K H M->t τ M R->Up K H M R Q->C):C:=by obtain⟨τ,M,R,a,b,h,k⟩:=h;exact c τ M R a b h k
theorem kH.el{K:Ac}{H:Hp}{σ:SV}{C:Prop}{t:dR}{Q:Bool->Hp->Prop}(h:kH K t σ H Q)(c:∀ τ M R,AS K H M σ τ->AM K H M->t τ M R->(∀ b H' M',Kp H M H' M'->AM K H' M'->R b M'->Q b H')->C):C:=by obtain⟨τ,M,R,a,b,h,k⟩:=h;exact c τ M R a b h k
theorem oU.el{K:Ac}{H:Hp}{σ:SV}{C:Prop}{t:dA}{Q:List V->Hp->Prop}(h:oU K t σ H Q)(c:∀ τ M R,AS K H M σ τ->AM K H M->t τ M R->(∀ vs H' ws M',Kp H M H' M'->AM K H' M'->aM K H' M' vs ws->R ws M'->Q vs H')->C):C:=by obtain⟨τ,M,R,a,b,h,k⟩:=h;exact c τ M R a b h k
theorem qL.el{K:Ac}{H:Hp}{σ:SV}{C:Prop}{t:aJ}{E:k7}(h:qL K t E σ H)(c:∀ τ M D,AS K H M σ τ->AM K H M->t D τ M->qK K H M D E->C):C:=by obtain⟨τ,M,D,a,b,h,k⟩:=h;exact c τ M D a b h k
end L3
namespace L2
section
variable {X:Cx}
theorem PE.weak{e:Kx}{t t':TE}(h:PE X e t)(k:∀ σ H Q,t' σ H Q->t σ H Q):PE X e t':=fun pins s σ H Q I q=>h pins s σ H Q I (k σ H Q q)
theorem PT.weak{e:Kx}{t t':TT}(h:PT X e t)(k:∀ σ H Q,t' σ H Q->t σ H Q):PT X e t':=fun pins s σ H Q I q=>h pins s σ H Q I (k σ H Q q)
theorem PW.weak{e:Kx}{t t':TT}(h:PW X e t)(k:∀ σ H Q,t' σ H Q->t σ H Q):PW X e t':=fun wh pins s σ H Q I q=>h wh pins s σ H Q I (k σ H Q q)
theorem PA.weak{es:List Kx}{t t':TA}(h:PA X es t)(k:∀ σ H Q,t' σ H Q->t σ H Q):PA X es t':=fun pos pins s σ H Q I q=>h pos pins s σ H Q I (k σ H Q q)
theorem PS.weak{st:PySem.Stmt}{t t':TS}(h:PS X st t)(k:∀ D σ H,t' D σ H->t D σ H):PS X st t':=fun pins s σ H D I q=>h pins s σ H D I (k D σ H q)
theorem fW.weak{st:List PySem.Stmt}{t t':TS}(h:fW X st t)(k:∀ D σ H,t' D σ H->t D σ H):fW X st t':=fun pins s σ H D I q=>h pins s σ H D I (k D σ H q)
theorem PO.weak{e:Option Kx}{t t':TO}(h:PO X e t)(k:∀ σ H Q,t' σ H Q->t σ H Q):PO X e t':=fun pins s σ H Q I q=>h pins s σ H Q I (k σ H Q q)
theorem iT.weak{es:List Kx}{t t':TT}(h:iT X es t)(k:∀ σ H Q,t' σ H Q->t σ H Q):iT X es t':=fun pins s σ H Q I q=>h pins s σ H Q I (k σ H Q q)
end
end L2
namespace L3
open PySem PySem.Spec PyProof.Rows L2
abbrev E3(X:Cx)(e:Expr)(t:aY):Prop:=PE X e (up X.K t)
abbrev T3(X:Cx)(e:Expr)(t:dR):Prop:=PT X e (kH X.K t)
abbrev W3(X:Cx)(e:Expr)(t:dR):Prop:=PW X e (kH X.K t)
abbrev A3(X:Cx)(es:List Expr)(t:dA):Prop:=PA X es (oU X.K t)
def cL(K:Ac)(r:R3):R2:=fun x y H Q=>∃ wx wy M R,AM K H M/\AV K H M x wx/\AV K H M y wy/\r wx wy M R/\Up K H M R Q
def FO(K:Ac)(r:W->Mm->K3->Prop):V->Hp->VK->Prop:=fun x H Q=>∃ wx M R,AM K H M/\AV K H M x wx/\r wx M R/\Up K H M R Q
def gQ(K:Ac)(r:List W->Mm->K3->Prop):List V->Hp->VK->Prop:=fun xs H Q=>∃ ws M R,AM K H M/\aM K H M xs ws/\r ws M R/\Up K H M R Q
def l9(K:Ac)(r:W->List W->Mm->K3->Prop):V->List V->Hp->VK->Prop:=fun x xs H Q=>∃ wx ws M R,AM K H M/\AV K H M x wx/\aM K H M xs ws/\r wx ws M R/\Up K H M R Q
section
variable {X:Cx}{a b c:Expr}{ta tb tc:aY}{pos:Pos}
def aA(i:Nat):aY:=fun τ M R=>∃ w,τ[i]? = some (some w)/\R w M
def vC(w:W):aY:=fun _ M R=>R w M
theorem v(i:Nat){x:Str}{pos:Pos}(hN:X.N[i]? = some x:=by rfl)(hv:sC X.env.scope x:=by first | exact Or.inl rfl | exact Or.inr (Or.inl rfl) | exact Or.inr (Or.inr rfl))(hd:(x == ("__debug__" : Str))=false:=by decide)
  (hcd:(x == ("__classdict__" : Str))=false:=by decide):E3 X (.Name x pos) (aA i):=(DL hN hv hd hcd).weak fun σ H Q ⟨τ,M,R,as,am,⟨w,e,r⟩,k⟩=>by
 obtain⟨v,e1,av⟩:=as.get e
 exact⟨v,e1,k.at am av r⟩
theorem aP{i j pos}:E3 X (.Constant (.int i) j pos) (vC (.int i)):=MS.weak fun σ H Q z0=>z0.el fun τ M R as am r k=>k.at am (.int i) r
theorem kJ{b j pos}:E3 X (.Constant (.bool b) j pos) (vC (.bl b)):=MT.weak fun σ H Q z0=>z0.el fun τ M R as am r k=>k.at am (.bl b) r
theorem i8{j pos}:E3 X (.Constant .none j pos) (vC .non):=MU.weak fun σ H Q z0=>z0.el fun τ M R as am r k=>k.at am .non r
theorem iU{x j pos}:E3 X (.Constant (.str x) j pos) (vC (.str x)):=MV.weak fun σ H Q z0=>z0.el fun τ M R as am r k=>k.at am (.str x) r
theorem UT{x:Str}{y:V}{w:W}{u:Ae}{pos:Pos}(hg:Gl X x)(hm:X.mg x=some u)(r:RelV y u)(hw:∀ H M,AV X.K H M y w)(hd:(x == ("__debug__" : Str))=false:=by decide):E3 X (.Name x pos) (vC w):=
 (MW hg hm r hd).weak fun σ H Q z0=>z0.el fun τ M R as am r k=>k.at am (hw H M) r
theorem mB{x:Str}{y:V}{w:W}{u:Ae}{pos:Pos}(hg:Gl X x)(hm:X.mg x=none)(hv:Cp x=some u)(r:RelV y u)(hw:∀ H M,AV X.K H M y w)(hn:x≠"__name__":=by decide)(hd:(x == ("__debug__" : Str))=false:=by decide):E3 X (.Name x pos) (vC w):=
 (MX hg hm hv r hn hd).weak fun σ H Q z0=>z0.el fun τ M R as am r k=>k.at am (hw H M) r
theorem fA(ha:E3 X a ta):E3 X a (dS ta):=ha.weak fun σ H Q z0=>z0.el fun τ M R as am h k=>⟨τ,M,_,as,am,h,k.frz⟩
def aE(r:R3)(ta tb:aY):aY:=fun τ M R=>ta τ M fun x M1=>tb τ M1 fun y M2=>r x y M2 R
theorem tG{K:Ac}{r:R3}{σ:SV}{H:Hp}{Q:VK}(h:up K (aE r ta tb) σ H Q):qC (cL K r) (up K ta) (up K tb) σ H Q:=by
 obtain⟨τ,M,R,as,am,h,k⟩:=h
 refine⟨τ,M,_,as,am,h,fun x H1 wx M1 k1 am1 ax h1=>⟨τ,M1,_,as.kp am k1,am1,h1,fun y H2 wy M2 k2 am2 ay h2=>?_⟩⟩
 exact⟨wx,wy,M2,R,am2,ax.kp am1 k2,ay,h2,(k.kp k1).kp k2⟩
theorem bU{op:Operator}{r:R3}(ho:bG X (Fh op) (cL X.K r))(ha:E3 X a ta)(hb:E3 X b tb):E3 X (.BinOp a op b pos) (aE r ta tb):=(ON ho ha hb).weak fun _ _ _ h=>tG h
theorem UU{op:CmpOp}{r:R3}(ho:bG X (Ce op) (cL X.K r))(ha:E3 X a ta)(hb:E3 X b tb)(hm:Hq op b=false):E3 X (.Compare a [op] [b] pos) (aE r ta tb):=(O7 ho ha hb hm).weak fun _ _ _ h=>tG h
def bK(t:aY):dR:=fun τ M Q=>t τ M fun w M'=>∃ k,w=.bl k/\Q k M'
theorem AV.bl_inv{K:Ac}{H:Hp}{M:Mm}{v:V}{k:Bool}(h:AV K H M v (.bl k)):v=.bl k:=by cases h;rfl
theorem UW{op:CmpOp}{r:R3}(ho:bG X (Ce op) (cL X.K r))(ha:E3 X a ta)(hb:E3 X b tb)(hm:Hq op b=false):T3 X (.Compare a [op] [b] pos) (bK (aE r ta tb)):=
 (O8 ho ha hb hm).weak fun σ H Q z0=>z0.el fun τ M R as am h k=>tG ⟨τ,M,_,as,am,h,fun v H' w M' k' am' av ⟨c,e,r⟩=>by
  subst e
  exact⟨c,av.bl_inv,k c H' M' k' am' r⟩⟩
def lE(r:W->Mm->K3->Prop)(ta:aY):aY:=fun τ M R=>ta τ M fun x M1=>r x M1 R
theorem mC{op:UnaryOp}{r:W->Mm->K3->Prop}(ho:qB X (unaryOp op) (FO X.K r))(ha:E3 X a ta):E3 X (.UnaryOp op a pos) (lE r ta):=
 (OO ho ha).weak fun σ H Q z0=>z0.el fun τ M R as am h k=>⟨τ,M,_,as,am,h,fun x H1 wx M1 k1 am1 ax h1=>⟨wx,M1,R,am1,ax,h1,k.kp k1⟩⟩
def UX:W->Mm->(Bool->Mm->Prop)->Prop
 | .non,M,Q=>Q false M
 | .bl b,M,Q=>Q b M
 | .int i,M,Q=>Q (i != 0) M
 | .str y,M,Q=>y.length<=Am/\Q ((y.length:Int) != 0) M
 | .tup ws,M,Q=>Q (!ws.isEmpty) M
 | .rl ws,M,Q=>Q (!ws.isEmpty) M
 | .sc ws,M,Q=>Q (!ws.isEmpty) M
 | .dk kvs,M,Q=>Q (!kvs.isEmpty) M
 | .ref p,M,Q=>(∃ ws,M p=some (.lst ws)/\Q (!ws.isEmpty) M)\/∃ kvs,M p=some (.dK kvs)/\Q (!kvs.isEmpty) M
 | _,_,_=>False
def i9(t:aY):dR:=fun τ M Q=>t τ M fun w M'=>UX w M' Q
theorem aM.empty{K:Ac}{H:Hp}{M:Mm}{vs:List V}{ws:List W}(h:aM K H M vs ws):(!ws.isEmpty) = !vs.isEmpty:=by cases h <;> rfl
theorem jR(ha:E3 X a ta)(he:∀ whole,isTrue a X.env whole=(do let v <-whole;Nb a.pos;Hz [v] (truthy v)):=by intro _;rfl):T3 X a (i9 ta):=
 (PD ha he).weak fun σ H Q z0=>z0.el fun τ M R as am h k=>⟨τ,M,_,as,am,h,fun v H' w M' k' am' av r=>by
  cases av with
  | non=>exact⟨false,rfl,k _ _ _ k' am' r⟩
  | bl b=>exact⟨b,rfl,k _ _ _ k' am' r⟩
  | int i=>exact⟨_,rfl,k _ _ _ k' am' r⟩
  | str y=>exact⟨_,⟨r.1,rfl⟩,k _ _ _ k' am' r.2⟩
  | ty n=>exact(show False from r).elim
  | tup e q=>exact⟨_,.inr (.inl ⟨_,bL.of e,q.empty⟩),k _ _ _ k' am' r⟩
  | rl e n q=>exact⟨_,.inl ⟨_,bD.of e,q.empty⟩,k _ _ _ k' am' r⟩
  | sc e q=>exact⟨_,.inl ⟨_,e.sq,q.empty⟩,k _ _ _ k' am' r⟩
  | @dk a ks kvs e n ke q=>exact⟨!kvs.isEmpty,.inr (.inr ⟨_,e,by have:=oS ke q;cases this <;> rfl⟩),k _ _ _ k' am' r⟩
  | dt e n ke q=>exact(show False from r).elim
  | fk e ke q=>exact(show False from r).elim
  | ft e ke q=>exact(show False from r).elim
  | ref p=>
   rcases r with⟨ws,e,r⟩ | ⟨kvs,e,r⟩
   ·obtain⟨vs,e1,q⟩:=am'.lst e
    exact⟨_,.inl ⟨_,bD.of e1,q.empty⟩,k _ _ _ k' am' r⟩
   ·obtain⟨ks,e1,q⟩:=am' _ _ e
    exact⟨!kvs.isEmpty,.inr (.inr ⟨_,e1,by cases q <;> rfl⟩),k _ _ _ k' am' r⟩⟩
def wN(t u:dR):dR:=fun τ M Q=>t τ M fun c M1=>if c=true then u τ M1 Q else Q false M1
def fP(t u:dR):dR:=fun τ M Q=>t τ M fun c M1=>if c=true then Q true M1 else u τ M1 Q
def mD(t:dR):dR:=fun τ M Q=>t τ M fun c M1=>Q (!c) M1
variable {tA tB':dR}{rest:List Expr}
theorem FP(ha:T3 X a tA):W3 X (.BoolOp .And [a] pos) tA:=M9 ha
theorem kK(ha:T3 X a tA):W3 X (.BoolOp .Or [a] pos) tA:=NA ha
theorem FQ(ha:T3 X a tA)(hb:W3 X (.BoolOp .And (b :: rest) pos) tB'):W3 X (.BoolOp .And (a :: b :: rest) pos) (wN tA tB'):=
 (NB ha hb).weak fun σ H Q z0=>z0.el fun τ M R as am h k=>⟨τ,M,_,as,am,h,fun c H1 M1 k1 am1 h1=>by
  cases c with
  | true=>exact⟨τ,M1,R,as.kp am k1,am1,h1,fun b H' M' k' am' r=>k b H' M' (k1.trans k') am' r⟩
  | false=>exact k false H1 M1 k1 am1 h1⟩
theorem jA(ha:T3 X a tA)(hb:W3 X (.BoolOp .Or (b :: rest) pos) tB'):W3 X (.BoolOp .Or (a :: b :: rest) pos) (fP tA tB'):=
 (NC ha hb).weak fun σ H Q z0=>z0.el fun τ M R as am h k=>⟨τ,M,_,as,am,h,fun c H1 M1 k1 am1 h1=>by
  cases c with
  | true=>exact k true H1 M1 k1 am1 h1
  | false=>exact⟨τ,M1,R,as.kp am k1,am1,h1,fun b H' M' k' am' r=>k b H' M' (k1.trans k') am' r⟩⟩
theorem nG(ha:T3 X a tA):T3 X (.UnaryOp .Not a pos) (mD tA):=
 (ND ha).weak fun σ H Q z0=>z0.el fun τ M R as am h k=>⟨τ,M,_,as,am,h,fun c H1 M1 k1 am1 h1=>k (!c) H1 M1 k1 am1 h1⟩
def qM(ta tb:aY):aY:=fun τ M R=>ta τ M fun x M1=>∃ c,x=.bl c/\if c=true then tb τ M1 R else R (.bl false) M1
theorem wO{op}(h:E3 X a ta):E3 X (.BoolOp op [a] pos) ta:=NG h
theorem v_and(ha:E3 X a ta)(hb:E3 X (.BoolOp .And (b :: rest) pos) tb):E3 X (.BoolOp .And (a :: b :: rest) pos) (qM ta tb):=
 (NH ha hb).weak fun σ H Q z0=>z0.el fun τ M R as am h k=>⟨τ,M,_,as,am,h,fun x H1 wx M1 k1 am1 ax ⟨c,e,h1⟩=>by
  subst e
  refine⟨c,ax.bl_inv,?_⟩
  cases c with
  | true=>exact⟨τ,M1,R,as.kp am k1,am1,h1,k.kp k1⟩
  | false=>exact(k.kp k1).at am1 (.bl false) h1⟩
def aF:dA:=fun _ M R=>R [] M
def aB(ta:aY)(tr:dA):dA:=fun τ M R=>ta τ M fun x M1=>tr τ M1 fun xs M2=>R (x :: xs) M2
variable {e:Expr}{es:List Expr}{te:aY}{t:dA}
theorem aH:A3 X [] aF:=P5.weak fun σ H Q z0=>z0.el fun τ M R as am h k=>k [] H [] M (Kp.refl am) am .nil h
theorem aC(ha:E3 X e te)(hr:A3 X es t)(hs:Bi (e :: es) X.env=(false,eval e X.env) :: Bi es X.env:=by rfl):A3 X (e :: es) (aB te t):=
 (P6 ha hr hs).weak fun σ H Q z0=>z0.el fun τ M R as am h k=>⟨τ,M,_,as,am,h,fun x H1 wx M1 k1 am1 ax h1=>⟨τ,M1,_,as.kp am k1,am1,h1,fun xs H2 ws M2 k2 am2 axs h2=>
  k (x :: xs) H2 (wx :: ws) M2 (k1.trans k2) am2 (.cons (ax.kp am1 k2) axs) h2⟩⟩
def cC(t:dA):aY:=fun τ M R=>t τ M fun ws M1=>ws.length<=Am/\R (.tup ws) M1
def fZ(t:dA):aY:=fun τ M R=>t τ M fun ws M1=>ws.length<=Am/\bC ws M1 R
theorem laidT{K:Ac}{H:Hp}{M:Mm}{R:K3}{Q:VK}{p:Addr}{xs:List V}{ws:List W}(am:AM K H M)(k:Up K H M R Q)(hp:H p=none)(ax:aM K H M xs ws)(r:R (.tup ws) M):Q (.ref p) (aS H p (.tup xs)):=by
 obtain⟨am2,k2⟩:=am.tup (u:=.tup xs) hp
 exact k _ _ _ _ k2 am2 (.tup cJ (ax.newT hp)) r
theorem jB{K:Ac}{H:Hp}{M:Mm}{R:K3}{Q:VK}{p:Addr}{xs:List V}{ws:List W}(am:AM K H M)(k:Up K H M R Q)(hp:H p=none)(ax:aM K H M xs ws)(r:∀ p,M p=none->R (.ref p) (put M p (.lst ws))):Q (.ref p) (aS H p (.lst xs)):=by
 obtain⟨am2,k2⟩:=am.laid (o:=.lst ws) (u:=.lst xs) hp ⟨xs,cJ,ax.newL hp⟩
 exact k _ _ _ _ k2 am2 (.ref p) (r p (am.nonM hp))
theorem wQ{K:Ac}{H:Hp}{M:Mm}{R:K3}{Q:VK}{l:Addr}{xs:List V}{ws ws0:List W}{y:V}{w:W}(am:AM K H M)(k:Up K H M R Q)(hl:M l=some (.lst ws0))(ax:aM K H M xs ws)(ay:AV K H M y w)(r:R w (put M l (.lst ws))):Q y (aS H l (.lst xs)):=by
 obtain⟨am2,k2⟩:=am.write (o:=.lst ws) (u:=.lst xs) hl ⟨xs,cJ,ax.wr am hl⟩
 exact k _ _ _ _ k2 am2 (ay.wr am hl) r
theorem cM{x1}(h:A3 X es t):E3 X (.Tuple es x1 pos) (cC t):=
 (P9 h).weak fun σ H Q z0=>z0.el fun τ M R as am h k=>⟨τ,M,_,as,am,h,fun xs H1 ws M1 k1 am1 axs ⟨hl,r⟩=>⟨by rw[axs.length];exact hl,fun p hp=>laidT am1 (k.kp k1) hp axs r⟩⟩
theorem hJ(h:A3 X es t):E3 X (.List es pos) (fZ t):=
 (D0 h).weak fun σ H Q z0=>z0.el fun τ M R as am h k=>⟨τ,M,_,as,am,h,fun xs H1 ws M1 k1 am1 axs ⟨hl,r⟩=>⟨by rw[axs.length];exact hl,fun p hp=>jB am1 (k.kp k1) hp axs r⟩⟩
def bS(r:List W->Mm->K3->Prop)(t:dA):aY:=fun τ M R=>t τ M fun ws M1=>r ws M1 R
variable {x:Str}{p:Pos}{id T:String}{r:List W->Mm->K3->Prop}
theorem FR{K:Ac}{σ:SV}{H:Hp}{Q:VK}(h:up K (bS r t) σ H Q):vY (gQ K r) (oU K t) σ H Q:=by
 obtain⟨τ,M,R,as,am,h,k⟩:=h
 exact⟨τ,M,_,as,am,h,fun xs H1 ws M1 k1 am1 axs h1=>⟨ws,M1,R,am1,axs,h1,k.kp k1⟩⟩
theorem cN(hc:dE X (.builtin id) (gQ X.K r))(hg:Gl X x)(hm:X.mg x=none)(hv:Cp x=some (.builtin id))(ha:A3 X (e :: es) t)(hn:x≠"__name__":=by decide)(hdb:(x == ("__debug__" : Str))=false:=by decide)
  (hs:Bi (e :: es) X.env=(false,eval e X.env) :: Bi es X.env:=by rfl) (hpl:(Gu pos (Bi es X.env)).any (·.1)=false:=by rfl):E3 X (.Call (.Name x p) (e :: es) [] pos) (bS r t):=(QI hc hg hm hv ha hn hdb hs hpl).weak fun _ _ _ h=>FR h
theorem jS(hc:dE X (.type T) (gQ X.K r))(hg:Gl X x)(hm:X.mg x=none)(hv:Cp x=some (.type T))(ha:A3 X (e :: es) t)(hn:x≠"__name__":=by decide)(hdb:(x == ("__debug__" : Str))=false:=by decide)
  (hs:Bi (e :: es) X.env=(false,eval e X.env) :: Bi es X.env:=by rfl) (hpl:(Gu pos (Bi es X.env)).any (·.1)=false:=by rfl):E3 X (.Call (.Name x p) (e :: es) [] pos) (bS r t):=(QJ hc hg hm hv ha hn hdb hs hpl).weak fun _ _ _ h=>FR h
abbrev bJ:=List W->Mm->K3->Prop
def f6(K:Ac)(sp:bJ):Sp:=fun vs H Q _=>∃ ws M R,AM K H M/\aM K H M vs ws/\sp ws M R/\Up K H M R Q
variable {k:Nat}{f:Addr}{fd:Bl}{ps:List Str}{sp:bJ}
def bN(sp:bJ)(t:dA):aY:=fun τ M R=>t τ M fun ws M1=>sp ws M1 R
theorem FT{K:Ac}{σ:SV}{H:Hp}{Q:VK}(h:up K (bN sp t) σ H Q):vW (f6 K sp) [] E0 (oU K t) σ H Q:=by
 obtain⟨τ,M,R,as,am,h,k⟩:=h
 exact⟨τ,M,_,as,am,h,fun xs H1 ws M1 k1 am1 axs h1=>⟨ws,M1,R,am1,by rw[He];exact axs,h1,k.kp k1⟩⟩
theorem FU(F:eJ X.prog X.w X.K X.mg X.base fN k f fd ps (f6 X.K sp))(hr:cH k X.A)(hg:Gl X x)(hm:X.mg x=some (.ref f))(hk:Ea X.K (.ref f)=true)(hb:Binds X.K fd ps [])
  (ha:A3 X (e :: es) t) (hdb:(x == ("__debug__" : Str))=false:=by decide) (he:Bi (e :: es) X.env=(false,eval e X.env) :: Bi es X.env:=by rfl) (hpl:(Gu pos (Bi es X.env)).any (·.1)=false:=by rfl) :
  E3 X (.Call (.Name x p) (e :: es) [] pos) (bN sp t):=(QA F hr hg hm hk hb .nil nD ha hdb he hpl).weak fun _ _ _ h=>FT h
theorem wR(F:eJ X.prog X.w X.K X.mg X.base fN k f fd ps (f6 X.K sp))(hr:cH k X.A)(hg:Gl X x)(hm:X.mg x=some (.ref f))(hk:Ea X.K (.ref f)=true)(hb:Binds X.K fd ps [])
  (hdb:(x == ("__debug__" : Str))=false:=by decide):E3 X (.Call (.Name x p) [] [] pos) (bN sp aF):=(QB F hr hg hm hk hb .nil nD hdb).weak fun σ H Q z0=>z0.el fun τ M R as am h k=>⟨[],M,R,am,.nil,h,k⟩
def lG(T:String):W->Mm->Prop
 | .str _,_=>T = "str"
 | .int _,_=>T = "int"
 | .rl _,_=>T = "list"
 | .sc _,_=>T = "list"
 | .dk _,_=>T = "dict"
 | .dt _,_=>T = "dict"
 | .fk _,_=>T = "dict"
 | .ft _,_=>T = "dict"
 | .ref p,M=>(T = "list"/\∃ ws,M p=some (.lst ws))\/(T = "dict"/\((∃ kvs,M p=some (.dK kvs))\/∃ kvs,M p=some (.dT kvs)))
 | _,_=>False
theorem FV{K:Ac}{H:Hp}{M:Mm}{v:V}{w:W}(am:AM K H M)(av:AV K H M v w)(h:lG T w M):sN K T v H:=by
 cases av with
 | str y=>exact h
 | int i=>exact h
 | rl e n q=>exact .inl ⟨h,_,bD.of e⟩
 | sc e q=>exact .inl ⟨h,_,e.sq⟩
 | dk e n ke q=>exact .inr (.inr (.inl ⟨h,.inl ⟨_,.inl e⟩⟩))
 | dt e n ke q=>exact .inr (.inr (.inl ⟨h,.inr ⟨_,.inl e⟩⟩))
 | ref p=>
  rcases h with⟨e,ws,h⟩ | ⟨e,h⟩
  ·obtain⟨vs,e1,_⟩:=am.lst h
   exact .inl ⟨e,vs,bD.of e1⟩
  ·refine .inr (.inr (.inl ⟨e,?_⟩))
   rcases h with⟨kvs,h⟩ | ⟨kvs,h⟩
   ·obtain⟨ks,e1,_⟩:=am _ _ h;exact .inl ⟨ks,.inl e1⟩
   ·obtain⟨ks,e1,_⟩:=am _ _ h;exact .inr ⟨ks,.inl e1⟩
 | non=>exact h.elim
 | bl b=>exact h.elim
 | ty n=>exact h.elim
 | tup e q=>exact h.elim
 | fk e ke q=>exact .inr (.inr (.inl ⟨h,.inl ⟨_,.inr ⟨_,e⟩⟩⟩))
 | ft e ke q=>exact .inr (.inr (.inl ⟨h,.inr ⟨_,.inr ⟨_,e⟩⟩⟩))
variable {o:Expr}{to:aY}{name:Str}{apos cpos:Pos}{rm:W->List W->Mm->K3->Prop}
def oV(T:String)(r:W->List W->Mm->K3->Prop)(to:aY):aY:=fun τ M R=>to τ M fun x M1=>lG T x M1/\r x [] M1 R
def dG(T:String)(r:W->List W->Mm->K3->Prop)(to:aY)(t:dA):aY:=fun τ M R=>to τ M fun x M1=>lG T x M1/\t τ M1 fun xs M2=>r x xs M2 R
theorem qN(pa:PlainAttrs T)(slot:Slot T name id)(hty:typeOf (.builtin id)=pure (.type "method_descriptor"))(hm:kC X id (l9 X.K rm))(ho:E3 X o to)
  (hbase:Ja o name X.env (eval o X.env)=eval o X.env:=by rfl) (hline:(apos.endLine == cpos.line)=true:=by rfl):E3 X (.Call (.Attribute o name apos) [] [] cpos) (oV T rm to):=
 (RM pa slot hty hm ho hbase hline).weak fun σ H Q z0=>z0.el fun τ M R as am h k=>⟨τ,M,_,as,am,h,fun x H1 wx M1 k1 am1 ax ⟨ty,h1⟩=>⟨FV am1 ax ty,wx,[],M1,R,am1,ax,.nil,h1,k.kp k1⟩⟩
theorem eT(pa:PlainAttrs T)(slot:Slot T name id)(hty:typeOf (.builtin id)=pure (.type "method_descriptor"))(hm:kC X id (l9 X.K rm))(ho:E3 X o to)(ha:A3 X (e :: es) t)
  (hbase:Ja o name X.env (eval o X.env)=eval o X.env:=by rfl)
  (hfew:((Gu cpos (Bi (e :: es) X.env)).all (fun x=>!x.1) && (backToKw cpos (Lc [] X.env)).all (fun x=>x.1.isSome)
   && decide ((e :: es).length + ([]:List Keyword).length + (if ([]:List Keyword).isEmpty then 0 else 1) < 30))=true:=by rfl)
  (hline:(apos.endLine == cpos.line)=true:=by rfl) (hs:Bi (e :: es) X.env=(false,eval e X.env) :: Bi es X.env:=by rfl) (hplain:(Gu cpos (Bi es X.env)).any (·.1)=false:=by rfl) :
  E3 X (.Call (.Attribute o name apos) (e :: es) [] cpos) (dG T rm to t):=
 (RN pa slot hty hm ho ha hbase hfew hline hs hplain).weak fun σ H Q z0=>z0.el fun τ M R as am h k=>⟨τ,M,_,as,am,h,fun x H1 wx M1 k1 am1 ax ⟨ty,h1⟩=>⟨FV am1 ax ty,τ,M1,_,as.kp am k1,am1,h1,fun xs H2 ws M2 k2 am2 axs h2=>
  ⟨wx,ws,M2,R,am2,ax.kp am1 k2,axs,h2,(k.kp k1).kp k2⟩⟩⟩
end
section
variable {X:Cx}
theorem lH{f:Ae->Ae->Sem Ae}{r:R2}{r3:R3}(h0:bG X f r)(h:∀ x y H Q M R,AM X.K H M->Up X.K H M R Q->∀ wx wy,r3 wx wy M R->AV X.K H M x wx->AV X.K H M y wy->r x y H Q):bG X f (cL X.K r3):=
 fun pins s σ H x y v u Q I rx ry ⟨wx,wy,M,R,am,ax,ay,h1,k⟩=>h0 pins s σ H x y v u Q I rx ry (h x y H Q M R am k wx wy h1 ax ay)
theorem UY{r:R2}{r3:R3}(h0:i5 X r)(h:∀ x y H Q M R,AM X.K H M->Up X.K H M R Q->∀ wx wy,r3 wx wy M R->AV X.K H M x wx->AV X.K H M y wy->r x y H Q):i5 X (cL X.K r3):=
 fun value slice pins s σ H x y v u Q I rx ry ⟨wx,wy,M,R,am,ax,ay,h1,k⟩=>h0 value slice pins s σ H x y v u Q I rx ry (h x y H Q M R am k wx wy h1 ax ay)
theorem wU{f:Ae}{r:List V->Hp->VK->Prop}{r3:List W->Mm->K3->Prop}(h0:dE X f r)(h:∀ xs H Q M R,AM X.K H M->Up X.K H M R Q->∀ ws,r3 ws M R->aM X.K H M xs ws->r xs H Q):dE X f (gQ X.K r3):=
 fun pins s σ H xs us Q I rs ⟨ws,M,R,am,ax,h1,k⟩=>h0 pins s σ H xs us Q I rs (h xs H Q M R am k ws h1 ax)
def tH:R3
 | .int i,.int j,M,R=>R (.int (i + j)) M
 | .tup xs,.tup ys,M,R=>xs≠[]/\xs.length + ys.length<=Am/\R (.tup (xs ++ ys)) M
 | .ref a,.ref b,M,R=>∃ xs ys,M a=some (.lst xs)/\M b=some (.lst ys)/\xs.length + ys.length<=Am/\bC (xs ++ ys) M R
 | .rl xs,.ref b,M,R=>∃ ys,M b=some (.lst ys)/\xs.length + ys.length<=Am/\bC (xs ++ ys) M R
 | .ref a,.rl ys,M,R=>∃ xs,M a=some (.lst xs)/\xs.length + ys.length<=Am/\bC (xs ++ ys) M R
 | .rl xs,.rl ys,M,R=>xs.length + ys.length<=Am/\bC (xs ++ ys) M R
 | _,_,_,_=>False
def lI(M:Mm):W->List W->Prop
 | .ref a,ws=>M a=some (.lst ws)
 | .rl ws,zs=>ws=zs
 | _,_=>False
theorem mE{K:Ac}{H:Hp}{M:Mm}{v:V}{w:W}{ws:List W}(am:AM K H M)(h:AV K H M v w)(e:lI M w ws):∃ a xs,v=.ref a/\H a=some (.lst xs)/\aM K H M xs ws:=by
 cases w <;> first | exact(show False from e).elim | skip
 case ref a=>exact am.lstE e fun xs f q=>⟨_,_,h.inv,f,q⟩
 case rl zs=>exact h.rlE fun a xs e1 f q=>⟨_,_,e1,f,by rw[<-show zs=ws from e];exact q⟩
theorem UZ{P:W->W->Prop}{M:Mm}{R:K3}(c1:∀ i j,R (.int (i + j)) M->P (.int i) (.int j))(c2:∀ xs ys,xs≠[]/\xs.length + ys.length<=Am/\R (.tup (xs ++ ys)) M->P (.tup xs) (.tup ys))
  (c3:∀ x y xs ys,lI M x xs->lI M y ys->xs.length + ys.length<=Am->bC (xs ++ ys) M R->P x y):∀ x y,tH x y M R->P x y:=by
 intro x y h
 cases x <;> first | exact(show False from h).elim | (cases y <;> first | exact(show False from h).elim | skip)
 case int.int=>exact c1 _ _ h
 case tup.tup=>exact c2 _ _ h
 case ref.ref=>obtain⟨xs,ys,e,f,l,r⟩:=h;exact c3 _ _ _ _ e f l r
 case rl.ref=>obtain⟨ys,f,l,r⟩:=h;exact c3 _ _ _ _ rfl f l r
 case ref.rl=>obtain⟨xs,e,l,r⟩:=h;exact c3 _ _ _ _ e rfl l r
 case rl.rl=>exact c3 _ _ _ _ rfl rfl h.1 h.2
theorem wV:bG X (Fh .Add) (cL X.K tH):=lH (OP.or (QZ.or RT)) fun x y H Q M R am k=>UZ
 (fun i j h ax ay=>.inl ⟨i,j,ax.inv,ay.inv,k.at am (.int _) h⟩)
 (fun xs ys h ax ay=>ax.tupE fun a us e1 f1 q1=>ay.tupE fun b vs e2 f2 q2=>.inr (.inl ⟨a,b,us,vs,e1,e2,bL.of f1,bL.of f2,
  fun z=>h.1 (Kv.mp (by rw[<-q1.length,z];rfl)),by rw[q1.length,q2.length];exact h.2.1,
  fun z=>k.at am (by rw[<-e1];exact ax) (by rw[<-He xs,<-Kv.mp (show ys.length=0 by rw[<-q2.length,z];rfl)];exact h.2.2),
  fun _ p hp=>laidT am k hp (q1.append q2) h.2.2⟩))
 (fun wx wy xs ys h1 h2 l r ax ay=>.inr (.inr (by
  obtain⟨a,us,e1,f1,q1⟩:=mE am ax h1
  obtain⟨b,vs,e2,f2,q2⟩:=mE am ay h2
  exact⟨a,b,us,vs,e1,e2,f1,f2,by rw[q1.length,q2.length];exact l,fun p hp=>jB am k hp (q1.append q2) r⟩)))
def qO(C:Int->Int->Prop)(g:Int->Int->W):R3
 | .int i,.int j,M,R=>C i j/\R (g i j) M
 | _,_,_,_=>False
theorem U0{C:Int->Int->Prop}{g:Int->Int->W}{P:W->W->Prop}{M:Mm}{R:K3}(c:∀ i j,C i j/\R (g i j) M->P (.int i) (.int j))(x y:W)(h:qO C g x y M R):P x y:=by
 cases x <;> first | exact(show False from h).elim | (cases y <;> first | exact(show False from h).elim | exact c _ _ h)
theorem wW{f:Ae->Ae->Sem Ae}{C:Int->Int->Prop}{g:Int->Int->V}{g':Int->Int->W}(h0:bG X f (rI C g))(hg:∀ H M i j,AV X.K H M (g i j) (g' i j)):bG X f (cL X.K (qO C g')):=
 lH h0 fun x y H Q M R am k=>U0 fun i j h ax ay=>⟨i,j,ax.inv,ay.inv,h.1,k.at am (hg H M i j) h.2⟩
def oW(g:Int->Int->W):R3
 | .int i,.int j,M,R=>R (g i j) M
 | _,_,_,_=>False
theorem U1{g:Int->Int->W}{P:W->W->Prop}{M:Mm}{R:K3}(c:∀ i j,R (g i j) M->P (.int i) (.int j))(x y:W)(h:oW g x y M R):P x y:=by
 cases x <;> first | exact(show False from h).elim | (cases y <;> first | exact(show False from h).elim | exact c _ _ h)
theorem tI{f:Ae->Ae->Sem Ae}{g:Int->Int->V}{g':Int->Int->W}(h0:bG X f (lV g))(hg:∀ H M i j,AV X.K H M (g i j) (g' i j)):bG X f (cL X.K (oW g')):=
 lH h0 fun x y H Q M R am k=>U1 fun i j h ax ay=>⟨i,j,ax.inv,ay.inv,k.at am (hg H M i j) h⟩
abbrev tJ:R3:=oW fun i j=>.int (i - j)
theorem wX:bG X (Fh .Sub) (cL X.K tJ):=tI OQ fun _ _ _ _=>.int _
abbrev wY:R3:=qO E2 fun i j=>.int (i / j)
theorem FX:bG X (Fh .FloorDiv) (cL X.K wY):=wW S8 fun _ _ _ _=>.int _
abbrev nH:R3:=qO (fun _ j=>0 < j) fun i j=>.int (i % j)
theorem oX:bG X (Fh .Mod) (cL X.K nH):=wW OS fun _ _ _ _=>.int _
abbrev wZ:R3:=qO DN fun i j=>.int (i ^ j.toNat)
theorem FY:bG X (Fh .Pow) (cL X.K wZ):=wW OT fun _ _ _ _=>.int _
def FZ:R3
 | .int i,.int j,M,R=>(oJ i j\/sX i j)/\R (.int (i * j)) M
 | .ref a,.int n,M,R=>∃ xs,M a=some (.lst xs)/\-(2 ^ 63)<=n/\n < 2 ^ 63/\xs.length * n.toNat<=Am/\bC (Bt n.toNat xs).flatten M R
 | .rl xs,.int n,M,R=>-(2 ^ 63)<=n/\n < 2 ^ 63/\xs.length * n.toNat<=Am/\bC (Bt n.toNat xs).flatten M R
 | _,_,_,_=>False
theorem U2{P:W->W->Prop}{M:Mm}{R:K3}(c1:∀ i j,(oJ i j\/sX i j)/\R (.int (i * j)) M->P (.int i) (.int j))
  (c3:∀ x n xs,lI M x xs->-(2 ^ 63)<=n/\n < 2 ^ 63/\xs.length * n.toNat<=Am/\bC (Bt n.toNat xs).flatten M R->P x (.int n)):∀ x y,FZ x y M R->P x y:=by
 intro x y h
 cases x <;> first | exact(show False from h).elim | (cases y <;> first | exact(show False from h).elim | skip)
 case int.int=>exact c1 _ _ h
 case ref.int=>obtain⟨xs,e,h⟩:=h;exact c3 _ _ _ e h
 case rl.int=>exact c3 _ _ _ rfl h
theorem U3:bG X (Fh .Mult) (cL X.K FZ):=lH (OR.or (S7.or RW)) fun x y H Q M R am k=>U2
 (fun i j h ax ay=>h.1.elim (fun z=>.inl ⟨i,j,ax.inv,ay.inv,z,k.at am (.int _) h.2⟩) fun z=>.inr (.inl ⟨i,j,ax.inv,ay.inv,z,k.at am (.int _) h.2⟩))
 (fun wx n xs h1 h ax ay=>.inr (.inr (by
  obtain⟨a,us,e1,f1,q1⟩:=mE am ax h1
  exact⟨a,n,us,e1,ay.inv,f1,h.1,h.2.1,by rw[q1.length];exact h.2.2.1,fun p hp=>jB am k hp (q1.flatRep _) h.2.2.2⟩)))
def lJ:W->Mm->K3->Prop
 | .int i,M,R=>R (.int (-i)) M
 | _,_,_=>False
theorem mF:qB X (unaryOp .USub) (FO X.K lJ):=by
 rintro pins s σ H x v Q I rx ⟨wx,M,R,am,ax,h,k⟩
 cases wx <;> first | exact(show False from h).elim | skip
 case int i=>exact OV pins s σ H _ v Q I rx ⟨i,ax.inv,k.at am (.int _) h⟩
def iL:R3:=oW fun i j=>.bl (decide (i < j))
theorem oY:bG X (Ce .Lt) (cL X.K iL):=tI OZ fun _ _ _ _=>.bl _
abbrev F0:R3:=oW fun i j=>.bl (decide (i<=j))
theorem U4:bG X (Ce .LtE) (cL X.K F0):=tI O0 fun _ _ _ _=>.bl _
abbrev qP:R3:=oW fun i j=>.bl (decide (j < i))
theorem tK:bG X (Ce .Gt) (cL X.K qP):=tI O3 fun _ _ _ _=>.bl _
def isNon:W->Bool
 | .non=>true
 | _=>false
def oZ(neg:Bool):R3
 | x,.non,M,R=>R (.bl (if neg then !isNon x else isNon x)) M
 | _,_,_,_=>False
theorem AV.isNon{K:Ac}{H:Hp}{M:Mm}{v:V}{w:W}(h:AV K H M v w):decide (v=.non)=L3.isNon w:=by cases h <;> rfl
theorem U5{n:Bool}{P:W->W->Prop}{M:Mm}{R:K3}(c:∀ x,R (.bl (if n then !isNon x else isNon x)) M->P x .non)(x y:W)(h:oZ n x y M R):P x y:=by
 cases y <;> first | exact(show False from h).elim | exact c _ h
theorem tL:bG X (Ce .Is) (cL X.K (oZ false)):=lH O5 fun x y H Q M R am k=>U5 fun w h ax ay=>⟨ay.inv,by rw[ax.isNon];exact k.at am (.bl _) h⟩
mutual
inductive Snap(M:Mm):W->Kt->Prop
 | non:Snap M .non .none
 | bl (b:Bool):Snap M (.bl b) (.bool b)
 | int (i:Int):Snap M (.int i) (.int i)
 | str (x:Str):Snap M (.str x) (.str x)
 | tup {ws:List W} {ds:List Kt}:iV M ws ds->Snap M (.tup ws) (.tuple ds)
 | rl {ws:List W} {ds:List Kt}:iV M ws ds->Snap M (.rl ws) (.list ds)
 | ref {a:Addr} {ws:List W} {ds:List Kt}:M a=some (.lst ws)->iV M ws ds->Snap M (.ref a) (.list ds)
inductive iV(M:Mm):List W->List Kt->Prop
 | nil:iV M [] []
 | cons {w:W} {ws:List W} {d:Kt} {ds:List Kt}:Snap M w d->iV M ws ds->iV M (w :: ws) (d :: ds)
end
section
variable {pins:List (Addr×Obj)}{σ:SV}{H:Hp}{s:Ag}{M:Mm}
theorem iV.reads(I:Inv X pins σ H s)(am:AM X.K H M){ws:List W}{ds:List Kt}(h:iV M ws ds):∀ {vs:List V} {us:List Ae},aM X.K H M vs ws->aZ vs us->∃ as,ReadsAll s.heap us ds as:=
 iV.rec (motive_1:=fun w d _=>∀ {v:V} {u:Ae},AV X.K H M v w->RelV v u->∃ as,Reads s.heap u d as) (motive_2:=fun ws ds _=>∀ {vs:List V} {us:List Ae},aM X.K H M vs ws->aZ vs us->∃ as,ReadsAll s.heap us ds as)
  (fun av r=>by rw[show _=_ from av.inv] at r;rw[show _=_ from r];exact⟨_,.none⟩)
  (fun b _ _ av r=>by rw[show _=_ from av.inv] at r;rw[show _=_ from r];exact⟨_,.bool b⟩)
  (fun i _ _ av r=>by rw[show _=_ from av.inv] at r;exact r.elim fun t r=>by rw[r];exact⟨_,.int i t⟩)
  (fun x _ _ av r=>by rw[show _=_ from av.inv] at r;exact r.elim fun t r=>by rw[r];exact⟨_,.str x t⟩)
  (fun _ ih _ _ av r=>av.tupE fun a xs e f q=>by
   rw[e] at r;rw[show _=_ from r]
   obtain⟨its,rv,⟨o,e1,e2,n,e3⟩,_⟩:=I.tuple (bL.of f)
   exact(ih q rv).elim fun as z=>⟨_,.tuple e1 e2 e3 (by simpa using z)⟩)
  (fun _ ih _ _ av r=>av.rlE fun a xs e f q=>by
   rw[e] at r;rw[show _=_ from r]
   obtain⟨its,rv,pl,_⟩:=I.list (bD.of f)
   obtain⟨o,e1,e2,n,e3⟩:=pl.isList
   exact(ih q rv).elim fun as z=>⟨_,.list e1 e2 e3 (by simpa using z)⟩)
  (fun e0 _ ih _ _ av r=>am.lstE e0 fun vs f q=>by
   rw[show _=_ from av.inv] at r;rw[show _=_ from r]
   obtain⟨its,rv,pl,_⟩:=I.list (bD.of f)
   obtain⟨o,e1,e2,n,e3⟩:=pl.isList
   exact(ih q rv).elim fun as z=>⟨_,.list e1 e2 e3 (by simpa using z)⟩)
  (fun av r=>by cases av;cases r;exact⟨_,.nil⟩)
  (fun _ _ ih1 ih2 _ _ av r=>by
   cases av with
   | cons a b=>
    cases r with
    | cons r1 r2=>exact(ih1 a r1).elim fun x q1=>(ih2 b r2).elim fun y q2=>⟨_,.cons q1 q2⟩) h
theorem Snap.reads(I:Inv X pins σ H s)(am:AM X.K H M){w:W}{d:Kt}{v:V}{u:Ae}(h:Snap M w d)(av:AV X.K H M v w)(r:RelV v u):∃ as,Reads s.heap u d as:=
 (iV.reads I am (.cons h .nil) (.cons av .nil) (.cons r .nil)).elim fun _ z=>by
  cases z with
  | cons q _=>exact⟨_,q⟩
end
def qQ(neg:Bool):R3:=fun x y M R=>∃ da db,Snap M x da/\Snap M y db/\E7 da/\E7 db/\R (.bl (if neg then !PyData.eqv da db else Jw da db)) M
def rEq(neg:Bool):R3
 | .int i,.int j,M,R=>R (.bl (if neg then !decide (i=j) else decide (i=j))) M
 | .str i,.str j,M,R=>R (.bl (if neg then !decide (i=j) else decide (i=j))) M
 | .bl i,.bl j,M,R=>R (.bl (if neg then !decide (i=j) else decide (i=j))) M
 | x,y,M,R=>qQ neg x y M R
theorem F1{i j:Int}:decide (V.int i=V.int j)=decide (i=j):=by rw[Eu];simp
theorem F5{i j:Str}:decide (V.str i=V.str j)=decide (i=j):=by rw[Eu];simp
theorem F6{i j:Bool}:decide (V.bl i=V.bl j)=decide (i=j):=by rw[Eu];simp
theorem F7{n:Bool}{P:W->W->Prop}{M:Mm}{R:K3}(c1:∀ i j,R (.bl (if n then !decide (i=j) else decide (i=j))) M->P (.int i) (.int j))(c2:∀ i j,R (.bl (if n then !decide (i=j) else decide (i=j))) M->P (.str i) (.str j))
  (c3:∀ i j,R (.bl (if n then !decide (i=j) else decide (i=j))) M->P (.bl i) (.bl j)) (c4:∀ x y,qQ n x y M R->P x y) (x y:W) (h:rEq n x y M R):P x y:=by
 cases x <;> first | exact c4 _ _ h | (cases y <;> first | exact c1 _ _ h | exact c2 _ _ h | exact c3 _ _ h | exact c4 _ _ h)
theorem sV{i j:V}{x y:V}(e:x=i)(f:y=j)(h:sI i j=true):sI x y=true:=by rw[e,f];exact h
theorem dV{i j:V}{x y:V}{b:Bool}{Q:Bool->Prop}(e:x=i)(f:y=j)(h:decide (i=j)=b)(q:Q b):Q (decide (x=y)):=by rw[e,f,h];exact q
theorem U6(hu:X.A.units + 64 < Fm):bG X (Ce .Eq) (cL X.K (qQ false)):=by
 rintro pins s σ H x y v u Q I rx ry ⟨wx,wy,M,R,am,ax,ay,⟨da,db,ha,hb,fa,fb,q⟩,k⟩
 obtain⟨as,ra⟩:=ha.reads I am ax rx
 obtain⟨bs,rb⟩:=hb.reads I am ay ry
 exact SeqAt.compareEq_reads ra rb fa.1 fb.1 (Nat.lt_of_le_of_lt (Jx (Bh (Nat.min_le_left _ _) (Bh fa.2 (by decide))) _) hu) ⟨.bl _,H,I,rfl,k.at am (.bl _) q⟩
theorem U7(hu:X.A.units + 64 < Fm):bG X (Ce .NotEq) (cL X.K (qQ true)):=by
 rintro pins s σ H x y v u Q I rx ry ⟨wx,wy,M,R,am,ax,ay,⟨da,db,ha,hb,fa,fb,q⟩,k⟩
 obtain⟨as,ra⟩:=ha.reads I am ax rx
 obtain⟨bs,rb⟩:=hb.reads I am ay ry
 exact SeqAt.compareNe_reads ra rb fa.1 fb.1 (Nat.lt_of_le_of_lt (Jx (Bh (Nat.min_le_left _ _) (Bh fa.2 (by decide))) _) hu) ⟨.bl _,H,I,rfl,k.at am (.bl _) q⟩
theorem jC(hu:X.A.units + 64 < Fm):bG X (Ce .Eq) (cL X.K (rEq false)):=lH (OX.or (U6 hu)) fun x y H Q M R am k=>F7
 (fun i j h ax ay=>.inl ⟨sV ax.inv ay.inv rfl,dV (Q:=fun b=>Q (.bl b) H) ax.inv ay.inv F1 (k.at am (.bl _) h)⟩)
 (fun i j h ax ay=>.inl ⟨sV ax.inv ay.inv rfl,dV (Q:=fun b=>Q (.bl b) H) ax.inv ay.inv F5 (k.at am (.bl _) h)⟩)
 (fun i j h ax ay=>.inl ⟨sV ax.inv ay.inv rfl,dV (Q:=fun b=>Q (.bl b) H) ax.inv ay.inv F6 (k.at am (.bl _) h)⟩)
 (fun wx wy h ax ay=>.inr ⟨wx,wy,M,R,am,ax,ay,h,k⟩)
theorem mG(hu:X.A.units + 64 < Fm):bG X (Ce .NotEq) (cL X.K (rEq true)):=lH (OY.or (U7 hu)) fun x y H Q M R am k=>F7
 (fun i j h ax ay=>.inl ⟨sV ax.inv ay.inv rfl,dV (Q:=fun b=>Q (.bl !b) H) ax.inv ay.inv F1 (k.at am (.bl _) h)⟩)
 (fun i j h ax ay=>.inl ⟨sV ax.inv ay.inv rfl,dV (Q:=fun b=>Q (.bl !b) H) ax.inv ay.inv F5 (k.at am (.bl _) h)⟩)
 (fun i j h ax ay=>.inl ⟨sV ax.inv ay.inv rfl,dV (Q:=fun b=>Q (.bl !b) H) ax.inv ay.inv F6 (k.at am (.bl _) h)⟩)
 (fun wx wy h ax ay=>.inr ⟨wx,wy,M,R,am,ax,ay,h,k⟩)
def wK:aD->W
 | .inl i=>.int i
 | .inr x=>.str x
def a9{κ:Type}[DecidableEq κ](kvs:List (κ×W))(k:κ):Option W:=(kvs.find? fun kv=>decide (kv.1=k)).map (·.2)
def bZ{κ:Type}[DecidableEq κ](kvs:List (κ×W))(k:κ)(v:W):List (κ×W):=
 if (kvs.any fun kv=>decide (kv.1=k))=true then kvs.map (fun kv=>if kv.1=k then(kv.1,v) else kv) else kvs ++ [(k,v)]
theorem AV.key{K:Ac}{H:Hp}{M:Mm}{v:V}{k:aD}(h:AV K H M v (wK k)):v=kV k:=by
 cases k <;> exact h.inv
theorem aM.keys{K:Ac}{H:Hp}{M:Mm}:∀ {vs:List V} {k:List aD},aM K H M vs (k.map wK)->vs=k.map kV
 | _,[],h=>by cases h;rfl
 | _,a :: r,h=>by
  cases h with
  | cons x y=>rw[x.key,aM.keys y];rfl
section
variable {κ:Type}[DecidableEq κ]{K:Ac}{H:Hp}{M:Mm}
theorem tM{ks:List (κ×V)}{kvs:List (κ×W)}(h:bQ K H M κ ks kvs)(k:κ):(a9 kvs k=none/\fY ks k=none)\/∃ v w,a9 kvs k=some w/\fY ks k=some v/\AV K H M v w:=by
 induction h with
 | nil=>exact .inl ⟨rfl,rfl⟩
 | @cons p q ps qs r t ih=>
  by_cases e:p.1=k
  ·refine .inr ⟨p.2,q.2,?_,?_,r.2⟩
   ·unfold a9;rw[Fg,decide_eq_true (by rw[<-r.1];exact e)];rfl
   ·exact sO e
  ·have e2:¬ q.1=k:=by rw[<-r.1];exact e
   have l:a9 (q :: qs) k=a9 qs k:=by unfold a9;rw[Fg,decide_eq_false e2]
   rw[l,sP e]
   exact ih
theorem U8{ks:List (κ×V)}{kvs:List (κ×W)}(h:bQ K H M κ ks kvs)(k:κ):(ks.any fun kv=>decide (kv.1=k))=(kvs.any fun kv=>decide (kv.1=k)):=by
 induction h with
 | nil=>rfl
 | cons r t ih=>rw[Fz,Fz,ih,r.1]
theorem U9{ks:List (κ×V)}{kvs:List (κ×W)}{v:V}{w:W}{k:κ}(av:AV K H M v w)(h:bQ K H M κ ks kvs):bQ K H M κ (ks.map (fun kv=>if kv.1=k then(kv.1,v) else kv)) (kvs.map (fun kv=>if kv.1=k then(kv.1,w) else kv)):=by
 induction h with
 | nil=>exact .nil
 | @cons p q ps qs r t ih=>
  rw[Ay,Ay]
  refine .cons ?_ ih
  by_cases e:p.1=k
  ·rw[if_pos e,if_pos (by rw[<-r.1];exact e)];exact⟨r.1,av⟩
  ·rw[if_neg e,if_neg (by rw[<-r.1];exact e)];exact r
theorem VA{ks:List (κ×V)}{kvs:List (κ×W)}{v:V}{w:W}{k:κ}(av:AV K H M v w)(h:bQ K H M κ ks kvs):bQ K H M κ (ks ++ [(k,v)]) (kvs ++ [(k,w)]):=by
 induction h with
 | nil=>exact .cons ⟨rfl,av⟩ .nil
 | cons r t ih=>exact .cons r ih
theorem tN{ks:List (κ×V)}{kvs:List (κ×W)}{v:V}{w:W}(h:bQ K H M κ ks kvs)(k:κ)(av:AV K H M v w):bQ K H M κ (eA ks k v) (bZ kvs k w):=by
 unfold eA bZ
 rw[U8 h k]
 split
 ·exact U9 av h
 ·exact VA av h
end
def eZ(M:Mm):W->W->Option W->Prop
 | .ref a,y,o=>(∃ kvs k,M a=some (.dK kvs)/\y=wK k/\o=a9 kvs k)\/∃ kvs k,M a=some (.dT kvs)/\y=.tup (k.map wK)/\o=a9 kvs k
 | .dk kvs,y,o=>∃ k,y=wK k/\o=a9 kvs k
 | .dt kvs,y,o=>∃ k,y=.tup (k.map wK)/\o=a9 kvs k
 | .fk kvs,y,o=>∃ k,y=wK k/\o=a9 kvs k
 | .ft kvs,y,o=>∃ k,y=.tup (k.map wK)/\o=a9 kvs k
 | _,_,_=>False
theorem w4{K:Ac}{H:Hp}{M:Mm}{a:Addr}{y:V}{k:aD}{ks:List (aD×V)}{kvs:List (aD×W)}(e1:Rd H a (.dK ks))(q:bQ K H M aD ks kvs)(ay:AV K H M y (wK k)):(a9 kvs k=none/\g9 H a y none)\/∃ v w,a9 kvs k=some w/\g9 H a y (some v)/\AV K H M v w:=by
 rw[ay.key]
 rcases tM q k with⟨l1,l2⟩ | ⟨v,w,l1,l2,av⟩
 ·exact .inl ⟨l1,by rw[<-l2];exact .inl ⟨_,_,e1,rfl,rfl⟩⟩
 ·exact .inr ⟨v,w,l1,by rw[<-l2];exact .inl ⟨_,_,e1,rfl,rfl⟩,av⟩
theorem w5{K:Ac}{H:Hp}{M:Mm}{a:Addr}{y:V}{k:List aD}{ks:List (List aD×V)}{kvs:List (List aD×W)}(e1:Rd H a (.dT ks))(q:bQ K H M (List aD) ks kvs)(ay:AV K H M y (.tup (k.map wK))):(a9 kvs k=none/\g9 H a y none)\/∃ v w,a9 kvs k=some w/\g9 H a y (some v)/\AV K H M v w:=
 ay.tupE fun b xs e eb qb=>by
  rw[qb.keys] at eb
  rcases tM q k with⟨l1,l2⟩ | ⟨v,w,l1,l2,av⟩
  ·exact .inl ⟨l1,by rw[<-l2];exact .inr ⟨_,_,_,e1,e,eb,rfl⟩⟩
  ·exact .inr ⟨v,w,l1,by rw[<-l2];exact .inr ⟨_,_,_,e1,e,eb,rfl⟩,av⟩
theorem tO{K:Ac}{H:Hp}{M:Mm}{x y:V}{wx wy:W}{o:Option W}(am:AM K H M)(ax:AV K H M x wx)(ay:AV K H M y wy)(h:eZ M wx wy o):∃ a,x=.ref a/\((o=none/\g9 H a y none)\/∃ v w,o=some w/\g9 H a y (some v)/\AV K H M v w):=by
 cases wx <;> first | exact(show False from h).elim | skip
 case ref a=>
  rcases h with⟨kvs,k,e,rfl,rfl⟩ | ⟨kvs,k,e,rfl,rfl⟩
  ·obtain⟨ks,e1,q⟩:=am _ _ e
   exact⟨a,ax.inv,w4 (.inl e1) q ay⟩
  ·obtain⟨ks,e1,q⟩:=am _ _ e
   exact⟨a,ax.inv,w5 (.inl e1) q ay⟩
 all_goals
  obtain⟨k,rfl,rfl⟩:=h
  have ax:=ax.inv
 case dk=>obtain⟨a,ks,e,f,_,q⟩:=ax;exact⟨a,e,w4 (.inl f) q ay⟩
 case dt=>obtain⟨a,ks,e,f,_,q⟩:=ax;exact⟨a,e,w5 (.inl f) q ay⟩
 case fk=>obtain⟨a,ks,e,f,q⟩:=ax;exact⟨a,e,w4 (.inr f) q ay⟩
 case ft=>obtain⟨a,ks,e,f,q⟩:=ax;exact⟨a,e,w5 (.inr f) q ay⟩
def aQ:R3
 | .tup ws,.int i,M,R=>∃ w,cG ws i=some w/\R w M
 | .rl ws,.int i,M,R=>∃ w,cG ws i=some w/\R w M
 | .sc ws,.int i,M,R=>∃ w,cG ws i=some w/\R w M
 | .dk kvs,y,M,R=>∃ w,eZ M (.dk kvs) y (some w)/\R w M
 | .dt kvs,y,M,R=>∃ w,eZ M (.dt kvs) y (some w)/\R w M
 | .fk kvs,y,M,R=>∃ w,eZ M (.fk kvs) y (some w)/\R w M
 | .ft kvs,y,M,R=>∃ w,eZ M (.ft kvs) y (some w)/\R w M
 | .str z,.int i,M,R=>z.length<=Am/\∃ c,cG z.cps.toList i=some c/\R (.str ⟨#[c]⟩) M
 | .ref a,.int i,M,R=>(∃ ws w,M a=some (.lst ws)/\cG ws i=some w/\R w M)\/∃ w,eZ M (.ref a) (.int i) (some w)/\R w M
 | .ref a,y,M,R=>∃ w,eZ M (.ref a) y (some w)/\R w M
 | _,_,_,_=>False
theorem w6{K:Ac}{H:Hp}{M:Mm}{vs:List V}{ws:List W}{i:Int}{w:W}(q:aM K H M vs ws)(h:cG ws i=some w):∃ v,cG vs i=some v/\AV K H M v w:=by
 unfold cG at h ⊢
 rw[q.length]
 cases e:gY ws.length i with
 | none=>rw[e] at h;cases h
 | some j=>
  rw[e] at h
  exact q.getW (i:=j) h
theorem VB(hu:X.A.units + 1 < Fm):i5 X (fun x y H Q=>∃ a v,x=.ref a/\g9 H a y (some v)/\Q v H):=by
 intro value slice pins s σ H x y v u Q I rx ry h hs
 obtain⟨a,z,rfl,g,q⟩:=h
 cases rx
 exact tail_any (R5 I g) PySem.F.slot_dict_getitem.lookup (RY hu I g ry fun w' s3 I3 rw'=>⟨z,H,I3,rw',q⟩) hs
theorem VC{P:W->W->Prop}{M:Mm}{R:K3}(c1:∀ ws i w,cG ws i=some w->R w M->P (.tup ws) (.int i))(c2:∀ ws i w,cG ws i=some w->R w M->P (.sc ws) (.int i))
  (c3:∀ x ws i w,lI M x ws->cG ws i=some w->R w M->P x (.int i)) (c4:∀ z i,z.length<=Am/\(∃ c,cG z.cps.toList i=some c/\R (.str ⟨#[c]⟩) M)->P (.str z) (.int i))
  (c5:∀ x y w,eZ M x y (some w)->R w M->P x y) (x y:W) (h:aQ x y M R):P x y:=by
 cases x
 case non | bl | int | ty=>exact(show False from h).elim
 case dk | dt | fk | ft=>exact h.elim fun w h=>c5 _ _ _ h.1 h.2
 all_goals cases y <;> first | exact(show False from h).elim | skip
 case tup.int=>obtain⟨w,e,r⟩:=h;exact c1 _ _ _ e r
 case sc.int=>obtain⟨w,e,r⟩:=h;exact c2 _ _ _ e r
 case rl.int=>obtain⟨w,e,r⟩:=h;exact c3 _ _ _ _ rfl e r
 case str.int=>exact c4 _ _ h
 case ref.int=>exact h.elim (fun⟨ws,w,e,e2,r⟩=>c3 _ _ _ _ e e2 r) fun⟨w,e,r⟩=>c5 _ _ _ e r
 all_goals obtain⟨w,e,r⟩:=h;exact c5 _ _ _ e r
theorem VD(hu:X.A.units + 1 < Fm):i5 X (cL X.K aQ):=UY (Q4.or (Q5.or (Q6.or (VB hu)))) fun x y H Q M R am k=>VC
 (fun ws i w h r ax ay=>ax.tupE fun a xs e f q=>let ⟨z,e3,av⟩:=w6 q h;.inr (.inl ⟨a,xs,i,z,e,ay.inv,bL.of f,e3,k.at am av r⟩))
 (fun ws i w h r ax ay=>ax.scE fun a xs e f q=>let ⟨z,e3,av⟩:=w6 q h;.inl ⟨a,xs,i,z,e,ay.inv,f.sq,e3,k.at am av r⟩)
 (fun wx ws i w h1 h r ax ay=>let ⟨a,xs,e,f,q⟩:=mE am ax h1;let ⟨z,e3,av⟩:=w6 q h;.inl ⟨a,xs,i,z,e,ay.inv,bD.of f,e3,k.at am av r⟩)
 (fun z i h ax ay=>let ⟨c,e,r⟩:=h.2;.inr (.inr (.inl ⟨z,i,c,ax.inv,ay.inv,h.1,e,k.at am (.str _) r⟩)))
 (fun wx wy w g r ax ay=>.inr (.inr (.inr (by
  obtain⟨a,e,g⟩:=tO am ax ay g
  rcases g with⟨z,_⟩ | ⟨z,w',e',g',av⟩
  ·cases z
  ·exact⟨a,z,e,g',k.at am av (by rw[<-Ci e'];exact r)⟩))))
variable {a b:Expr}{ta tb:aY}{pos:Pos}
theorem aV(hu:X.A.units + 1 < Fm)(ha:E3 X a ta)(hb:E3 X b tb)(hs:ED b:=by exact fun _ _=>rfl):E3 X (.Subscript a b pos) (aE aQ ta tb):=(Q0 (VD hu) ha hb hs).weak fun _ _ _ h=>tG h
def dU(ws:List W)(lo hi:Option Int):List W:=(ws.drop (HT.sIx ws.length 0 lo)).take (HT.sIx ws.length ws.length hi - HT.sIx ws.length 0 lo)
def F8:W->Option Int->Option Int->Mm->K3->Prop
 | .rl ws,lo,hi,M,R=>bC (dU ws lo hi) M R
 | .sc ws,lo,hi,M,R=>bC (dU ws lo hi) M R
 | .ref a,lo,hi,M,R=>∃ ws,M a=some (.lst ws)/\bC (dU ws lo hi) M R
 | .tup ws,lo,hi,M,R=>¬ (HT.sIx ws.length 0 lo=0/\HT.sIx ws.length ws.length hi=ws.length)/\R (.tup (dU ws lo hi)) M
 | _,_,_,_,_=>False
theorem tP{K:Ac}{H:Hp}{M:Mm}{vs:List V}{ws:List W}{lo hi:Option Int}(q:aM K H M vs ws):aM K H M (lX vs lo hi) (dU ws lo hi):=by
 unfold lX dU
 rw[q.length]
 exact(q.drop _).take _
def VE(K:Ac)(r:W->Option Int->Option Int->Mm->K3->Prop):V->Option Int->Option Int->Hp->VK->Prop:=fun x lo hi H Q=>∃ wx M R,AM K H M/\AV K H M x wx/\r wx lo hi M R/\Up K H M R Q
theorem VF:sM X (VE X.K F8):=by
 rintro pins s σ H x v vl vu lo hi sl Q I rx hs pl pu ⟨wx,M,R,am,ax,h,k⟩
 cases wx <;> first | exact(show False from h).elim | skip
 case tup ws=>exact ax.tupE fun a xs e f q=>QX pins s σ H _ v vl vu lo hi sl Q I rx hs pl pu ⟨a,xs,e,bL.of f,by rw[q.length];exact h.1,fun p hp=>laidT am k hp (tP q) h.2⟩
 case sc ws=>exact ax.scE fun a xs e f q=>v5 pins s σ H _ v vl vu lo hi sl Q I rx hs pl pu ⟨a,xs,e,f.sq,fun p hp=>jB am k hp (tP q) h⟩
 case rl ws=>exact ax.rlE fun a xs e f q=>v5 pins s σ H _ v vl vu lo hi sl Q I rx hs pl pu ⟨a,xs,e,bD.of f,fun p hp=>jB am k hp (tP q) h⟩
 case ref a=>
  obtain⟨ws,e,r⟩:=h
  exact am.lstE e fun vs f q=>v5 pins s σ H _ v vl vu lo hi sl Q I rx hs pl pu ⟨a,vs,ax.inv,bD.of f,fun p hp=>jB am k hp (tP q) r⟩
abbrev pA:=S3->Mm->(Option Int->Mm->Prop)->Prop
def pB(K:Ac)(t:pA):TO:=fun σ H Q=>∃ (τ:S3) (M:Mm) (R:Option Int->Mm->Prop),AS K H M σ τ/\AM K H M/\t τ M R/\∀ o H' M',Kp H M H' M'->AM K H' M'->R o M'->Q o H'
theorem pB.el{K:Ac}{H:Hp}{σ:SV}{C:Prop}{t:pA}{Q:Option Int->Hp->Prop}(h:pB K t σ H Q)(c:∀ τ M R,AS K H M σ τ->AM K H M->t τ M R->(∀ o H' M',Kp H M H' M'->AM K H' M'->R o M'->Q o H')->C):C:=by obtain⟨τ,M,R,a,b,h,k⟩:=h;exact c τ M R a b h k
def tQ:pA:=fun _ M Q=>Q none M
def kL(t:aY):pA:=fun τ M Q=>t τ M fun x M1=>∃ i,x=.int i/\Q (some i) M1
theorem xA:PO X none (pB X.K tQ):=QS.weak fun σ H Q z0=>z0.el fun τ M R as am h k=>k none H M (Kp.refl am) am h
theorem nI(h:E3 X a ta):PO X (some a) (pB X.K (kL ta)):=(QT h).weak fun σ H Q z0=>z0.el fun τ M R as am h k=>⟨τ,M,_,as,am,h,fun x H1 wx M1 k1 am1 ax ⟨i,e,h1⟩=>by
 subst e;exact⟨i,ax.inv,k _ _ _ k1 am1 h1⟩⟩
def fB:W->Bool
 | .non=>true
 | .bl _=>true
 | .int _=>true
 | .str _=>true
 | _=>false
def xB:W->W->Bool
 | .non,.non=>true
 | .bl a,.bl b=>a == b
 | .bl a,.int b=>(if a then 1 else 0) == b
 | .int a,.bl b=>a == (if b then 1 else 0)
 | .int a,.int b=>a == b
 | .str a,.str b=>a == b
 | _,_=>false
def inW(x:W)(ws:List W):Bool:=ws.any fun y=>xB y x
theorem AV.flat{K:Ac}{H:Hp}{M:Mm}{v:V}{w:W}(h:AV K H M v w)(f:fB w=true):kD v=true:=by cases h <;> first | rfl | exact f
def xC:W->V
 | .non=>.non
 | .bl b=>.bl b
 | .int i=>.int i
 | .str x=>.str x
 | _=>.non
theorem AV.flv{K:Ac}{H:Hp}{M:Mm}{v:V}{w:W}(h:AV K H M v w)(f:fB w=true):v=xC w:=by
 cases w <;> first | exact h.inv | exact absurd f Ao
theorem VG:∀ {w z:W},fB w=true->fB z=true->kE (xC w) (xC z)=xB w z:=by
 intro w z f g
 cases w <;> first | exact absurd f Ao | (cases z <;> first | rfl | exact absurd g Ao)
theorem AV.eq{K:Ac}{H:Hp}{M:Mm}{v u:V}{w z:W}(h:AV K H M v w)(h2:AV K H M u z)(f:fB w=true)(f2:fB z=true):kE v u=xB w z:=by
 rw[h.flv f,h2.flv f2];exact VG f f2
theorem aM.inn{K:Ac}{H:Hp}{M:Mm}{u:V}{z:W}(hz:AV K H M u z)(fz:fB z=true):∀ {vs:List V} {ws:List W},aM K H M vs ws->ws.all fB=true->vs.all kD=true/\inV u vs=inW z ws
 | _,_,.nil,_=>⟨rfl,rfl⟩
 | _,_,.cons x r,f=>by
  rw[Mw,Cm] at f
  obtain⟨h1,h2⟩:=aM.inn hz fz r f.2
  refine⟨by rw[Mw,x.flat f.1,h1];rfl,?_⟩
  unfold inV inW at h2 ⊢
  rw[Fz,Fz,h2,x.eq hz f.1 fz]
def occ(i j:Str):Bool:=!(Kb j i 0 j.length 1).isEmpty
def rIn(neg:Bool):R3
 | .str i,.str j,M,R=>R (.bl (if neg then !occ i j else occ i j)) M
 | x,.tup ws,M,R=>fB x=true/\ws.all fB=true/\R (.bl (if neg then !inW x ws else inW x ws)) M
 | x,.rl ws,M,R=>fB x=true/\ws.all fB=true/\R (.bl (if neg then !inW x ws else inW x ws)) M
 | x,.ref a,M,R=>(∃ ws,M a=some (.lst ws)/\fB x=true/\ws.all fB=true/\R (.bl (if neg then !inW x ws else inW x ws)) M)\/∃ o,eZ M (.ref a) x o/\R (.bl (if neg then !o.isSome else o.isSome)) M
 | x,.dk kvs,M,R=>∃ o,eZ M (.dk kvs) x o/\R (.bl (if neg then !o.isSome else o.isSome)) M
 | x,.dt kvs,M,R=>∃ o,eZ M (.dt kvs) x o/\R (.bl (if neg then !o.isSome else o.isSome)) M
 | x,.fk kvs,M,R=>∃ o,eZ M (.fk kvs) x o/\R (.bl (if neg then !o.isSome else o.isSome)) M
 | x,.ft kvs,M,R=>∃ o,eZ M (.ft kvs) x o/\R (.bl (if neg then !o.isSome else o.isSome)) M
 | _,_,_,_=>False
def F9(M:Mm):W->List W->Prop
 | .tup ws,zs=>ws=zs
 | x,ws=>lI M x ws
theorem GA{K:Ac}{H:Hp}{M:Mm}{v:V}{w:W}{ws:List W}(am:AM K H M)(h:AV K H M v w)(e:F9 M w ws):∃ a xs,v=.ref a/\(bD K H a xs\/bL K H a xs)/\aM K H M xs ws:=by
 cases w
 case tup zs=>exact h.tupE fun a xs e1 f q=>⟨_,_,e1,.inr (bL.of f),by rw[<-show zs=ws from e];exact q⟩
 case ref | rl=>obtain⟨a,xs,e1,f,q⟩:=mE am h e;exact⟨a,xs,e1,.inl (bD.of f),q⟩
 all_goals exact(show False from e).elim
theorem GB{n:Bool}{P:W->W->Prop}{M:Mm}{R:K3}(c1:∀ i j,R (.bl (if n then !occ i j else occ i j)) M->P (.str i) (.str j))
  (c2:∀ x y ws,F9 M y ws->fB x=true/\ws.all fB=true/\R (.bl (if n then !inW x ws else inW x ws)) M->P x y)
  (c3:∀ x y o,eZ M y x o->R (.bl (if n then !o.isSome else o.isSome)) M->P x y) (x y:W) (h:rIn n x y M R):P x y:=by
 cases y
 case non | bl | int | ty | sc=>exfalso;cases x <;> exact h
 case str=>cases x <;> first | exact(show False from h).elim | exact c1 _ _ h
 case tup=>exact c2 _ _ _ rfl (by cases x <;> exact h)
 case rl=>exact c2 _ _ _ rfl (by cases x <;> exact h)
 case ref a=>
  have h:(∃ ws,M a=some (.lst ws)/\fB x=true/\ws.all fB=true/\R (.bl (if n then !inW x ws else inW x ws)) M)\/∃ o,eZ M (.ref a) x o/\R (.bl (if n then !o.isSome else o.isSome)) M:=by cases x <;> exact h
  exact h.elim (fun⟨ws,e,h⟩=>c2 _ _ _ e h) fun⟨o,g,r⟩=>c3 _ _ _ g r
 case dk kvs=>have h:∃ o,eZ M (.dk kvs) x o/\R (.bl (if n then !o.isSome else o.isSome)) M:=(by cases x <;> exact h);exact h.elim fun o h=>c3 _ _ _ h.1 h.2
 case dt kvs=>have h:∃ o,eZ M (.dt kvs) x o/\R (.bl (if n then !o.isSome else o.isSome)) M:=(by cases x <;> exact h);exact h.elim fun o h=>c3 _ _ _ h.1 h.2
 case fk kvs=>have h:∃ o,eZ M (.fk kvs) x o/\R (.bl (if n then !o.isSome else o.isSome)) M:=(by cases x <;> exact h);exact h.elim fun o h=>c3 _ _ _ h.1 h.2
 case ft kvs=>have h:∃ o,eZ M (.ft kvs) x o/\R (.bl (if n then !o.isSome else o.isSome)) M:=(by cases x <;> exact h);exact h.elim fun o h=>c3 _ _ _ h.1 h.2
def GC(n:Bool):R2:=fun x y H Q=>∃ a o,y=.ref a/\g9 H a x o/\Q (.bl (if n then !o.isSome else o.isSome)) H
theorem VH(hu:X.A.units + 1 < Fm):bG X (Ce .In) (GC false):=by
 rintro pins s σ H x y v u Q I rx ry ⟨a,o,rfl,g,q⟩
 cases ry
 exact RZ hu I g rx fun s3 I3=>⟨.bl _,H,I3,rfl,q⟩
theorem VI(hu:X.A.units + 1 < Fm):bG X (Ce .NotIn) (GC true):=by
 rintro pins s σ H x y v u Q I rx ry ⟨a,o,rfl,g,q⟩
 cases ry
 exact R0 hu I g rx fun s3 I3=>⟨.bl _,H,I3,rfl,q⟩
theorem GD{K:Ac}{H:Hp}{M:Mm}{x y:V}{wx wy:W}{o:Option W}(am:AM K H M)(ax:AV K H M x wx)(ay:AV K H M y wy)(h:eZ M wx wy o):∃ a o',x=.ref a/\g9 H a y o'/\o'.isSome=o.isSome:=by
 obtain⟨a,e,⟨rfl,g⟩ | ⟨v,w,rfl,g,_⟩⟩:=tO am ax ay h
 ·exact⟨a,_,e,g,rfl⟩
 ·exact⟨a,_,e,g,rfl⟩
theorem mH(hu:X.A.units + 1 < Fm):bG X (Ce .In) (cL X.K (rIn false)):=lH (O4.or (RE.or (VH hu))) fun x y H Q M R am k=>GB
 (fun i j h ax ay=>.inl ⟨i,j,ax.inv,ay.inv,k.at am (.bl _) h⟩)
 (fun wx wy ws e h ax ay=>let ⟨a,xs,e1,f,q⟩:=GA am ay e;.inr (.inl ⟨a,xs,e1,f,ax.flat h.1,(aM.inn ax h.1 q h.2.1).1,by rw[(aM.inn ax h.1 q h.2.1).2];exact k.at am (.bl _) h.2.2⟩))
 (fun wx wy o g r ax ay=>let ⟨a,o',e,g,z⟩:=GD am ay ax g;.inr (.inr ⟨a,o',e,g,by rw[z];exact k.at am (.bl _) r⟩))
theorem nJ(hu:X.A.units + 1 < Fm):bG X (Ce .NotIn) (cL X.K (rIn true)):=lH (O6.or (RF.or (VI hu))) fun x y H Q M R am k=>GB
 (fun i j h ax ay=>.inl ⟨i,j,ax.inv,ay.inv,k.at am (.bl _) h⟩)
 (fun wx wy ws e h ax ay=>let ⟨a,xs,e1,f,q⟩:=GA am ay e;.inr (.inl ⟨a,xs,e1,f,ax.flat h.1,(aM.inn ax h.1 q h.2.1).1,by rw[(aM.inn ax h.1 q h.2.1).2];exact k.at am (.bl _) h.2.2⟩))
 (fun wx wy o g r ax ay=>let ⟨a,o',e,g,z⟩:=GD am ay ax g;.inr (.inr ⟨a,o',e,g,by rw[z];exact k.at am (.bl _) r⟩))
def dD:List W->Mm->K3->Prop
 | [.tup ws],M,R=>R (.int ws.length) M
 | [.rl ws],M,R=>R (.int ws.length) M
 | [.sc ws],M,R=>R (.int ws.length) M
 | [.dk kvs],M,R=>R (.int kvs.length) M
 | [.str z],M,R=>z.length<=Am/\R (.int z.length) M
 | [.ref a],M,R=>(∃ ws,M a=some (.lst ws)/\R (.int ws.length) M)\/∃ kvs,M a=some (.dK kvs)/\R (.int kvs.length) M
 | _,_,_=>False
theorem VJ{P:List W->Prop}{M:Mm}{R:K3}(c1:∀ ws,R (.int ws.length) M->P [.tup ws])(c2:∀ ws,R (.int ws.length) M->P [.sc ws])(c3:∀ x ws,lI M x ws->R (.int ws.length) M->P [x])
  (c4:∀ z,z.length<=Am/\R (.int z.length) M->P [.str z]) (c5:∀ kvs,R (.int kvs.length) M->P [.dk kvs]) (c6:∀ a kvs,M a=some (.dK kvs)->R (.int kvs.length) M->P [.ref a]) (l:List W) (h:dD l M R):P l:=by
 match l,h with
 | [.tup _],h=>exact c1 _ h
 | [.rl _],h=>exact c3 _ _ rfl h
 | [.sc _],h=>exact c2 _ h
 | [.dk _],h=>exact c5 _ h
 | [.str _],h=>exact c4 _ h
 | [.ref _],h=>exact h.elim (fun⟨ws,e,r⟩=>c3 _ _ e r) fun⟨ws,e,r⟩=>c6 _ _ e r
theorem dX:dE X (.builtin "len") (gQ X.K dD):=wU (RG.or (RH.or SM)) fun xs H Q M R am k=>VJ
 (fun ws h ax=>ax.oneE fun v e1 av=>av.tupE fun a us e f q=>.inl ⟨_,_,iK e1 e,.inr (bL.of f),by rw[q.length];exact k.at am (.int _) h⟩)
 (fun ws h ax=>ax.oneE fun v e1 av=>av.scE fun a us e f q=>.inl ⟨_,_,iK e1 e,.inl f.sq,by rw[q.length];exact k.at am (.int _) h⟩)
 (fun x ws e0 h ax=>ax.oneE fun v e1 av=>let ⟨a,us,e,f,q⟩:=mE am av e0;.inl ⟨_,_,iK e1 e,.inl (bD.of f),by rw[q.length];exact k.at am (.int _) h⟩)
 (fun z h ax=>ax.oneE fun v e1 av=>.inr (.inl ⟨z,iK e1 av.inv,h.1,k.at am (.int _) h.2⟩))
 (fun kvs h ax=>ax.oneE fun v e1 av=>let ⟨a,ks,e,f,_,q⟩:=av.inv;.inr (.inr ⟨a,ks,iK e1 e,f,by rw[Ei q];exact k.at am (.int _) h⟩))
 (fun a kvs e0 h ax=>ax.oneE fun v e1 av=>let ⟨ks,f,q⟩:=am _ _ e0;.inr (.inr ⟨a,ks,iK e1 av.inv,f,by rw[Ei q];exact k.at am (.int _) h⟩))
def xD:List W->Mm->K3->Prop
 | [.tup ws],M,R=>bC ws M R
 | [.rl ws],M,R=>bC ws M R
 | [.sc ws],M,R=>bC ws M R
 | [.dk kvs],M,R=>bC (kvs.map fun kv=>wK kv.1) M R
 | [.ref a],M,R=>(∃ ws,M a=some (.lst ws)/\bC ws M R)\/∃ kvs,M a=some (.dK kvs)/\bC (kvs.map fun kv=>wK kv.1) M R
 | _,_,_=>False
theorem GF{K:Ac}{H:Hp}{M:Mm}{ks:List (aD×V)}{kvs:List (aD×W)}(h:bQ K H M aD ks kvs):aM K H M (ks.map fun kv=>kV kv.1) (kvs.map fun kv=>wK kv.1):=by
 induction h with
 | nil=>exact .nil
 | @cons p q ps qs r t ih=>
  refine .cons ?_ ih
  show AV K H M (kV p.1) (wK q.1)
  rw[r.1]
  cases q.1 with
  | inl i=>exact .int i
  | inr x=>exact .str x
theorem VL{P:List W->Prop}{M:Mm}{R:K3}(c1:∀ ws,bC ws M R->P [.tup ws])(c2:∀ ws,bC ws M R->P [.sc ws])(c3:∀ x ws,lI M x ws->bC ws M R->P [x])
  (c5:∀ kvs:List (aD×W),bC (kvs.map fun kv=>wK kv.1) M R->P [.dk kvs]) (c6:∀ a kvs,M a=some (.dK kvs)->bC (kvs.map fun kv=>wK kv.1) M R->P [.ref a]) (l:List W) (h:xD l M R):P l:=by
 match l,h with
 | [.tup _],h=>exact c1 _ h
 | [.rl _],h=>exact c3 _ _ rfl h
 | [.sc _],h=>exact c2 _ h
 | [.dk _],h=>exact c5 _ h
 | [.ref _],h=>exact h.elim (fun⟨ws,e,r⟩=>c3 _ _ e r) fun⟨ws,e,r⟩=>c6 _ _ e r
theorem GG(hc:X.calm=true):dE X (.type "list") (gQ X.K xD):=wU (RI.or (TF hc)) fun xs H Q M R am k=>VL
 (fun ws h ax=>ax.oneE fun v e1 av=>av.tupE fun a us e f q=>.inl ⟨_,_,iK e1 e,.inr (bL.of f),fun p hp=>jB am k hp q h⟩)
 (fun ws h ax=>ax.oneE fun v e1 av=>av.scE fun a us e f q=>.inl ⟨_,_,iK e1 e,.inl f.sq,fun p hp=>jB am k hp q h⟩)
 (fun x ws e0 h ax=>ax.oneE fun v e1 av=>let ⟨a,us,e,f,q⟩:=mE am av e0;.inl ⟨_,_,iK e1 e,.inl (bD.of f),fun p hp=>jB am k hp q h⟩)
 (fun kvs h ax=>ax.oneE fun v e1 av=>let ⟨a,ks,e,f,_,q⟩:=av.inv;.inr ⟨a,ks,iK e1 e,f,fun p hp=>jB am k hp (GF q) h⟩)
 (fun a kvs e0 h ax=>ax.oneE fun v e1 av=>let ⟨ks,f,q⟩:=am _ _ e0;.inr ⟨a,ks,iK e1 av.inv,f,fun p hp=>jB am k hp (GF q) h⟩)
def qR:List W->Mm->K3->Prop
 | [.tup ws],M,R=>R (.tup ws) M
 | [.rl ws],M,R=>R (.tup ws) M
 | [.ref a],M,R=>∃ ws,M a=some (.lst ws)/\R (.tup ws) M
 | _,_,_=>False
theorem VM{P:List W->Prop}{M:Mm}{R:K3}(c1:∀ ws,R (.tup ws) M->P [.tup ws])(c3:∀ x ws,lI M x ws->R (.tup ws) M->P [x])(l:List W)(h:qR l M R):P l:=by
 match l,h with
 | [.tup _],h=>exact c1 _ h
 | [.rl _],h=>exact c3 _ _ rfl h
 | [.ref _],h=>exact h.elim fun ws h=>c3 _ _ h.1 h.2
theorem xE:dE X (.type "tuple") (gQ X.K qR):=wU RJ fun xs H Q M R am k=>VM
 (fun ws h ax=>ax.oneE fun v e1 av=>av.tupE fun a us e f q=>⟨_,_,iK e1 e,.inr ⟨bL.of f,k.at am (by rw[<-e];exact av) h⟩⟩)
 (fun x ws e0 h ax=>ax.oneE fun v e1 av=>let ⟨a,us,e,f,q⟩:=mE am av e0;⟨_,_,iK e1 e,.inl ⟨bD.of f,fun p hp=>laidT am k hp q h⟩⟩)
def fF:W->List W->Mm->K3->Prop
 | .ref l,[y],M,R=>∃ ws,M l=some (.lst ws)/\ws.length < Am/\R .non (put M l (.lst (ws ++ [y])))
 | _,_,_,_=>False
theorem jD:kC X "list.append" (l9 X.K fF):=by
 rintro pins s σ H x xs v us Q I rx rs ⟨wx,ws,M,R,am,ax,axs,h,k⟩
 match wx,ws,h with
 | .ref l,[y],h=>
  obtain⟨z,rfl,az⟩:=axs.one
  cases ax
  obtain⟨ws,e,hl,r⟩:=h
  obtain⟨vs,f,q⟩:=am.lst e
  exact EH pins s σ H _ _ v us Q I rx rs ⟨l,vs,z,rfl,rfl,f,by rw[q.length];exact hl,wQ am k e (q.append (.cons az .nil)) .non r⟩
def rPop:W->List W->Mm->K3->Prop
 | .ref l,[],M,R=>∃ ws w,M l=some (.lst (ws ++ [w]))/\R w (put M l (.lst ws))
 | _,_,_,_=>False
theorem qS:kC X "list.pop" (l9 X.K rPop):=by
 rintro pins s σ H x xs v us Q I rx rs ⟨wx,ws,M,R,am,ax,axs,h,k⟩
 match wx,ws,h with
 | .ref l,[],h=>
  cases axs
  cases ax
  obtain⟨ws,w,e,r⟩:=h
  obtain⟨vs,f,q⟩:=am.lst e
  have hl:=q.length
  rw[Ak,Bk] at hl
  obtain⟨z,hz,az⟩:=q.getW (i:=ws.length) (w:=w) (by simp)
  refine RP pins s σ H _ _ v us Q I rx rs ⟨l,vs,z,rfl,rfl,f,by rw[hl];exact hz,wQ am k e ?_ az r⟩
  have:=q.dropLast
  rw[List.dropLast_concat] at this
  exact this
def nK:aY:=fun _ M R=>lD [] M R
def mI:aY:=fun _ M R=>kI [] M R
theorem qT:E3 X (.Dict [] [] pos) nK:=R8.weak fun σ H Q ⟨τ,M,R,as,am,h,k⟩ p hp=>by
 obtain⟨am2,k2⟩:=am.laid (o:=.dK []) (u:=.dK []) hp ⟨[],cJ,.nil⟩
 exact k _ _ _ _ k2 am2 (.ref p) (h p (am.nonM hp))
theorem nL:E3 X (.Dict [] [] pos) mI:=R9.weak fun σ H Q ⟨τ,M,R,as,am,h,k⟩ p hp=>by
 obtain⟨am2,k2⟩:=am.laid (o:=.dT []) (u:=.dT []) hp ⟨[],cJ,.nil⟩
 exact k _ _ _ _ k2 am2 (.ref p) (h p (am.nonM hp))
end
abbrev P3(X:Cx)(st:Stmt)(t:aJ):Prop:=PS X st (qL X.K t)
abbrev kM(X:Cx)(st:List Stmt)(t:aJ):Prop:=fW X st (qL X.K t)
abbrev e6:=W->S3->Mm->(S3->Mm->Prop)->Prop
abbrev mJ:=List W->S3->Mm->(S3->Mm->Prop)->Prop
def hU(K:Ac)(g:e6):TG:=fun v σ H Q=>∃ w τ M R,AV K H M v w/\AS K H M σ τ/\AM K H M/\g w τ M R/\iJ K H M R Q
def pC(K:Ac)(g:mJ):jN:=fun vs σ H Q=>∃ ws τ M R,aM K H M vs ws/\AS K H M σ τ/\AM K H M/\g ws τ M R/\iJ K H M R Q
theorem hU.el{K:Ac}{H:Hp}{σ:SV}{C:Prop}{t:e6}{v:V}{Q:SV->Hp->Prop}(h:hU K t v σ H Q)(c:∀ w τ M R,AV K H M v w->AS K H M σ τ->AM K H M->t w τ M R->iJ K H M R Q->C):C:=by obtain⟨w,τ,M,R,a,b,d,h,k⟩:=h;exact c w τ M R a b d h k
theorem pC.el{K:Ac}{H:Hp}{σ:SV}{C:Prop}{t:mJ}{v:List V}{Q:SV->Hp->Prop}(h:pC K t v σ H Q)(c:∀ w τ M R,aM K H M v w->AS K H M σ τ->AM K H M->t w τ M R->iJ K H M R Q->C):C:=by obtain⟨w,τ,M,R,a,b,d,h,k⟩:=h;exact c w τ M R a b d h k
section
variable {X:Cx}{pos:Pos}
theorem _root_.L2.PG.weak{e:Expr}{t t':TG}(h:PG X e t)(k:∀ v σ H Q,t' v σ H Q->t v σ H Q):PG X e t':=fun pins s σ H v u Q I r q=>h pins s σ H v u Q I r (k v σ H Q q)
theorem _root_.L2.iZ.weak{e:List Expr}{t t':jN}(h:iZ X e t)(k:∀ v σ H Q,t' v σ H Q->t v σ H Q):iZ X e t':=fun pins s σ H v u Q I r q=>h pins s σ H v u Q I r (k v σ H Q q)
theorem iJ.at{K:Ac}{H:Hp}{M:Mm}{R:S3->Mm->Prop}{Q:SV->Hp->Prop}(h:iJ K H M R Q)(am:AM K H M){σ:SV}{τ:S3}(as:AS K H M σ τ)(r:R τ M):Q σ H:=h σ H τ M (Kp.refl am) am as r
def bH(i:Nat):e6:=fun w τ M R=>R (τ.set i (some w)) M
theorem GH{i:Nat}{x:Str}(hN:X.N.Nodup)(hi:X.N[i]? = some x)(hx:Loc X.env.scope x)(hf:X.fn x=true\/X.env.scope.names.lookup x=some .local:=by first | exact .inl rfl | exact .inr rfl | assumption):PG X (.Name x pos) (hU X.K (bH i)):=
 (NY hN hi hx hf).weak fun v σ H Q z0=>z0.el fun w τ M R av as am h k=>k.at am (as.set av i) h
def hV:mJ:=fun ws τ M R=>ws=[]/\R τ M
def cR(t:e6)(u:mJ):mJ:=fun ws τ M R=>match ws with
 | w :: r=>t w τ M fun τ' M'=>u r τ' M' R
 | []=>False
theorem jE:iZ X [] (pC X.K hV):=N2.weak fun vs σ H Q z=>z.el fun ws τ M R av as am h k=>⟨aM.nil_ (by rw[<-h.1];exact av),k.at am as h.2⟩
theorem dH{e:Expr}{es:List Expr}{t:e6}{u:mJ}(h1:PG X e (hU X.K t))(h2:iZ X es (pC X.K u))
  (hs:(Gi (e :: es) X.env).map (·.2)=Lg e X.env :: (Gi es X.env).map (·.2):=by rfl):iZ X (e :: es) (pC X.K (cR t u)):=
 (N3 h1 h2 hs).weak fun vs σ H Q z0=>z0.el fun ws τ M R av as am h k=>by
  cases av with
  | nil=>exact(show False from h).elim
  | cons x r=>exact⟨_,_,rfl,_,τ,M,_,x,as,am,h,fun σ' H' τ' M' k' am' as' h'=>⟨_,τ',M',R,r.kp am k',as',am',h',k.kp k'⟩⟩
def hW(n:Nat)(g:mJ):e6:=fun w τ M R=>match w with
 | .tup ws=>ws.length=n/\g ws τ M R
 | .rl ws=>ws.length=n/\g ws τ M R
 | .ref a=>∃ ws,M a=some (.lst ws)/\ws.length=n/\g ws τ M R
 | _=>False
theorem jF{es:List Expr}{k:Nat}{t:mJ}{n:Nat}(hc:X.calm=true)(h:iZ X es (pC X.K t))
  (hn:(Gi es X.env).length=n:=by rfl) (hst:(Gi es X.env).findIdx? (·.1)=none:=by rfl):PG X (.Tuple es k pos) (hU X.K (hW n t)):=by
 rintro pins s σ H v u Q I r ⟨w,τ,M,R,av,as,am,hw,kk⟩
 cases w <;> first | exact(show False from hw).elim | skip
 case tup ws=>exact av.tupE fun a xs e f q=>N5 hc h hn hst pins s σ H _ u Q I r ⟨a,xs,e,bL.of f,by rw[q.length];exact hw.1,_,τ,M,R,q,as,am,hw.2,kk⟩
 case rl ws=>exact av.rlE fun a xs e f q=>E6 hc h hn hst pins s σ H _ u Q I r ⟨a,xs,e,bD.of f,by rw[q.length];exact hw.1,_,τ,M,R,q,as,am,hw.2,kk⟩
 case ref a=>exact hw.elim fun ws hw=>am.lstE hw.1 fun xs f q=>E6 hc h hn hst pins s σ H _ u Q I r ⟨a,xs,av.inv,bD.of f,by rw[q.length];exact hw.2.1,_,τ,M,R,q,as,am,hw.2.2,kk⟩
def fQ(te:aY)(g:e6):aJ:=fun D τ M=>te τ M fun x M1=>g x τ M1 D.nx
theorem VN{K:Ac}{te:aY}{g:e6}{D:k7}{σ:SV}{H:Hp}(h:qL K (fQ te g) D σ H):sF (up K te) (hU K g) D σ H:=by
 obtain⟨τ,M,D',as,am,h,k⟩:=h
 exact⟨τ,M,_,as,am,h,fun x H1 wx M1 k1 am1 ax h1=>⟨wx,τ,M1,D'.nx,ax,as.kp am k1,am1,h1,k.nx.kp k1⟩⟩
theorem jT{tg e:Expr}{te:aY}{g:e6}(he:E3 X e te)(hg:PG X tg (hU X.K g))(hs:swapsWithSole [tg] e pos.line X.env=pure false:=by rfl)(hw:swappedStores [tg] e X.env=pure none:=by rfl)
  (h1:(Gi [tg] X.env).map (·.2)=[Lg tg X.env]:=by rfl):P3 X (.Assign [tg] e pos) (fQ te g):=(N8 he hg hs hw h1).weak fun _ _ _ h=>VN h
def a0(i:Nat)(te:aY):aJ:=fun D τ M=>te τ M fun x M1=>D.nx (τ.set i (some x)) M1
theorem VO{i:Nat}{x:Str}{e:Expr}{te:aY}{pos':Pos}(hN:X.N.Nodup)(hi:X.N[i]? = some x)(hx:Loc X.env.scope x)(he:E3 X e te)(hs:Jf e (some (.Name x pos')) pos.line X.env=pure false:=by rfl)(hf:X.fn x=true\/X.env.scope.names.lookup x=some .local:=by first | exact .inl rfl | exact .inr rfl | assumption) :
  P3 X (.Assign [.Name x pos'] e pos) (a0 i te):=(N9 hN hi hx he hs hf).weak fun D σ H z0=>z0.el fun τ M D' as am h k=>⟨τ,M,_,as,am,h,fun y H1 wy M1 k1 am1 ay h1=>k.nx _ _ _ _ k1 am1 ((as.kp am k1).set ay i) h1⟩
def nM(o i v:W)(M:Mm)(Q:Mm->Prop):Prop:=match o with
 | .ref a=>(∃ ws k j,i=.int k/\M a=some (.lst ws)/\gY ws.length k=some j/\Q (put M a (.lst (ws.set j v))))\/
   (∃ kvs k,i=wK k/\M a=some (.dK kvs)/\kvs.length < Am/\Q (put M a (.dK (bZ kvs k v))))\/
   ∃ kvs k,i=.tup (k.map wK)/\M a=some (.dT kvs)/\kvs.length < Am/\Q (put M a (.dT (bZ kvs k v)))
 | _=>False
def VP(K:Ac):sD:=fun o i v H Q=>∃ wo wi wv M R,AV K H M o wo/\AV K H M i wi/\AV K H M v wv/\AM K H M/\nM wo wi wv M R/\∀ H' M',Kp H M H' M'->AM K H' M'->R M'->Q H'
theorem set_dict(hu:X.A.units + 1 < Fm):sE X (fun o i v H Q=>∃ a H',o=.ref a/\lZ H a i v H'/\Q H'):=by
 intro pins s σ H o i v ov iv u Q I ro ri rv h
 obtain⟨a,H',rfl,d,q⟩:=h
 cases ro
 exact R1 hu I d ri rv fun s4 I4=>⟨H',I4,q⟩
theorem GJ{κ:Type}[DecidableEq κ]{K:Ac}{H:Hp}{M:Mm}{ks:List (κ×V)}{kvs:List (κ×W)}{n:κ}{v:V}{wv:W}{a:Addr}{o:MO}{u:HO}(am:AM K H M)(e:M a=some o)(q:bQ K H M κ ks kvs)(av:AV K H M v wv){o':MO}:bQ K (aS H a u) (put M a o') κ (eA ks n v) (bZ kvs n wv):=Paired.mapP (tN q n av) fun p q z=>⟨z.1,z.2.wr am e⟩
theorem VQ(hu:X.A.units + 1 < Fm):sE X (VP X.K):=by
 rintro pins s σ H o i v ov iv u Q I ro ri rv ⟨wo,wi,wv,M,R,ao,ai,av,am,h,k⟩
 cases wo <;> first | exact(show False from h).elim | skip
 rename_i a
 rcases h with⟨ws,n,j,ei,e,hj,r⟩ | ⟨kvs,n,ei,e,hl,r⟩ | ⟨kvs,n,ei,e,hl,r⟩
 ·rw[ei] at ai
  obtain⟨vs,f,q⟩:=am.lst e
  obtain⟨am2,k2⟩:=am.write (o:=.lst (ws.set j wv)) (u:=.lst (vs.set j v)) e ⟨_,cJ,(aM.set av j q).wr am e⟩
  exact Q9 pins s σ H _ _ v ov iv u Q I ro ri rv ⟨a,vs,n,j,ao.inv,ai.inv,f,by rw[q.length];exact hj,k _ _ k2 am2 r⟩
 ·rw[ei] at ai
  obtain⟨ks,f,q⟩:=am _ _ e
  obtain⟨am2,k2⟩:=am.write (o:=.dK (bZ kvs n wv)) (u:=.dK (eA ks n v)) e ⟨_,cJ,GJ am e q av⟩
  exact set_dict hu pins s σ H _ _ v ov iv u Q I ro ri rv ⟨a,_,ao.inv,by rw[ai.key];exact lZ.k f (by rw[Ei q];exact hl),k _ _ k2 am2 r⟩
 ·rw[ei] at ai
  obtain⟨ks,f,q⟩:=am _ _ e
  obtain⟨am2,k2⟩:=am.write (o:=.dT (bZ kvs n wv)) (u:=.dT (eA ks n v)) e ⟨_,cJ,GJ am e q av⟩
  exact ai.tupE fun b xs eb fb qb=>set_dict hu pins s σ H _ _ v ov iv u Q I ro ri rv ⟨a,_,ao.inv,by rw[eb];exact lZ.t f (by rw[<-qb.keys];exact fb) (by rw[Ei q];exact hl),k _ _ k2 am2 r⟩
def gD(to ti:aY):e6:=fun w τ M R=>to τ M fun o M1=>ti τ M1 fun i M2=>nM o i w M2 fun M3=>R τ M3
theorem w_sub{o i:Expr}{to ti:aY}(hu:X.A.units + 1 < Fm)(ho:E3 X o to)(hi:E3 X i ti)
  (ha:∀ v,Lg (.Subscript o i pos) X.env v=(do
   let ov <-Hz [v] (eval o X.env)
   let iv <-Hz [v,ov] (eval i X.env)
   Nb pos
   Hz [v,ov,iv] (setItem ov iv v)
   release [v,ov,iv] []):=by intro _;rfl):PG X (.Subscript o i pos) (hU X.K (gD to ti)):=
 (N7 ho hi (VQ hu) ha).weak fun v σ H Q z0=>z0.el fun w τ M R av as am h k=>⟨τ,M,_,as,am,h,fun o H1 wo M1 k1 am1 ao h1=>⟨τ,M1,_,as.kp am k1,am1,h1,fun i H2 wi M2 k2 am2 ai h2=>
  ⟨wo,wi,w,M2,_,ao.kp am1 k2,ai,(av.kp am k1).kp am1 k2,am2,h2,fun H' M' k' am' r=>k _ _ _ _ ((k1.trans k2).trans k') am' (((as.kp am k1).kp am1 k2).kp am2 k') r⟩⟩⟩
def cU:aJ:=fun D τ M=>D.nx τ M
def aL(t u:aJ):aJ:=fun D τ M=>t {D with nx:=u D} τ M
variable {st:Stmt}{rest:List Stmt}{t u:aJ}{e:Expr}{te:aY}
theorem dY:kM X [] cU:=NL.weak fun D σ H z0=>z0.el fun τ M D' as am h k=>k.nx.at am as h
theorem aR(h1:P3 X st t)(h2:kM X rest u):kM X (st :: rest) (aL t u):=(NM h1 h2).weak fun D σ H z0=>z0.el fun τ M D' as am h k=>
 ⟨τ,M,_,as,am,h,⟨fun σ' H' τ' M' k' am' as' h'=>⟨τ',M',D',as',am',h',k.kp k'⟩,k.rt,k.bk,k.ct⟩⟩
theorem aW(h1:P3 X st t):kM X [st] t:=NN h1
def GK:aJ:=fun D τ M=>D.bk τ M
theorem VR:P3 X (.Break pos) GK:=NP.weak fun D σ H z0=>z0.el fun τ M D' as am h k=>k.bk.at am as h
def eF(te:aY):aJ:=fun D τ M=>te τ M fun _ M1=>D.nx τ M1
theorem eU(he:E3 X e te)(hs:Jf e none pos.line X.env=pure false:=by rfl):P3 X (.Expr e pos) (eF te):=(NR he hs).weak fun D σ H z0=>z0.el fun τ M D' as am h k=>
 ⟨τ,M,_,as,am,h,fun v H' w M' k' am' av r=>k.nx _ _ _ _ k' am' (as.kp am k') r⟩
def b5(te:aY):aJ:=fun D τ M=>te τ M D.rt
theorem b6(he:E3 X e te):P3 X (.Return (some e) pos) (b5 te):=(NT he).weak fun D σ H z0=>z0.el fun τ M D' as am h k=>⟨τ,M,_,as,am,h,k.rt⟩
def xF:aJ:=fun D _ M=>D.rt .non M
theorem GL:P3 X (.Return none pos) xF:=NV.weak fun D σ H z0=>z0.el fun τ M D' as am h k=>k.rt.at am .non h
def cB(c:dR)(t u:aJ):aJ:=fun D τ M=>c τ M fun b M1=>if b=true then t D τ M1 else u D τ M1
theorem cY{c:Expr}{a b:List Stmt}{tc:dR}(hc:T3 X c tc)(ha:kM X a t)(hb:kM X b u):P3 X (.If c a b pos) (cB tc t u):=(NX hc ha hb).weak fun D σ H z0=>z0.el fun τ M D' as am h k=>
 ⟨τ,M,_,as,am,h,fun b H1 M1 k1 am1 h1=>by
  cases b with
  | true=>exact⟨τ,M1,D',as.kp am k1,am1,h1,k.kp k1⟩
  | false=>exact⟨τ,M1,D',as.kp am k1,am1,h1,k.kp k1⟩⟩
def qU(c:dR)(tb:aJ):aJ:=fun D τ M=>∃ Pv:Nat->S3->Mm->Prop,(∃ m,Pv m τ M)/\∀ m τ M,Pv m τ M->
 c τ M fun b M1=>if b=true then tb {D with nx:=fun τ' M'=>∃ m' M'',m' < m/\Sub M'' M'/\Pv m' τ' M'',ct:=fun τ' M'=>∃ m' M'',m' < m/\Sub M'' M'/\Pv m' τ' M'',bk:=D.nx} τ M1 else D.nx τ M1
theorem tR{c:Expr}{body:List Stmt}{tc:dR}{tb:aJ}(hp:PassesOwn (Bn X.prog X.w) X.A X.env X.xe)(hc:T3 X c tc)(hb:kM X body tb):P3 X (.While c body [] pos) (qU tc tb):=
 (OB hp hc hb).weak fun D σ H ⟨τ,M,D',as,am,⟨Pv,⟨m,h0⟩,h⟩,k⟩=>by
  refine⟨fun m σ' H'=>∃ τ' M',Kp H M H' M'/\AM X.K H' M'/\AS X.K H' M' σ' τ'/\Pv m τ' M',⟨m,τ,M,Kp.refl am,am,as,h0⟩,?_⟩
  rintro m σ1 H1 ⟨τ1,M1,k1,am1,as1,p1⟩
  refine⟨τ1,M1,_,as1,am1,h m τ1 M1 p1,fun b H2 M2 k2 am2 h2=>?_⟩
  cases b with
  | false=>exact k.nx _ _ _ _ (k1.trans k2) am2 (as1.kp am1 k2) h2
  | true=>
   have h2:tb {D' with nx:=fun τ' M'=>∃ m' M'',m' < m/\Sub M'' M'/\Pv m' τ' M'',ct:=fun τ' M'=>∃ m' M'',m' < m/\Sub M'' M'/\Pv m' τ' M'',bk:=D'.nx} τ1 M2:=h2
   refine⟨fun σ' H'=>∃ m' τ' M',m' < m/\Kp H M H' M'/\AM X.K H' M'/\AS X.K H' M' σ' τ'/\Pv m' τ' M',fun σ' H' ⟨m',τ',M',q1,q2,q3,q4,q5⟩=>⟨m',q1,τ',M',q2,q3,q4,q5⟩,τ1,M2,_,as1.kp am1 k2,am2,h2,?_⟩
   have again:iJ X.K H2 M2 (fun τ' M'=>∃ m' M'',m' < m/\Sub M'' M'/\Pv m' τ' M'') (fun σ' H'=>∃ m' τ' M',m' < m/\Kp H M H' M'/\AM X.K H' M'/\AS X.K H' M' σ' τ'/\Pv m' τ' M'):=
    fun σ' H' τ' M' k' am' as' ⟨m',M'',q1,q2,q3⟩=>⟨m',τ',M'',q1,((k1.trans k2).trans k').sub q2,am'.sub q2,as'.sub q2,q3⟩
   exact⟨again,(k.rt.kp k1).kp k2,(k.nx.kp k1).kp k2,again⟩
abbrev hX:=S3->Mm->(List W->(Mm->Prop)->Mm->Prop)->Prop
structure iM(K:Ac)(H0:Hp)(M0:Mm)(J:It)(ws:List W)(keep:Mm->Prop):Prop where
 go:∀ i H M,Kp H0 M0 H M->AM K H M->keep M->i < ws.length->J.go i H
 stop:∀ H M,Kp H0 M0 H M->AM K H M->keep M->J.stop ws.length H
 yld:∀ i H M x H',Kp H0 M0 H M->AM K H M->keep M->i < ws.length->J.yld i H x H'->∃ w,ws[i]? = some w/\Kp H M H' M/\AM K H' M/\AV K H' M x w
def gR(K:Ac)(wi:hX):TI:=fun σ H R'=>∃ (τ:S3) (M:Mm) (R:List W->(Mm->Prop)->Mm->Prop),AS K H M σ τ/\AM K H M/\wi τ M R/\∀ J H' ws keep M',Kp H M H' M'->AM K H' M'->iM K H' M' J ws keep->R ws keep M'->R' J H'
theorem gR.el{K:Ac}{H:Hp}{σ:SV}{C:Prop}{t:hX}{Q:It->Hp->Prop}(h:gR K t σ H Q)(c:∀ τ M R,AS K H M σ τ->AM K H M->t τ M R->(∀ J H' ws keep M',Kp H M H' M'->AM K H' M'->iM K H' M' J ws keep->R ws keep M'->Q J H')->C):C:=by obtain⟨τ,M,R,a,b,h,k⟩:=h;exact c τ M R a b h k
theorem _root_.L2.PI.weak{tg iter:Expr}{t t':TI}(h:PI X tg iter t)(k:∀ σ H R,t' σ H R->t σ H R):PI X tg iter t':=fun pins s σ H R I q=>h pins s σ H R I (k σ H R q)
def GN(ws:List W)(keep:Mm->Prop)(g:e6)(tb:aJ)(D:D3)(τ:S3)(M:Mm):Prop:=
 ∃ Pv:Nat->S3->Mm->Prop,Pv 0 τ M/\(∀ i τ M,i<=ws.length->Pv i τ M->keep M)/\
  (∀ i w τ M,ws[i]? = some w->Pv i τ M->g w τ M fun τ2 M2=>tb {D with nx:=fun τ' M'=>∃ M'',Sub M'' M'/\Pv (i + 1) τ' M'',ct:=fun τ' M'=>∃ M'',Sub M'' M'/\Pv (i + 1) τ' M'',bk:=D.nx} τ2 M2)/\
  ∀ τ M,Pv ws.length τ M->D.nx τ M
def eI(wi:hX)(g:e6)(tb:aJ):aJ:=fun D τ M=>wi τ M fun ws keep M1=>GN ws keep g tb D τ M1
theorem e7{tg iter:Expr}{body:List Stmt}{wi:hX}{g:e6}{tb:aJ}{pos:Pos}(hp:PassesOwn (Bn X.prog X.w) X.A X.env X.xe)(hc:X.calm=true)(hi:PI X tg iter (gR X.K wi))(hg:PG X tg (hU X.K g))(hb:kM X body tb)
  (hs:∀ x,Gq iter X.env x=pure x:=by intro _;rfl):P3 X (.For tg iter body [] pos) (eI wi g tb):=
 (OK hp hc hi hg hb hs).weak fun D σ H z0=>z0.el fun τ M D' as am h k=>by
  refine⟨τ,M,_,as,am,h,fun J H1 ws keep M1 k1 am1 it ⟨Pv,h0,hk,hs,hd⟩=>?_⟩
  refine⟨fun i m σ' H'=>m=ws.length - i/\i<=ws.length/\∃ τ' M',Kp H1 M1 H' M'/\AM X.K H' M'/\AS X.K H' M' σ' τ'/\Pv i τ' M',⟨_,rfl,Bv _,τ,M1,Kp.refl am1,am1,as.kp am k1,h0⟩,?_⟩
  rintro i m σ2 H2 ⟨rfl,hi,τ2,M2,k2,am2,as2,p2⟩
  by_cases hlt:i < ws.length
  ·refine .inr ⟨it.go i H2 M2 k2 am2 (hk i τ2 M2 hi p2) hlt,fun σ' H'=>∃ τ' M',Kp H1 M1 H' M'/\AM X.K H' M'/\AS X.K H' M' σ' τ'/\Pv (i + 1) τ' M',fun σ' H' q=>⟨ws.length - (i + 1),by omega,rfl,hlt,q⟩,fun x H3 y=>?_⟩
   obtain⟨w,hw,k3,am3,ax⟩:=it.yld i H2 M2 x H3 k2 am2 (hk i τ2 M2 hi p2) hlt y
   refine⟨w,τ2,M2,_,ax,as2.kp am2 k3,am3,hs i w τ2 M2 hw p2,fun σ4 H4 τ4 M4 k4 am4 as4 h4=>⟨τ4,M4,_,as4,am4,h4,?_⟩⟩
   have kk:=((k2.trans k3).trans k4)
   have again:iJ X.K H4 M4 (fun τ' M'=>∃ M'',Sub M'' M'/\Pv (i + 1) τ' M'') (fun σ' H'=>∃ τ' M',Kp H1 M1 H' M'/\AM X.K H' M'/\AS X.K H' M' σ' τ'/\Pv (i + 1) τ' M'):=
    fun σ' H' τ' M' k' am' as' ⟨M'',q2,q3⟩=>⟨τ',M'',(kk.trans k').sub q2,am'.sub q2,as'.sub q2,q3⟩
   exact⟨again,k.rt.kp (k1.trans kk),k.nx.kp (k1.trans kk),again⟩
  ·have e:i=ws.length:=by omega
   subst e
   exact .inl ⟨it.stop H2 M2 k2 am2 (hk _ τ2 M2 hi p2),k.nx _ _ _ _ (k1.trans k2) am2 as2 (hd τ2 M2 p2)⟩
theorem eO{ws:List W}{keep:Mm->Prop}{g:e6}{tb:aJ}{D:D3}{τ:S3}{M:Mm}(Pv:Nat->S3->Mm->Prop)(h0:Pv 0 τ M)(hk:∀ i τ M,i<=ws.length->Pv i τ M->keep M)
  (hs:∀ i w τ M,ws[i]? = some w->Pv i τ M->g w τ M fun τ2 M2=>tb {D with nx:=fun τ' M'=>∃ M'',Sub M'' M'/\Pv (i + 1) τ' M'',ct:=fun τ' M'=>∃ M'',Sub M'' M'/\Pv (i + 1) τ' M'',bk:=D.nx} τ2 M2)
  (hd:∀ τ M,Pv ws.length τ M->D.nx τ M):GN ws keep g tb D τ M:=⟨Pv,h0,hk,hs,hd⟩
variable {tg l a b:Expr}{tl ta tb':aY}
theorem VS{K:Ac}{H0:Hp}{M0:Mm}{p:Addr}{ws:List W}:iM K H0 M0 (oI K p) ws fun M=>M p=some (.lst ws) where
 go:=fun i H M _ am e hi=>by
  obtain⟨vs,f,q⟩:=am.lst e
  exact⟨vs,vs[i]'(by rw[q.length];exact hi),bD.of f,by simp⟩
 stop:=fun H M _ am e=>by
  obtain⟨vs,f,q⟩:=am.lst e
  exact⟨vs,bD.of f,by rw[q.length];exact Ai _⟩
 yld:=fun i H M x H' _ am e hi y=>by
  obtain⟨rfl,y⟩:=y
  obtain⟨vs,f,q⟩:=am.lst e
  obtain⟨w,hw,av⟩:=q.getV (y vs (bD.of f))
  exact⟨w,hw,Kp.refl am,am,av⟩
theorem GO{K:Ac}{H0:Hp}{M0:Mm}{p:Addr}{vs:List V}{ws:List W}(am0:AM K H0 M0)(st:∀ H M,Kp H0 M0 H M->bD K H p vs)(q0:aM K H0 M0 vs ws):iM K H0 M0 (oI K p) ws fun _=>True:=by
 refine⟨fun i H M k am _ hi=>⟨vs,vs[i]'(by rw[q0.length];exact hi),st H M k,by simp⟩,fun H M k am _=>⟨vs,st H M k,by rw[q0.length];exact Ai _⟩,fun i H M x H' k am _ hi y=>?_⟩
 obtain⟨rfl,y⟩:=y
 obtain⟨w,hw,av⟩:=(q0.kp am0 k).getV (y vs (st _ M k))
 exact⟨w,hw,Kp.refl am,am,av⟩
theorem VT{K:Ac}{H0:Hp}{M0:Mm}{p:Addr}{vs:List V}{ws:List W}(am0:AM K H0 M0)(e:lC K H0 p vs)(q0:aM K H0 M0 vs ws):iM K H0 M0 (oI K p) ws fun _=>True:=
 GO am0 (fun H M k=>by
  refine lC.sq ?_
  rcases e with⟨o,e⟩ | e
  ·exact .inl ⟨o,(k.fr _ _ (am0.noFrz e) e).1⟩
  ·exact .inr e) q0
theorem VU{K:Ac}{H0:Hp}{M0:Mm}{p:Addr}{vs:List V}{ws:List W}(am0:AM K H0 M0)(e:H0 p=some (.lst vs))(n:M0 p=none)(q0:aM K H0 M0 vs ws):iM K H0 M0 (oI K p) ws fun _=>True:=
 GO am0 (fun H M k=>bD.of (k.fr _ _ n e).1) q0
theorem VW{K:Ac}{H0:Hp}{M0:Mm}{p:Addr}{vs:List V}{ws:List W}(am0:AM K H0 M0)(e:H0 p=some (.tup vs))(q0:aM K H0 M0 vs ws):iM K H0 M0 (vS K p) ws fun _=>True:=by
 have st:∀ H M,Kp H0 M0 H M->bL K H p vs:=fun H M k=>bL.of (k.fr _ _ (am0.noTup e) e).1
 refine⟨fun i H M k am _ hi=>⟨vs,vs[i]'(by rw[q0.length];exact hi),st H M k,by simp⟩,fun H M k am _=>⟨vs,st H M k,by rw[q0.length];exact Ai _⟩,fun i H M x H' k am _ hi y=>?_⟩
 obtain⟨rfl,y⟩:=y
 obtain⟨w,hw,av⟩:=(q0.kp am0 k).getV (y vs (st _ M k))
 exact⟨w,hw,Kp.refl am,am,av⟩
theorem VX{K:Ac}{H0:Hp}{M0:Mm}{lo:Int}{n:Nat}:iM K H0 M0 (sG lo n) ((Cw n).map fun i=>W.int (lo + (i:Nat))) fun _=>True where
 go:=fun i H M _ am _ hi=>by show i < n;simpa using hi
 stop:=fun H M _ am _=>by show n<=_;simp
 yld:=fun i H M x H' _ am _ hi y=>by
  obtain⟨rfl,rfl⟩:=y
  have hi:i < n:=by simpa using hi
  exact⟨.int (lo + i),by simp[hi],Kp.refl am,am,.int _⟩
theorem VY{K:Ac}{H0:Hp}{M0:Mm}{z:Str}:iM K H0 M0 (wI z) (z.cps.toList.map fun c=>W.str ⟨#[c]⟩) fun _=>True where
 go:=fun i H M _ am _ hi=>by show i < z.cps.size;simpa using hi
 stop:=fun H M _ am _=>by show z.cps.size<=_;simp
 yld:=fun i H M x H' _ am _ hi y=>by
  obtain⟨rfl,c,hc,rfl⟩:=y
  exact⟨.str ⟨#[c]⟩,by rw[Av,hc];rfl,Kp.refl am,am,.str _⟩
def mK(X:Cx)(tg:Expr)(r:V->Hp->(It->Hp->Prop)->Prop):Prop:=
 ∀ (pins:List (Addr×Obj)) (s:Ag) (σ:SV) (H:Hp) (x:V) (u:Ae) (R:It->Hp->Prop),Inv X pins σ H s->RelV x u->r x H R->Bc (Bn X.prog X.w) X.A (pyIter u) (p8 X pins σ tg R) X.xe s
theorem xG:mK X tg (fun x H R=>∃ a,x=.ref a/\(∃ xs,bD X.K H a xs)/\R (oI X.K a) H):=by
 rintro pins s1 σ H1 x u R I1 r1 ⟨a,rfl,⟨xs,hq⟩,q⟩
 cases r1
 obtain⟨its,rv,p,hz⟩:=I1.list hq
 refine La p.isList ?_
 refine⟨s1.heap.objs.size,[s1.heap.objs.size],_,_,H1,rfl,I1.kept (t':=s1.toks) fun b o e=>Af _ e,OC a _,⟨_,Az _ rfl,rfl,rfl⟩,fun b hb=>?_,q⟩
 have e:b=s1.heap.objs.size:=by simpa using hb
 subst e
 exact I1.fpOk (Ai _) (I1.hok.fresh (Ai _))
theorem VZ:mK X tg (fun x H R=>∃ a,x=.ref a/\(∃ xs,bL X.K H a xs)/\R (vS X.K a) H):=by
 rintro pins s1 σ H1 x u R I1 r1 ⟨a,rfl,⟨xs,hq⟩,q⟩
 cases r1
 obtain⟨its,rv,p,hz⟩:=I1.tuple hq
 refine Hi (show s1.heap.IsTuple a its.toArray from p) ?_
 refine⟨s1.heap.objs.size,[s1.heap.objs.size],_,_,H1,rfl,I1.kept (t':=s1.toks) fun b o e=>Af _ e,OD a _,⟨_,Az _ rfl,rfl,rfl⟩,fun b hb=>?_,q⟩
 have e:b=s1.heap.objs.size:=by simpa using hb
 subst e
 exact I1.fpOk (Ai _) (I1.hok.fresh (Ai _))
theorem V0{x:Str}{px:Pos}:mK X (.Name x px) (fun x H R=>∃ z,x=.str z/\R (wI z) H):=by
 rintro pins s1 σ H1 x u R I1 r1 ⟨z,rfl,q⟩
 obtain⟨t,rfl⟩:=r1
 have fp:∀ b∈[s1.heap.objs.size],gX X pins H1 b:=fun b hb=>by
  have e:b=s1.heap.objs.size:=by simpa using hb
  subst e
  exact I1.fpOk (Ai _) (I1.hok.fresh (Ai _))
 cases ha:z.cps.all (· < 128)
 ·refine wpAny_pyIter_wide ha ?_
  exact⟨s1.heap.objs.size,[s1.heap.objs.size],_,_,H1,rfl,I1.kept (t':=s1.toks) fun b o e=>Af _ e,
   E4 z _ "str_iterator" t (fun A s i c Q E a b d=>wpAny_pyNext_wide_item a b d) (fun A s i Q E a b c d=>wpAny_pyNext_wide_end a b c d) (fun A i s Q E a b=>wpAny_pyIter_striter_wide a b),⟨_,Az _ rfl,rfl,rfl⟩,fp,q⟩
 ·refine wpAny_pyIter_ascii ha ?_
  exact⟨s1.heap.objs.size,[s1.heap.objs.size],_,_,H1,rfl,I1.kept (t':=s1.toks) fun b o e=>Af _ e,
   E4 z _ "str_ascii_iterator" t (fun A s i c Q E a b d=>wpAny_pyNext_ascii_item a b d) (fun A s i Q E a b c d=>wpAny_pyNext_ascii_end a b c d) (fun A i s Q E a b=>wpAny_pyIter_striter_ascii a b),⟨_,Az _ rfl,rfl,rfl⟩,fp,q⟩
theorem _root_.L2.PI.of{r:V->Hp->(It->Hp->Prop)->Prop}{tl:TE}(hl:PE X l tl)(hr:mK X tg r):PI X tg l (fun σ H R=>tl σ H fun x H1=>r x H1 R):=fun pins s σ H R I h=>
 a7 (hl pins s σ H _ I h) fun u s1 ⟨x,H1,I1,r1,q1⟩=>hr pins s1 σ H1 x u R I1 r1 q1
def tS(K:Ac)(r:W->Mm->(List W->(Mm->Prop)->Mm->Prop)->Prop):V->Hp->(It->Hp->Prop)->Prop:=fun x H R'=>∃ (wx:W) (M:Mm) (R:List W->(Mm->Prop)->Mm->Prop),AV K H M x wx/\AM K H M/\r wx M R/\
 ∀ J H' ws keep M',Kp H M H' M'->AM K H' M'->iM K H' M' J ws keep->R ws keep M'->R' J H'
def jU:W->Mm->(List W->(Mm->Prop)->Mm->Prop)->Prop
 | .tup ws,M1,R=>R ws (fun _=>True) M1
 | .rl ws,M1,R=>R ws (fun _=>True) M1
 | .sc ws,M1,R=>R ws (fun _=>True) M1
 | .ref a,M1,R=>∃ ws,M1 a=some (.lst ws)/\R ws (fun M=>M a=some (.lst ws)) M1
 | _,_,_=>False
def gS:W->Mm->(List W->(Mm->Prop)->Mm->Prop)->Prop
 | .tup ws,M1,R=>R ws (fun _=>True) M1
 | .rl ws,M1,R=>R ws (fun _=>True) M1
 | .sc ws,M1,R=>R ws (fun _=>True) M1
 | .str z,M1,R=>R (z.cps.toList.map fun c=>W.str ⟨#[c]⟩) (fun _=>True) M1
 | .ref a,M1,R=>∃ ws,M1 a=some (.lst ws)/\R ws (fun M=>M a=some (.lst ws)) M1
 | _,_,_=>False
theorem GP:mK X tg (tS X.K jU):=by
 rintro pins s σ H x u R' I r1 ⟨wx,M,R,ax,am,h,k⟩
 have k:=fun J ws keep=>k J H ws keep M (Kp.refl am) am
 cases wx <;> first | exact(show False from h).elim | skip
 case tup ws=>exact ax.tupE fun a xs e f q=>VZ pins s σ H _ u R' I r1 ⟨a,e,⟨xs,bL.of f⟩,k _ _ _ (VW am f q) h⟩
 case rl ws=>obtain⟨a,xs,e,f,n,q⟩:=ax.inv;exact xG pins s σ H _ u R' I r1 ⟨a,e,⟨xs,bD.of f⟩,k _ _ _ (VU am f n q) h⟩
 case sc ws=>exact ax.scE fun a xs e f q=>xG pins s σ H _ u R' I r1 ⟨a,e,⟨xs,f.sq⟩,k _ _ _ (VT am f q) h⟩
 case ref a=>exact h.elim fun ws h=>am.lstE h.1 fun vs f q=>xG pins s σ H _ u R' I r1 ⟨a,ax.inv,⟨vs,bD.of f⟩,k _ _ _ VS h.2⟩
theorem V1{y:Str}{py:Pos}:mK X (.Name y py) (tS X.K gS):=by
 rintro pins s σ H x u R' I r1 ⟨wx,M,R,ax,am,h,k⟩
 cases wx <;> first | exact(show False from h).elim | skip
 case str z=>exact V0 pins s σ H _ u R' I r1 ⟨z,ax.inv,k _ _ _ _ _ (Kp.refl am) am VY h⟩
 all_goals exact GP pins s σ H x u R' I r1 ⟨_,M,R,ax,am,h,k⟩
def dJ(r:W->Mm->(List W->(Mm->Prop)->Mm->Prop)->Prop)(tl:aY):hX:=fun τ M R=>tl τ M fun w M1=>r w M1 R
theorem xH{r:W->Mm->(List W->(Mm->Prop)->Mm->Prop)->Prop}(hl:E3 X l tl)(hr:mK X tg (tS X.K r)):PI X tg l (gR X.K (dJ r tl)):=(PI.of hl hr).weak fun σ H R' z0=>z0.el fun τ M R as am h k=>
 ⟨τ,M,_,as,am,h,fun x H1 wx M1 k1 am1 ax h1=>⟨wx,M1,R,ax,am1,h1,fun J H' ws keep M' k' am' it r=>k J H' ws keep M' (k1.trans k') am' it r⟩⟩
theorem nN(hl:E3 X l tl):PI X tg l (gR X.K (dJ jU tl)):=xH hl GP
theorem kN{y:Str}{py:Pos}(hl:E3 X l tl):PI X (.Name y py) l (gR X.K (dJ gS tl)):=xH hl V1
def jV(lo:Int)(n:Nat):List W:=(Cw n).map fun i=>W.int (lo + (i:Nat))
def mL(ta:dA):hX:=fun τ M R=>ta τ M fun ws M1=>∃ j:Int,ws=[.int j]/\-(2 ^ 62)<=j/\j < 2 ^ 62/\R (jV 0 j.toNat) (fun _=>True) M1
theorem nO{tA:dA}{p pos:Pos}(hg:Gl X "range")(hm:X.mg "range" = none)(ha:A3 X [a] tA)(hs:Bi [a] X.env=[(false,eval a X.env)]:=by rfl):PI X tg (.Call (.Name "range" p) [a] [] pos) (gR X.K (mL tA)):=
 (OH hg hm ha hs).weak fun σ H R' z0=>z0.el fun τ M R as am h k=>⟨τ,M,_,as,am,h,fun vs H1 ws M1 k1 am1 ax ⟨j,e,h1,h2,r⟩=>by
  rw[e] at ax
  obtain⟨v,e,av⟩:=ax.one
  exact⟨j,iK e av.inv,h1,h2,k _ _ _ _ _ k1 am1 VX r⟩⟩
def lK(ws:List W)(keep:Mm->Prop)(g:e6)(tt:dR)(te:aY)(τ₀:S3)(M1:Mm)(R:K3):Prop:=
 ∀ p,M1 p=none->∃ Pv:Nat->S3->List W->Mm->Prop,Pv 0 τ₀ [] M1/\(∀ vs i τ acc M,i<=ws.length->M p=none->Pv i τ acc M->keep (put M p (.fix vs)))/\
  (∀ vs i w τ acc M,ws[i]? = some w->M p=none->Pv i τ acc M->g w τ (put M p (.fix vs)) fun τ2 M2=>tt τ2 M2 fun b M3=>
   if b=true then te τ2 M3 fun y M4=>M4 p=some (.fix vs)/\acc.length < Am/\∃ M5,Sub M5 (del M4 p)/\Pv (i + 1) τ2 (acc ++ [y]) M5
   else M3 p=some (.fix vs)/\∃ M5,Sub M5 (del M3 p)/\Pv (i + 1) τ2 acc M5)/\
  ∀ τ acc M,M p=none->Pv ws.length τ acc M->R (.ref p) (put M p (.lst acc))
def tT(js:List (Option Nat))(τ:S3):S3:=js.map fun o=>o.bind fun j=>(τ[j]?).join
theorem AS.cmap{K:Ac}{H:Hp}{M:Mm}{σ:SV}{τ:S3}(h:AS K H M σ τ):∀ js:List (Option Nat),AS K H M (cmap js σ) (tT js τ)
 | []=>.nil
 | none :: r=>.cons (fun _ e=>nomatch e) (AS.cmap h r)
 | some j :: r=>.cons (fun w e=>by
   have e:(τ[j]?).join=some w:=e
   cases q:τ[j]? with
   | none=>rw[q] at e;cases e
   | some z=>
    rw[q] at e
    have e:z=some w:=e
    subst e
    obtain⟨v,h1,h2⟩:=h.get q
    exact⟨v,by show(σ[j]?).join=some v;rw[h1];rfl,h2⟩) (AS.cmap h r)
def gE(wi:hX)(g:e6)(tt:dR)(te:aY)(js:List (Option Nat)):aY:=fun τ M R=>wi τ M fun ws keep M1=>lK ws keep g tt te (tT js τ) M1 R
theorem GR{wi:hX}{g:e6}{tt:dR}{te:aY}{js:List (Option Nat)}{σ:SV}{H:Hp}{Q:VK}(h:up X.K (gE wi g tt te js) σ H Q):wH (gR X.K wi) (fun _=>hU X.K g) (fun _=>kH X.K tt) (fun _=>up X.K te) js σ H Q:=by
 obtain⟨τ,M,R,as,am,h,k⟩:=h
 refine⟨τ,M,_,as,am,h,fun J H1 ws keep M1 k1 am1 it hall p hp B=>?_⟩
 obtain⟨Pv,h0,hk,hs,hd⟩:=hall p (am1.nonM hp)
 obtain⟨amp,kp⟩:=am1.laid (o:=.fix []) (u:=.lst []) hp cJ
 have hMp:=am1.nonM hp
 refine S6 ws.length (fun i σ' acc' H'=>∃ τ' acc M',M' p=none/\Kp H1 M1 H' (put M' p (.fix acc'))/\AM X.K H' (put M' p (.fix acc'))/\AS X.K H' (put M' p (.fix acc')) σ' τ'/\aM X.K H' (put M' p (.fix acc')) acc' acc/\Pv i τ' acc M') ?_ ?_ ?_
 ·exact⟨tT js τ,[],M1,hMp,kp,amp,((as.kp am k1).kp am1 kp).cmap js,.nil,h0⟩
 ·rintro σ' acc' H' ⟨τ',acc,M',mp,k',am',as',av,pv⟩
  refine⟨it.stop H' _ k' am' (hk _ _ _ _ _ (Ai _) mp pv),?_⟩
  have hp':H' p=some (.lst acc'):=am' p _ aT
  refine k _ H' _ (put M' p (.lst acc)) (k1.trans ⟨fun a o n e=>?_,k'.dom⟩) (fun a o e=>?_) (.ref p) (hd τ' acc M' mp pv)
  ·obtain⟨x,y⟩:=k'.fr a o n e
   exact⟨x,by rw[aN (eE e hp)] at y ⊢;exact y⟩
  ·by_cases ha:a=p
   ·subst ha;rw[aT] at e;cases e;exact⟨acc',hp',av.go FN⟩
   ·rw[aN ha] at e;exact(am' a o (by rw[aN ha];exact e)).go FN rfl
 ·rintro i σ' acc' H' hi ⟨τ',acc,M',mp,k',am',as',av,pv⟩
  have hkp:=hk acc' i τ' acc M' (Je hi) mp pv
  refine⟨it.go i H' _ k' am' hkp hi,fun x H3 y=>?_⟩
  obtain⟨w,hw,k3,am3,ax⟩:=it.yld i H' _ x H3 k' am' hkp hi y
  refine⟨w,τ',_,_,ax,as'.kp am' k3,am3,hs acc' i w τ' acc M' hw mp pv,fun σ4 H4 τ4 M4 k4 am4 as4 h4=>⟨τ4,M4,_,as4,am4,h4,fun b H5 M5 k5 am5 h5=>?_⟩⟩
  have kk:Kp H' (put M' p (.fix acc')) H5 M5:=(k3.trans k4).trans k5
  cases b with
  | false=>
   obtain⟨m5,M6,sb,pv6⟩:M5 p=some (.fix acc')/\∃ M6,Sub M6 (del M5 p)/\Pv (i + 1) τ4 acc M6:=h5
   have sb':Sub (put M6 p (.fix acc')) M5:=by
    have:=(sb.trans Sub.del).put (a:=p) (o:=.fix acc')
    rwa [UP m5] at this
   exact SN ⟨τ4,acc,M6,sb.non oR,(k'.trans kk).sub sb',am5.sub sb',(as4.kp am4 k5).sub sb',(av.kp am' kk).sub sb',pv6⟩
  | true=>
   have h5:te τ4 M5 fun y M4=>M4 p=some (.fix acc')/\acc.length < Am/\∃ M5,Sub M5 (del M4 p)/\Pv (i + 1) τ4 (acc ++ [y]) M5:=h5
   refine SO ⟨τ4,M5,_,as4.kp am4 k5,am5,h5,fun y H6 wy M6 k6 am6 ay ⟨m6,hl,M7,sb,pv7⟩=>?_⟩
   have kk6:=kk.trans k6
   have hp6:H6 p=some (.lst acc'):=am6 p _ m6
   obtain⟨am8,k8⟩:=am6.write (o:=.fix (acc' ++ [y])) (u:=.lst (acc' ++ [y])) m6 cJ
   have sb':Sub (put M7 p (.fix (acc' ++ [y]))) (put M6 p (.fix (acc' ++ [y]))):=(sb.trans Sub.del).put
   refine⟨hp6,by rw[av.length];exact hl,τ4,acc ++ [wy],M7,sb.non oR,((k'.trans kk6).trans k8).sub sb',am8.sub sb',(((as4.kp am4 k5).kp am5 k6).kp am6 k8).sub sb',?_,pv7⟩
   exact(((av.kp am' kk6).append (.cons ay .nil)).kp am6 k8).sub sb'
variable {sc:Jb}{N':List Str}{js:List (Option Nat)}{iter elt:Expr}{ifs:List Expr}{wi:hX}{g:e6}{tt:dR}
def hZ:dR:=fun _ M Q=>Q true M
theorem mM:iT X [] (kH X.K hZ):=SX.weak fun σ H Q z0=>z0.el fun τ M R as am h k=>k true H M (Kp.refl am) am h
theorem xI{c:Expr}{t:dR}(h:T3 X c t):iT X [c] (kH X.K t):=SY h
theorem mN(N':List Str)(js:List (Option Nat))(hi:PI X tg iter (gR X.K wi))
  (hg:∀ B,PG (dQ X sc N' B) tg (hU X.K g)) (ht:∀ B,iT (dQ X sc N' B) ifs (kH X.K tt)) (he:∀ B,PE (dQ X sc N' B) elt (up X.K te))
  (S0:nF N' sc X.env.scope=true:=by kernel_rfl) (hj:fE N' X.N sc js N'=true:=by kernel_rfl) (hc:X.calm=true:=by rfl) (hs:∀ x,Gq iter X.env x=pure x:=by intro _;rfl) :
  E3 X (.ListComp elt [⟨tg,iter,ifs,0⟩] sc pos) (gE wi g tt te js):=(S4 N' js hi hg ht he S0 hj hc hs).weak fun _ _ _ h=>GR h
end
def b8(N:List Str)(ws:List W):S3:=ws.map some ++ Bt (N.length - ws.length) none
def bT(R:K3):D3:={nx:=fun _ M'=>∃ M'',Sub M'' M'/\R .non M'',rt:=fun w M'=>∃ M'',Sub M'' M'/\R w M''}
section
variable {P:Bq}{w:Cj}{K:Ac}{mg:Str->Option Ae}{base:Heap}
theorem GS{x qual:Str}{st:Stmt}{f:Addr}{fd:Bl}{N ps:List Str}{k:Nat}{sp:bJ}(F:kF K x qual st f fd)(S:oM N ps (eY st))(len:∀ ws M R,sp ws M R->ws.length=ps.length)
  (hbody:∀ (cdv:Ae) (A:Co) (outer:List Env) (s:Ag) (H:Hp) (E:XK) (ws:List W) (M:Mm) (R:K3),cH k (A.deeper (Lf qual (eY st) s.heap.objs.size f cdv))->sp ws M R->
   ∃ t,kM (lW fN P w K mg base N qual (eY st) f cdv A outer s H E).nox (gW st) t/\t (bT R) (b8 N ws) M):eJ P w K mg base fN (k + 1) f fd ps (f6 K sp):=by
 refine F.ok S (fun vs H Q E ⟨ws,M,R,am,av,h,_⟩=>by rw[av.length];exact len ws M R h) fun cdv A outer s H vs Q E hr ⟨ws,M,R,am,av,h,kk⟩=>?_
 obtain⟨t,ht,h'⟩:=hbody cdv A outer s H E ws M R hr h
 refine⟨_,ht,b8 N ws,M,bT R,?_,am,h',⟨fun σ' H' τ' M' k' am' as' ⟨M'',sb,r⟩=>kk _ H' _ M'' (k'.sub sb) (am'.sub sb) .non r,fun v H' w M' k' am' av' ⟨M'',sb,r⟩=>kk v H' w M'' (k'.sub sb) (am'.sub sb) (av'.sub sb) r,fun _ _ _ _ _ _ _ z=>z.elim,fun _ _ _ _ _ _ _ z=>z.elim⟩⟩
 unfold L2.start b8
 rw[av.length]
 exact AS.start av _
def qV:bJ:=fun ws M R=>∃ ns:List Int,ws=[.sc (ns.map W.int)]/\ns.length<=63/\(M=fun _=>none)/\∀ M',R (.bl true) M'
theorem V2{H:Hp}{a:Addr}{ns:List Int}(hl:ns.length<=63)(ho:sU H)(hs:bD K H a (ns.map V.int)):f6 K qV [.ref a] H (fun v _=>v=.bl true) fun _ _ _=>False:=by
 have hr:lC K H a (ns.map V.int):=by
  rcases hs with(e | ⟨o,e⟩) | e
  ·rcases ho a with z | ⟨o,xs,z⟩
   ·rw[z] at e;cases e
   ·rw[z] at e;cases e
  ·exact .inl ⟨o,e⟩
  ·exact .inr e
 exact⟨[.sc (ns.map W.int)],fun _=>none,fun w _=>w=.bl true,fun a o e=>(nomatch e),.cons (.sc hr (aM.int ns)) .nil,⟨ns,rfl,hl,rfl,fun _=>rfl⟩,fun v H' w M' _ _ av r=>by subst r;exact av.bl_inv⟩
end
section
variable {X:Cx}{a b c:Expr}{ta tb tc:aY}{pos:Pos}
def xJ(r r':R3)(ta tb tc:aY):aY:=fun τ M R=>ta τ M fun x M1=>tb τ M1 fun y M2=>r x y M2 fun z M3=>∃ k,z=.bl k/\if k=true then tc τ M3 fun w M4=>r' y w M4 R else R (.bl false) M3
def V3(M:Mm):W->String->Prop
 | .non,T=>T = "NoneType"
 | .bl _,T=>T = "bool"
 | .int _,T=>T = "int"
 | .str _,T=>T = "str"
 | .tup _,T=>T = "tuple"
 | .rl _,T=>T = "list"
 | .dk _,T=>T = "dict"
 | .ref a,T=>(T = "list"/\∃ ws,M a=some (.lst ws))\/(T = "dict"/\((∃ kvs,M a=some (.dK kvs))\/∃ kvs,M a=some (.dT kvs)))
 | _,_=>False
def GU:List (String×String×Bool):=[("int","int",true),("int","bool",false),("int","str",false),("int","tuple",false),("int","list",false),("bool","bool",true),("bool","int",true),("bool","str",false),("bool","list",false),("bool","tuple",false),("str","str",true),("str","int",false),("str","tuple",false),("str","list",false),("str","bool",false),("tuple","tuple",true),("tuple","list",false),("tuple","str",false),("tuple","int",false),("tuple","bool",false),("list","list",true),("list","tuple",false),("list","str",false),("list","int",false),("list","bool",false),("NoneType","list",false),("NoneType","tuple",false),("NoneType","int",false),("NoneType","str",false),("NoneType","bool",false),("dict","dict",true),("dict","list",false)]
def GV(n T:String):Option Bool:=(GU.find? fun p=>p.1 == n && p.2.1 == T).map fun p=>p.2.2
def GW(K:Ac):List (String×String×Bool)->Prop
 | []=>True
 | p :: l=>Ip K (.type p.1) (.type p.2.1)=some p.2.2/\GW K l
theorem GX{K:Ac}:∀ {l:List (String×String×Bool)},GW K l->∀ p∈l,Ip K (.type p.1) (.type p.2.1)=some p.2.2
 | _ :: _,h,_,m=>by
  cases m with
  | head=>exact h.1
  | tail _ m=>exact GX h.2 _ m
theorem V4(K:Ac):∀ p∈GU,Ip K (.type p.1) (.type p.2.1)=some p.2.2:=by
 refine GX ?_
 refine⟨by kernel_rfl,by kernel_rfl,by kernel_rfl,by kernel_rfl,by kernel_rfl,by kernel_rfl,by kernel_rfl,by kernel_rfl,by kernel_rfl,by kernel_rfl,by kernel_rfl,by kernel_rfl,by kernel_rfl,by kernel_rfl,by kernel_rfl,by kernel_rfl,by kernel_rfl,by kernel_rfl,by kernel_rfl,by kernel_rfl,by kernel_rfl,by kernel_rfl,by kernel_rfl,by kernel_rfl,by kernel_rfl,by kernel_rfl,by kernel_rfl,by kernel_rfl,by kernel_rfl,by kernel_rfl,by kernel_rfl,by kernel_rfl,trivial⟩
theorem V5(K:Ac){n T:String}{b:Bool}(h:GV n T=some b):Ip K (.type n) (.type T)=some b:=by
 obtain⟨p,hp,e⟩:=Bj.mp h
 have h1:=List.find?_some hp
 have h2:=V4 K p (List.mem_of_find?_eq_some hp)
 rw[Cm,beq_iff_eq,beq_iff_eq] at h1
 rw[<-h1.1,<-h1.2,h2,e]
def jW:List W->Mm->K3->Prop
 | [w,.ty T],M,R=>∃ n b,V3 M w n/\GV n T=some b/\R (.bl b) M
 | _,_,_=>False
theorem mO:dE X (.builtin "isinstance") (gQ X.K jW):=by
 rintro pins s σ H xs us Q I rs ⟨ws,M,R,am,axs,h,k⟩
 match ws,h with
 | [w,.ty T],h=>
  obtain⟨v,u,rfl,av,au⟩:=axs.two
  cases au
  obtain⟨n,b,hn,hs,r⟩:=h
  have ty:iH X.K H v (.type n):=by
   cases w <;> first | exact(show False from hn).elim | skip
   case non=>rw[show n=_ from hn,show v=_ from av.inv];exact .non
   case bl b=>rw[show n=_ from hn,show v=_ from av.inv];exact .bl b
   case int i=>rw[show n=_ from hn,show v=_ from av.inv];exact .int i
   case str x=>rw[show n=_ from hn,show v=_ from av.inv];exact .str x
   case tup=>obtain⟨a,xs,ev,e,q⟩:=av.inv;rw[show n=_ from hn,ev];exact .tup e
   case rl=>obtain⟨a,xs,ev,e,_,q⟩:=av.inv;rw[show n=_ from hn,ev];exact .lst e
   case dk=>obtain⟨a,xs,ev,e,_,q⟩:=av.inv;rw[show n=_ from hn,ev];exact .dK e
   case ref a=>
    rw[show v=_ from av.inv]
    rcases hn with⟨e,ws,h⟩ | ⟨e,h⟩
    ·subst e
     obtain⟨vs,f,_⟩:=am.lst h
     exact .lst f
    ·subst e
     rcases h with⟨kvs,h⟩ | ⟨kvs,h⟩
     ·obtain⟨ks,f,_⟩:=am _ _ h;exact .dK f
     ·obtain⟨ks,f,_⟩:=am _ _ h;exact .dT f
  exact S9 pins s σ H _ us Q I rs ⟨v,T,_,b,rfl,ty,V5 X.K hs,k.at am (.bl b) r⟩
end
section
variable {X:Cx}{a b:Expr}{ta tb:aY}{pos:Pos}{es:List Expr}{t:dA}
theorem GY{K:Ac}{H:Hp}{M:Mm}{R:K3}{Q:VK}{p:Addr}{xs:List V}{ws:List W}(am:AM K H M)(k:Up K H M R Q)(hp:H p=none)(ax:aM K H M xs ws)(r:R (.rl ws) M):Q (.ref p) (aS H p (.lst xs)):=by
 obtain⟨am2,k2⟩:=am.tup (u:=.lst xs) hp
 exact k _ _ _ _ k2 am2 (.rl cJ (am.nonM hp) (ax.newT hp)) r
def fR(t:dA):aY:=fun τ M R=>t τ M fun ws M1=>ws.length<=Am/\R (.rl ws) M1
theorem gT(h:A3 X es t):E3 X (.List es pos) (fR t):=
 (D0 h).weak fun σ H Q z0=>z0.el fun τ M R as am h k=>⟨τ,M,_,as,am,h,fun xs H1 ws M1 k1 am1 axs ⟨hl,r⟩=>⟨by rw[axs.length];exact hl,fun p hp=>GY am1 (k.kp k1) hp axs r⟩⟩
theorem GZ{f:Ae->Ae->Sem Ae}{r r':R3}(h:bG X f (cL X.K r))(k:∀ x y M R,r' x y M R->r x y M fun w M'=>frz w M' R):bG X f (cL X.K r'):=fun pins s σ H x y v u Q I rx ry ⟨wx,wy,M,R,am,ax,ay,h',kk⟩=>
 h pins s σ H x y v u Q I rx ry ⟨wx,wy,M,_,am,ax,ay,k _ _ _ _ h',kk.frz⟩
theorem V6{f:Ae}{r r':List W->Mm->K3->Prop}(h:dE X f (gQ X.K r))(k:∀ x M R,r' x M R->r x M fun w M'=>frz w M' R):dE X f (gQ X.K r'):=fun pins s σ H xs us Q I rs ⟨ws,M,R,am,ax,h',kk⟩=>
 h pins s σ H xs us Q I rs ⟨ws,M,_,am,ax,k _ _ _ h',kk.frz⟩
def cP:R3
 | .int i,.int j,M,R=>R (.int (i + j)) M
 | .tup xs,.tup ys,M,R=>xs≠[]/\xs.length + ys.length<=Am/\R (.tup (xs ++ ys)) M
 | .ref a,.ref b,M,R=>∃ xs ys,M a=some (.lst xs)/\M b=some (.lst ys)/\xs.length + ys.length<=Am/\R (.rl (xs ++ ys)) M
 | .rl xs,.ref b,M,R=>∃ ys,M b=some (.lst ys)/\xs.length + ys.length<=Am/\R (.rl (xs ++ ys)) M
 | .ref a,.rl ys,M,R=>∃ xs,M a=some (.lst xs)/\xs.length + ys.length<=Am/\R (.rl (xs ++ ys)) M
 | .rl xs,.rl ys,M,R=>xs.length + ys.length<=Am/\R (.rl (xs ++ ys)) M
 | _,_,_,_=>False
theorem dZ:bG X (Fh .Add) (cL X.K cP):=GZ wV fun x y M R h=>by
 cases x <;> first | exact(show False from h).elim | (cases y <;> first | exact(show False from h).elim | skip)
 case int.int i j=>exact h
 case tup.tup i j=>exact h
 case ref.ref i j=>obtain⟨xs,ys,h1,h2,h3,r⟩:=h;exact⟨xs,ys,h1,h2,h3,bC.frz r⟩
 case rl.ref i j=>obtain⟨ys,h2,h3,r⟩:=h;exact⟨ys,h2,h3,bC.frz r⟩
 case ref.rl i j=>obtain⟨ys,h2,h3,r⟩:=h;exact⟨ys,h2,h3,bC.frz r⟩
 case rl.rl i j=>exact⟨h.1,bC.frz h.2⟩
def lM:R3
 | .int i,.int j,M,R=>(oJ i j\/sX i j)/\R (.int (i * j)) M
 | .ref a,.int n,M,R=>∃ xs,M a=some (.lst xs)/\-(2 ^ 63)<=n/\n < 2 ^ 63/\xs.length * n.toNat<=Am/\R (.rl (Bt n.toNat xs).flatten) M
 | .rl xs,.int n,M,R=>-(2 ^ 63)<=n/\n < 2 ^ 63/\xs.length * n.toNat<=Am/\R (.rl (Bt n.toNat xs).flatten) M
 | _,_,_,_=>False
theorem pD:bG X (Fh .Mult) (cL X.K lM):=GZ U3 fun x y M R h=>by
 cases x <;> first | exact(show False from h).elim | (cases y <;> first | exact(show False from h).elim | skip)
 case int.int i j=>exact h
 case ref.int i j=>obtain⟨xs,h1,h2,h3,h4,r⟩:=h;exact⟨xs,h1,h2,h3,h4,bC.frz r⟩
 case rl.int i j=>obtain⟨h2,h3,h4,r⟩:=h;exact⟨h2,h3,h4,bC.frz r⟩
def xK:List W->Mm->K3->Prop
 | [.tup ws],M,R=>R (.rl ws) M
 | [.rl ws],M,R=>R (.rl ws) M
 | [.sc ws],M,R=>R (.rl ws) M
 | [.dk kvs],M,R=>R (.rl (kvs.map fun kv=>wK kv.1)) M
 | [.ref a],M,R=>(∃ ws,M a=some (.lst ws)/\R (.rl ws) M)\/∃ kvs,M a=some (.dK kvs)/\R (.rl (kvs.map fun kv=>wK kv.1)) M
 | _,_,_=>False
theorem G0(hc:X.calm=true):dE X (.type "list") (gQ X.K xK):=V6 (GG hc) fun x M R h=>by
 match x,h with
 | [.tup ws],h=>exact bC.frz h
 | [.rl ws],h=>exact bC.frz h
 | [.sc ws],h=>exact bC.frz h
 | [.dk kvs],h=>exact bC.frz h
 | [.ref a],h=>
  rcases h with⟨ws,e,r⟩ | ⟨kvs,e,r⟩
  ·exact .inl ⟨ws,e,bC.frz r⟩
  ·exact .inr ⟨kvs,e,bC.frz r⟩
def G1:W->Option Int->Option Int->Mm->K3->Prop
 | .rl ws,lo,hi,M,R=>R (.rl (dU ws lo hi)) M
 | .sc ws,lo,hi,M,R=>R (.rl (dU ws lo hi)) M
 | .ref a,lo,hi,M,R=>∃ ws,M a=some (.lst ws)/\R (.rl (dU ws lo hi)) M
 | .tup ws,lo,hi,M,R=>¬ (HT.sIx ws.length 0 lo=0/\HT.sIx ws.length ws.length hi=ws.length)/\R (.tup (dU ws lo hi)) M
 | _,_,_,_,_=>False
theorem V7{x:W}{l u:Option Int}{M:Mm}{R:K3}(h:G1 x l u M R):F8 x l u M fun w M'=>frz w M' R:=by
 cases x <;> first | exact(show False from h).elim | skip
 case tup ws=>exact h
 case rl ws=>exact bC.frz h
 case sc ws=>exact bC.frz h
 case ref a=>obtain⟨ws,e,r⟩:=h;exact⟨ws,e,bC.frz r⟩
def nP(ta:aY)(tl th:pA):aY:=fun τ M R=>ta τ M fun x M1=>tl τ M1 fun l M2=>th τ M2 fun u M3=>G1 x l u M3 R
theorem qW{lo hi:Option Expr}{tl th:pA}{p2:Pos}(he:E3 X a ta)(hl:PO X lo (pB X.K tl))(hu:PO X hi (pB X.K th)):E3 X (.Subscript a (.Slice lo hi none p2) pos) (nP ta tl th):=
 (QV VF he hl hu).weak fun σ H Q z0=>z0.el fun τ M R as am h k=>⟨τ,M,_,as,am,h,fun x H1 wx M1 k1 am1 ax h1=>⟨τ,M1,_,as.kp am k1,am1,h1,fun l H2 M2 k2 am2 h2=>⟨τ,M2,_,(as.kp am k1).kp am1 k2,am2,h2,fun u H3 M3 k3 am3 h3=>
  ⟨wx,M3,_,am3,(ax.kp am1 k2).kp am2 k3,V7 h3,(((k.kp k1).kp k2).kp k3).frz⟩⟩⟩⟩
variable {sc:Jb}{N':List Str}{js:List (Option Nat)}{tg iter elt:Expr}{ifs:List Expr}{wi:hX}{g:e6}{tt:dR}{te:aY}
theorem V8{i:Nat}{x:Str}{px spos:Pos}(hN:X.N.Nodup)(hi0:X.N[i]? = some x)(hx:Loc X.env.scope x)(N':List Str)(js:List (Option Nat))(hi:PI X tg iter (gR X.K wi))
  (hg:∀ B,PG (dQ X sc N' B) tg (hU X.K g)) (ht:∀ B,iT (dQ X sc N' B) ifs (kH X.K tt)) (he:∀ B,PE (dQ X sc N' B) elt (up X.K te))
  (S0:nF N' sc X.env.scope=true:=by kernel_rfl) (hj:fE N' X.N sc js N'=true:=by kernel_rfl) (hc:X.calm=true:=by rfl) (hsw:Jf (.ListComp elt [⟨tg,iter,ifs,0⟩] sc pos) (some (.Name x px)) spos.line X.env=pure true:=by rfl)
  (hf:X.fn x=true\/X.env.scope.names.lookup x=some .local:=by first | exact .inl rfl | exact .inr rfl | assumption)
  (hs:∀ x,Gq iter X.env x=pure x:=by intro _;rfl):P3 X (.Assign [.Name x px] (.ListComp elt [⟨tg,iter,ifs,0⟩] sc pos) spos) (a0 i (dS (gE wi g tt te js))):=
 (S5 hN hi0 hx N' js hi hg ht he S0 hj hc hsw hf hs).weak fun D σ H z0=>z0.el fun τ M D' as am h k=>GR ⟨τ,M,_,as,am,h,Up.frz fun y H1 wy M1 k1 am1 ay h1=>k.nx _ _ _ _ k1 am1 ((as.kp am k1).set ay i) h1⟩
end
def Pl:Nat->W->Prop
 | _,.non=>True
 | _,.int _=>True
 | _,.str x=>PyData.strOk x=true
 | n + 1,.tup ws=>∀ w∈ws,Pl n w
 | n + 1,.rl ws=>∀ w∈ws,Pl n w
 | _,_=>False
def dN(M:Mm):W->W
 | .ref a=>match M a with
  | some (.lst ws)=>.rl ws
  | _=>.ref a
 | w=>w
section
variable {M:Mm}
theorem xM{n:Nat}(ih:∀ {w:W},Pl n w->∃ d,Snap M w d/\d.canLay0=true/\d.depth<=n):∀ {ws:List W},(∀ w∈ws,Pl n w)->∃ ds,iV M ws ds/\PyData.canLayAll0 ds=true/\PyData.depthAll ds<=n
 | [],_=>⟨[],.nil,rfl,by simp[PyData.depthAll]⟩
 | w :: ws,h=>by
  obtain⟨d,s,c,e⟩:=ih (h w Bd)
  obtain⟨ds,ss,cc,ee⟩:=xM ih fun z hz=>h z (Au _ hz)
  exact⟨d :: ds,.cons s ss,by simp[PyData.canLayAll0,c,cc],by simp only[PyData.depthAll];lia⟩
theorem V9:∀ {n:Nat} {w:W},Pl n w->∃ d,Snap M w d/\d.canLay0=true/\d.depth<=n:=by
 intro n
 induction n with
 | zero=>
  intro w h
  cases w <;> first | exact(show False from h).elim | skip
  case non=>exact⟨_,.non,rfl,by simp[Hr]⟩
  case int i=>exact⟨_,.int i,rfl,by simp[Hr]⟩
  case str x=>exact⟨_,.str x,h,by simp[Hr]⟩
 | succ n ih=>
  intro w h
  cases w <;> first | exact(show False from h).elim | skip
  case non=>exact⟨_,.non,rfl,by simp[Hr]⟩
  case int i=>exact⟨_,.int i,rfl,by simp[Hr]⟩
  case str x=>exact⟨_,.str x,h,by simp[Hr]⟩
  case tup ws=>
   obtain⟨ds,s,c,e⟩:=xM ih h
   exact⟨_,.tup s,by simpa [PyData.canLay0] using c,by simp only[Hr];lia⟩
  case rl ws=>
   obtain⟨ds,s,c,e⟩:=xM ih h
   exact⟨_,.rl s,by simpa [PyData.canLay0] using c,by simp only[Hr];lia⟩
theorem G2{n:Nat}{w:W}(h:Pl n (dN M w)):∃ d,Snap M w d/\Snap M (dN M w) d/\d.canLay0=true/\d.depth<=n:=by
 obtain⟨d,s,c,e⟩:=V9 (M:=M) h
 refine⟨d,?_,s,c,e⟩
 cases w <;> first | exact s | skip
 case ref a=>
  cases q:M a with
  | none=>
   have e:dN M (.ref a)=.ref a:=by simp[dN,q]
   rw[e] at s;exact s
  | some o=>
   cases o with
   | lst ws=>
    have e:dN M (.ref a)=.rl ws:=by simp[dN,q]
    rw[e] at s
    cases s with
    | rl r=>exact .ref q r
   | dK _=>
    have e:dN M (.ref a)=.ref a:=by simp[dN,q]
    rw[e] at s;exact s
   | dT _=>
    have e:dN M (.ref a)=.ref a:=by simp[dN,q]
    rw[e] at s;exact s
   | fix _=>
    have e:dN M (.ref a)=.ref a:=by simp[dN,q]
    rw[e] at s;exact s
   | ins _ _ _=>
    have e:dN M (.ref a)=.ref a:=by simp[dN,q]
    rw[e] at s;exact s
theorem G3{n:Nat}(ih:∀ {x y:W} {dx dy:Kt},Pl n x->Pl n y->Snap M x dx->Snap M y dy->(Jw dx dy=true↔x=y)):∀ {xs ys:List W} {dx dy:List Kt},(∀ w∈xs,Pl n w)->(∀ w∈ys,Pl n w)->iV M xs dx->iV M ys dy->(Mj dx dy=true↔xs=ys):=by
 intro xs
 induction xs with
 | nil=>
  intro ys dx dy hx hy s1 s2
  cases s1
  cases s2 <;> simp[Mj]
 | cons x xs IH=>
  intro ys dx dy hx hy s1 s2
  cases s1 with
  | cons s1 r1=>
   cases s2 with
   | nil=>simp[Mj]
   | cons s2 r2=>
    rw[Mj,Cm,ih (hx x Bd) (hy _ Bd) s1 s2,IH (fun z hz=>hx z (Au _ hz)) (fun z hz=>hy z (Au _ hz)) r1 r2]
    simp
theorem WA:∀ {n:Nat} {x y:W} {dx dy:Kt},Pl n x->Pl n y->Snap M x dx->Snap M y dy->(Jw dx dy=true↔x=y):=by
 intro n
 induction n with
 | zero=>
  intro x y dx dy hx hy sx sy
  cases sx <;> first | exact(show False from hx).elim | skip
  all_goals cases sy <;> first | exact(show False from hy).elim | simp[Jw]
 | succ n ih=>
  intro x y dx dy hx hy sx sy
  cases sx <;> first | exact(show False from hx).elim | skip
  all_goals cases sy <;> first | exact(show False from hy).elim | skip
  all_goals first | (simp[Jw];done) | skip
  case tup.tup r1 _ _ r2=>rw[Jw,G3 ih hx hy r1 r2];simp
  case rl.rl r1 _ _ r2=>rw[Jw,G3 ih hx hy r1 r2];simp
theorem WB{neg:Bool}{x y:W}{R:K3}(n:Nat)(hn:n<=60)(hx:Pl n (dN M x))(hy:Pl n (dN M y))(h:∀ b:Bool,(b=true↔dN M x=dN M y)->R (.bl (if neg then !b else b)) M):qQ neg x y M R:=by
 obtain⟨dx,s1,s1',c1,e1⟩:=G2 hx
 obtain⟨dy,s2,s2',c2,e2⟩:=G2 hy
 exact⟨dx,dy,s1,s2,⟨c1,by lia⟩,⟨c2,by lia⟩,h _ (WA hx hy s1' s2')⟩
theorem xN{neg:Bool}{x y:W}{R:K3}(n:Nat)(hn:n<=60)(hx:Pl n (dN M x))(hy:Pl n (dN M y))(h:∀ b:Bool,(b=true↔dN M x=dN M y)->R (.bl (if neg then !b else b)) M):rEq neg x y M R:=by
 have d:=WB n hn hx hy h
 cases x <;> first | exact d | skip
 case int i=>
  cases y <;> first | exact d | skip
  case int j=>exact h (decide (i=j)) (by simp[dN])
 case str i=>
  cases y <;> first | exact d | skip
  case str j=>exact h (decide (i=j)) (by simp[dN])
 case bl i=>
  cases y <;> first | exact d | skip
  case bl j=>exact(show False by cases n <;> exact hx).elim
end
theorem G4{M:Mm}{neg:Bool}{x y:W}{R:K3}(n:Nat)(hn:n<=60)(hx:Pl n (dN M x))(e:dN M y=dN M x)(h:R (.bl (!neg)) M):rEq neg x y M R:=by
 refine xN n hn hx (by rw[e];exact hx) fun b hb=>?_
 have:b=true:=hb.mpr e.symm
 subst this
 cases neg <;> exact h
theorem Pl.up:∀ {n:Nat} {w:W},Pl n w->Pl (n + 1) w
 | 0,w,h=>by cases w <;> first | exact h | exact(show False from h).elim
 | n + 1,w,h=>by
  cases w <;> first | exact h | skip
  case tup ws=>exact fun w hw=>Pl.up (h w hw)
  case rl ws=>exact fun w hw=>Pl.up (h w hw)
theorem Pl.mono{w:W}{m:Nat}:∀ {n:Nat},Pl m w->m<=n->Pl n w
 | 0,h,e=>by cases Nat.le_zero.mp e;exact h
 | n + 1,h,e=>by
  rcases Nat.eq_or_lt_of_le e with rfl | e
  ·exact h
  ·exact(Pl.mono h (Nat.le_of_lt_succ e)).up
theorem tU{ws:List W}{keep:Mm->Prop}{g:e6}{tt:dR}{te:aY}{τ₀:S3}{M1:Mm}{R:K3}(St:S3->Prop)(tgt:W->S3)(Rel:W->Option W->Prop)(hl:ws.length<=Am)(hk:∀ M,Sub M1 M->keep M)
  (h0:St τ₀) (ht:∀ w∈ws,St (tgt w)) (hg:∀ w∈ws,∀ τ M (C:S3->Mm->Prop),St τ->C (tgt w) M->g w τ M C)
  (hs:∀ w∈ws,∀ M (C:K3) (D:Mm->Prop),Sub M1 M->(∀ y,Rel w (some y)->C y M)->(Rel w none->D M)->tt (tgt w) M fun b M3=>if b=true then te (tgt w) M3 C else D M3)
  (r:∀ os,Ha Rel ws os->bC (os.filterMap id) M1 R):lK ws keep g tt te τ₀ M1 R:=by
 intro p hp
 refine⟨fun i τ acc M=>St τ/\(∃ os,Ha Rel (ws.take i) os/\acc=os.filterMap id)/\M=M1,⟨h0,⟨[],by simp;exact .nil,rfl⟩,rfl⟩,?_,?_,?_⟩
 ·rintro vs i τ acc M _ mp ⟨_,_,rfl⟩;exact hk _ (Sub.new hp)
 ·rintro vs i w τ acc M hw mp ⟨st,⟨os,po,rfl⟩,rfl⟩
  have hm:w∈ws:=Be hw
  have hi:i < ws.length:=(Aj.mp hw).1
  have htk:ws.take (i + 1)=ws.take i ++ [w]:=by rw[Bx,hw];rfl
  have snoc:∀ o,Rel w o->Ha Rel (ws.take (i + 1)) (os ++ [o]):=fun o ro=>by
   rw[htk]
   clear hw mp st htk
   revert os
   generalize ws.take i=l
   intro os po
   induction po with
   | nil=>exact .cons ro .nil
   | cons a b ih=>exact .cons a ih
  have hlen:(os.filterMap id).length < Am:=by
   have h1:=Ko id os
   have h2:=Ei po
   rw[Cb] at h2
   lia
  refine hg w hm τ _ _ st (hs w hm _ _ _ (Sub.new hp) (fun y hy=>⟨aT,hlen,M,?_,ht w hm,⟨_,snoc _ hy,?_⟩,rfl⟩) fun hn=>⟨aT,M,?_,ht w hm,⟨_,snoc _ hn,?_⟩,rfl⟩)
  ·rw[i7 hp];exact Sub.refl _
  ·simp
  ·rw[i7 hp];exact Sub.refl _
  ·simp
 ·rintro τ acc M mp ⟨_,⟨os,po,rfl⟩,rfl⟩
  rw[Bz] at po
  exact r os po p hp
def xO(rest:S3):S3->Prop:=fun τ=>∃ o,τ=o :: rest
theorem WC{ws:List W}{keep:Mm->Prop}{te:aY}{o:Option W}{rest:S3}{M1:Mm}{R:K3}(f:W->W)(hl:ws.length<=Am)(hk:∀ M,Sub M1 M->keep M)
  (hs:∀ w∈ws,∀ M (C:K3),Sub M1 M->C (f w) M->te (some w :: rest) M C) (r:bC (ws.map f) M1 R):lK ws keep (bH 0) hZ te (o :: rest) M1 R:=by
 refine tU (xO rest) (fun w=>some w :: rest) (fun w o=>o=some (f w)) hl hk ⟨_,rfl⟩ (fun w _=>⟨_,rfl⟩) ?_ ?_ ?_
 ·rintro w _ τ M C ⟨o,rfl⟩ h;exact h
 ·intro w hw M C D sb h1 _
  show(if true=true then te (some w :: rest) M C else D M)
  rw[if_pos rfl]
  exact hs w hw M C sb (h1 _ rfl)
 ·intro os po
  have:os.filterMap id=ws.map f:=by
   clear r hs hl hk
   induction po with
   | nil=>rfl
   | cons a b ih=>subst a;simp[ih]
  rw[this];exact r
theorem WD{ws:List W}{keep:Mm->Prop}{tt:dR}{te:aY}{o:Option W}{rest:S3}{M1:Mm}{R:K3}(f:W->Option W)(hl:ws.length<=Am)(hk:∀ M,Sub M1 M->keep M)
  (hs:∀ w∈ws,∀ M (C:K3) (D:Mm->Prop),Sub M1 M->(∀ y,f w=some y->C y M)->(f w=none->D M)->tt (some w :: rest) M fun b M3=>if b=true then te (some w :: rest) M3 C else D M3)
  (r:bC (ws.filterMap f) M1 R):lK ws keep (bH 0) tt te (o :: rest) M1 R:=by
 refine tU (xO rest) (fun w=>some w :: rest) (fun w o=>o=f w) hl hk ⟨_,rfl⟩ (fun w _=>⟨_,rfl⟩) ?_ ?_ ?_
 ·rintro w _ τ M C ⟨o,rfl⟩ h;exact h
 ·intro w hw M C D sb h1 h2
  exact hs w hw M C D sb (fun y e=>h1 y e.symm) fun e=>h2 e.symm
 ·intro os po
  have:os.filterMap id=ws.filterMap f:=by
   clear r hs hl hk
   induction po with
   | nil=>rfl
   | @cons a b c d e _ ih=>
    subst e
    cases q:f a <;> simp[q,ih]
  rw[this];exact r
theorem xP{ws:List W}{keep:Mm->Prop}{te:aY}{o:Option W}{rest:S3}{M1:Mm}{R:K3}(P:W->W->Prop)(hl:ws.length<=Am)(hk:∀ M,Sub M1 M->keep M)
  (hs:∀ w∈ws,∀ M (C:K3),Sub M1 M->(∀ y,P w y->C y M)->te (some w :: rest) M C) (r:∀ ys,Ha P ws ys->bC ys M1 R):lK ws keep (bH 0) hZ te (o :: rest) M1 R:=by
 refine tU (xO rest) (fun w=>some w :: rest) (fun w o=>∃ y,o=some y/\P w y) hl hk ⟨_,rfl⟩ (fun w _=>⟨_,rfl⟩) ?_ ?_ ?_
 ·rintro w _ τ M C ⟨o,rfl⟩ h;exact h
 ·intro w hw M C D sb h1 _
  show(if true=true then te (some w :: rest) M C else D M)
  rw[if_pos rfl]
  exact hs w hw M C sb fun y py=>h1 y ⟨y,rfl,py⟩
 ·intro os po
  have:∃ ys,os=ys.map some/\Ha P ws ys:=by
   clear r hs hl hk
   induction po with
   | nil=>exact⟨[],rfl,.nil⟩
   | cons a b ih=>
    obtain⟨y,rfl,py⟩:=a
    obtain⟨ys,rfl,h⟩:=ih
    exact⟨y :: ys,rfl,.cons py h⟩
  obtain⟨ys,rfl,py⟩:=this
  rw[Kd]
  have:(ys.filterMap (id ∘ some))=ys:=by simp
  rw[this]
  exact r ys py
def WE(rest:S3):S3->Prop:=fun τ=>∃ o1 o2,τ=o1 :: o2 :: rest
def WG(rest:S3):W->S3
 | .tup [a,b]=>some a :: some b :: rest
 | _=>none :: none :: rest
abbrev G5:e6:=hW 2 (cR (bH 0) (cR (bH 1) hV))
theorem G6{ws:List W}{keep:Mm->Prop}{tt:dR}{te:aY}{o1 o2:Option W}{rest:S3}{M1:Mm}{R:K3}(P:W->Option W->Prop)(hw:∀ w∈ws,∃ a b,w=.tup [a,b])(hl:ws.length<=Am)(hk:∀ M,Sub M1 M->keep M)
  (hs:∀ a b,.tup [a,b]∈ws->∀ M (C:K3) (D:Mm->Prop),Sub M1 M->(∀ y,P (.tup [a,b]) (some y)->C y M)->(P (.tup [a,b]) none->D M)->tt (some a :: some b :: rest) M fun b' M3=>if b'=true then te (some a :: some b :: rest) M3 C else D M3)
  (r:∀ os,Ha P ws os->bC (os.filterMap id) M1 R):lK ws keep G5 tt te (o1 :: o2 :: rest) M1 R:=by
 refine tU (WE rest) (WG rest) P hl hk ⟨_,_,rfl⟩ (fun w hm=>?_) ?_ ?_ r
 ·obtain⟨a,b,rfl⟩:=hw w hm;exact⟨_,_,rfl⟩
 ·rintro w hm τ M C ⟨u1,u2,rfl⟩ h
  obtain⟨a,b,rfl⟩:=hw w hm
  exact⟨rfl,rfl,h⟩
 ·intro w hm M C D sb h1 h2
  obtain⟨a,b,rfl⟩:=hw w hm
  exact hs a b hm M C D sb h1 h2
theorem WH{ws:List W}{keep:Mm->Prop}{te:aY}{o1 o2:Option W}{rest:S3}{M1:Mm}{R:K3}(P:W->W->Prop)(hw:∀ w∈ws,∃ a b,w=.tup [a,b])(hl:ws.length<=Am)(hk:∀ M,Sub M1 M->keep M)
  (hs:∀ a b,.tup [a,b]∈ws->∀ M (C:K3),Sub M1 M->(∀ y,P (.tup [a,b]) y->C y M)->te (some a :: some b :: rest) M C)
  (r:∀ ys,Ha P ws ys->bC ys M1 R):lK ws keep G5 hZ te (o1 :: o2 :: rest) M1 R:=by
 refine G6 (fun w o=>∃ y,o=some y/\P w y) hw hl hk (fun a b hm M C D sb h1 _=>?_) fun os po=>?_
 ·show(if true=true then te (some a :: some b :: rest) M C else D M)
  rw[if_pos rfl]
  exact hs a b hm M C sb fun y py=>h1 y ⟨y,rfl,py⟩
 ·have:∃ ys,os=ys.map some/\Ha P ws ys:=by
   clear r hs hl hk hw
   induction po with
   | nil=>exact⟨[],rfl,.nil⟩
   | cons a b ih=>
    obtain⟨y,rfl,py⟩:=a
    obtain⟨ys,rfl,h⟩:=ih
    exact⟨y :: ys,rfl,.cons py h⟩
  obtain⟨ys,rfl,py⟩:=this
  rw[Kd]
  have:(ys.filterMap (id ∘ some))=ys:=by simp
  rw[this]
  exact r ys py
structure Df(K:Ac)(mg:Str->Option Ae)(x:Str)(st:Stmt)(ps:List Str)(f:Addr)(fd:Bl):Prop where
 fn:kF K x x st f fd
 at_:mg x=some (.ref f)
 bi:Binds K fd ps []
theorem d3:Cp "len" = some (.builtin "len"):=PySem.boot_len
theorem xQ:Cp "list" = some (.type "list"):=by decide +kernel
theorem pE:Cp "tuple" = some (.type "tuple"):=by decide +kernel
theorem WI:Cp "str" = some (.type "str"):=by decide +kernel
theorem tV:Cp "int" = some (.type "int"):=by decide +kernel
theorem G7:Cp "bool" = some (.type "bool"):=by decide +kernel
theorem xR:Cp "dict" = some (.type "dict"):=by decide +kernel
theorem mP:Cp "isinstance" = some (.builtin "isinstance"):=by decide +kernel
theorem WJ:Cp "abs" = some (.builtin "abs"):=by decide +kernel
theorem xS{α:Type}(x:α)(xs:List α):cG (x :: xs) 0=some x:=by simp[cG,gY]
theorem xT{α:Type}(x y:α)(xs:List α):cG (x :: y :: xs) 1=some y:=eN (j:=1) rfl
theorem G8{ws:List W}{lo hi:Option Int}{w:W}(h:w∈dU ws lo hi):w∈ws:=List.mem_of_mem_drop (Ey h)
theorem xU{ws:List W}{lo hi:Option Int}:(dU ws lo hi).length<=ws.length:=by
 unfold dU;rw[Cb,Ga];omega
def fG(x:Str):Prop:=PyData.strOk x=true
def WK(ws:List W):Prop:=∀ w∈ws,∃ i,w=W.int i
theorem ints_map(ns:List Int):WK (ns.map W.int):=fun w h=>by
 obtain⟨i,_,e⟩:=Ba.mp h
 exact⟨i,e.symm⟩
theorem iA{n:Nat}(h:n<=10000000):n<=Am:=Bh h (by decide)
theorem eC{n:Nat}(h:n < 10000000):n < Am:=Bw h (by decide)
theorem G9{S:List W}{i:Int}(h0:0<=i)(h1:i<=S.length):dU S none (some i)=S.take i.toNat:=by
 unfold dU HT.sIx
 simp only[Mc,Nat.sub_zero]
 rw[if_neg (by omega),Ll (by omega)]
theorem WL{S:List W}{i:Int}(h0:0<=i):dU S (some i) none=S.drop i.toNat:=by
 unfold dU HT.sIx
 simp only[]
 rw[if_neg (by omega)]
 by_cases h:i.toNat<=S.length
 ·rw[Ll h,Fd (by rw[Ga];exact Ai _)]
 ·rw[Nat.min_eq_right (by omega)]
  rw[Jd (Ai _),Jd (by omega)];simp
theorem WM{M:Mm}{a:Addr}{k:Str}{v:W}{kvs:List (aD×W)}{Q:Mm->Prop}(h:M a=some (.dK kvs))(hl:kvs.length < Am)(q:Q (put M a (.dK (bZ kvs (Sum.inr k) v)))):nM (.ref a) (.str k) v M Q:=.inr (.inl ⟨kvs,.inr k,rfl,h,hl,q⟩)
theorem WN{M:Mm}{a:Addr}{k:Int}{v:W}{kvs:List (aD×W)}{Q:Mm->Prop}(h:M a=some (.dK kvs))(hl:kvs.length < Am)(q:Q (put M a (.dK (bZ kvs (Sum.inl k) v)))):nM (.ref a) (.int k) v M Q:=.inr (.inl ⟨kvs,.inl k,rfl,h,hl,q⟩)
theorem qX{M:Mm}{a:Addr}{k:List aD}{v:W}{kvs:List (List aD×W)}{Q:Mm->Prop}(h:M a=some (.dT kvs))(hl:kvs.length < Am)(q:Q (put M a (.dT (bZ kvs k v)))):nM (.ref a) (.tup (k.map wK)) v M Q:=.inr (.inr ⟨kvs,k,rfl,h,hl,q⟩)
theorem HC{M:Mm}{a:Addr}{k:Int}{v:W}{ws:List W}{Q:Mm->Prop}(h:M a=some (.lst ws))(h0:0<=k)(h1:k < ws.length)(q:Q (put M a (.lst (ws.set k.toNat v)))):nM (.ref a) (.int k) v M Q:=
 .inl ⟨ws,k,k.toNat,rfl,h,by unfold gY;rw[if_pos h0,if_pos h1],q⟩
section
variable {X:Cx}{a b c:Expr}{ta tb tc:aY}{pos:Pos}
theorem WO{K:Ac}{r r':R3}{σ:SV}{H:Hp}{Q:VK}(h:up K (xJ r r' ta tb tc) σ H Q):DU (cL K r) (cL K r') (up K ta) (up K tb) (up K tc) σ H Q:=by
 obtain⟨τ,M,R,as,am,h,k⟩:=h
 refine⟨τ,M,_,as,am,h,fun x H1 wx M1 k1 am1 ax h1=>⟨τ,M1,_,as.kp am k1,am1,h1,fun y H2 wy M2 k2 am2 ay h2=>⟨wx,wy,M2,_,am2,ax.kp am1 k2,ay,h2,fun z H3 wz M3 k3 am3 az ⟨c,e,h3⟩=>?_⟩⟩⟩
 subst e
 refine⟨c,az.bl_inv,?_⟩
 cases c with
 | false=>exact((k.kp k1).kp k2).kp k3 |>.at am3 (.bl false) h3
 | true=>exact⟨τ,M3,_,((as.kp am k1).kp am1 k2).kp am2 k3,am3,h3,fun w H4 ww M4 k4 am4 aw h4=>⟨wy,ww,M4,R,am4,(ay.kp am2 k3).kp am3 k4,aw,h4,(((k.kp k1).kp k2).kp k3).kp k4⟩⟩
theorem WR{op op':CmpOp}{r r':R3}(ho:bG X (Ce op) (cL X.K r))(ho':bG X (Ce op') (cL X.K r'))(ha:E3 X a ta)(hb:E3 X b tb)(hc:E3 X c tc)
  (hm:lastMarks [op,op'] [b,c]=false:=by with_unfolding_all rfl):T3 X (.Compare a [op,op'] [b,c] pos) (bK (xJ r r' ta tb tc)):=
 (O9 ho ho' ha hb hc hm).weak fun σ H Q z0=>z0.el fun τ M R as am h k=>WO ⟨τ,M,_,as,am,h,fun v H' w M' k' am' av ⟨c,e,r⟩=>by
  subst e
  exact⟨c,av.bl_inv,k c H' M' k' am' r⟩⟩
def HD:List W->Mm->K3->Prop
 | [.int i],M,R=>R (.int (if i < 0 then -i else i)) M
 | _,_,_=>False
theorem WS:dE X (.builtin "abs") (gQ X.K HD):=by
 rintro pins s σ H xs us Q I rs ⟨ws,M,R,am,axs,h,k⟩
 match ws,h with
 | [.int i],h=>
  obtain⟨v,rfl,av⟩:=axs.one
  obtain rfl:=av.inv
  exact PF pins s σ H _ us Q I rs ⟨i,rfl,k.at am (.int _) h⟩
end
def iB:Nat->List W->List W
 | _,[]=>[]
 | n,w :: r=>.tup [.int n,w] :: iB (n + 1) r
theorem mQ:∀ {ws:List W} {n:Nat},(iB n ws).length=ws.length
 | [],_=>rfl
 | _ :: r,n=>by simp[iB,mQ (ws:=r)]
theorem tW:∀ {ws:List W} {n i:Nat},(iB n ws)[i]? = (ws[i]?).map fun w=>W.tup [.int ((n + i:Nat):Int),w]
 | [],_,_=>by simp[iB]
 | w :: r,n,0=>by simp[iB]
 | w :: r,n,i + 1=>by
  rw[iB,Fo,Fo,tW]
  congr 2
  funext w
  congr 4
  lia
section
variable {X:Cx}{a b c:Expr}{ta tb tc:aY}{pos:Pos}
theorem HE{K:Ac}{H0:Hp}{M0:Mm}{p:Addr}{vs:List V}{ws:List W}{keep:Mm->Prop}(q0:aM K H0 M0 vs ws)(am0:AM K H0 M0)(st:∀ H M,Kp H0 M0 H M->AM K H M->keep M->bD K H p vs):iM K H0 M0 (wJ K p vs) (iB 0 ws) keep:=by
 refine⟨fun i H M k am kp hi=>⟨st H M k am kp,by rw[mQ] at hi;rw[q0.length];exact hi⟩,fun H M k am kp=>⟨st H M k am kp,by rw[mQ,q0.length];exact Ai _⟩,fun i H M x H' k am kp hi y=>?_⟩
 obtain⟨pp,u,hu,hn,rfl,rfl⟩:=y
 obtain⟨w,hw,av⟩:=(q0.kp am0 k).getV hu
 obtain⟨am2,k2⟩:=am.tup (u:=.tup [.int (i:Nat),u]) hn
 refine⟨.tup [.int ((i:Nat):Int),w],by rw[tW,hw];simp,k2,am2,.tup cJ (.cons (.int _) (.cons (av.go (go_same hn)) .nil))⟩
def HF(ta:dA):hX:=fun τ M R=>ta τ M fun ws M1=>match ws with
 | [.rl zs]=>R (iB 0 zs) (fun _=>True) M1
 | [.sc zs]=>R (iB 0 zs) (fun _=>True) M1
 | [.ref p]=>∃ zs,M1 p=some (.lst zs)/\False
 | _=>False
theorem WT{tA:dA}{p pos:Pos}{es:List Expr}{kx:Nat}{px:Pos}(hg:Gl X "enumerate")(hm:X.mg "enumerate" = none)(ha:A3 X [a] tA)(hs:Bi [a] X.env=[(false,eval a X.env)]:=by rfl):PI X (.Tuple es kx px) (.Call (.Name "enumerate" p) [a] [] pos) (gR X.K (HF tA)):=
 (TN hg hm ha hs).weak fun σ H R' z0=>z0.el fun τ M R as am h k=>⟨τ,M,_,as,am,h,fun vs H1 ws M1 k1 am1 ax r=>by
  match ws,r with
  | [.rl zs],r=>
   obtain⟨v,rfl,av⟩:=ax.one
   cases av with
   | rl e n q=>exact⟨_,_,rfl,bD.of e,k _ _ _ _ _ k1 am1 (HE q am1 fun H M k _ _=>bD.of (k.fr _ _ n e).1) r⟩
  | [.sc zs],r=>
   obtain⟨v,rfl,av⟩:=ax.one
   cases av with
   | sc e q=>exact⟨_,_,rfl,e.sq,k _ _ _ _ _ k1 am1 (HE q am1 fun H M k _ _=>by
     refine lC.sq ?_
     rcases e with⟨o,e⟩ | e
     ·exact .inl ⟨o,(k.fr _ _ (am1.noFrz e) e).1⟩
     ·exact .inr e) r⟩
  | [.ref p],r=>obtain⟨_,_,f⟩:=r;exact f.elim⟩
def iN:List W->List W->List W
 | x :: xs,y :: ys=>.tup [x,y] :: iN xs ys
 | _,_=>[]
theorem lN:∀ {xs ys:List W},(iN xs ys).length=min xs.length ys.length
 | [],_=>by simp[iN]
 | _ :: _,[]=>by simp[iN]
 | _ :: xs,_ :: ys=>by simp[iN,lN (xs:=xs)]
theorem tX:∀ {xs ys:List W} {i:Nat} {x y:W},xs[i]? = some x->ys[i]? = some y->(iN xs ys)[i]? = some (.tup [x,y])
 | [],_,_,_,_,h,_=>by simp at h
 | _ :: _,[],_,_,_,_,h=>by simp at h
 | _ :: xs,_ :: ys,0,_,_,h,h'=>by simp at h h';simp[iN,h,h']
 | _ :: xs,_ :: ys,i + 1,_,_,h,h'=>by simpa [iN] using tX (xs:=xs) (ys:=ys) (i:=i) (by simpa using h) (by simpa using h')
end
section
variable {X:Cx}{a b c:Expr}{ta tb tc:aY}{pos:Pos}
theorem WU{K:Ac}{H0:Hp}{M0:Mm}{p q:Addr}{vs us:List V}{ws zs:List W}(am0:AM K H0 M0)(e1:H0 p=some (.tup vs))(e2:H0 q=some (.tup us))(r1:aM K H0 M0 vs ws)(r2:aM K H0 M0 us zs):iM K H0 M0 (tE K p q vs us) (iN ws zs) fun _=>True:=by
 have s1:∀ H M,Kp H0 M0 H M->bL K H p vs:=fun H M k=>bL.of (k.fr _ _ (am0.noTup e1) e1).1
 have s2:∀ H M,Kp H0 M0 H M->bL K H q us:=fun H M k=>bL.of (k.fr _ _ (am0.noTup e2) e2).1
 refine⟨fun i H M k am _ hi=>⟨s1 H M k,s2 H M k,?_,?_⟩,fun H M k am _=>⟨s1 H M k,s2 H M k,?_⟩,fun i H M x H' k am _ hi y=>?_⟩
 ·rw[lN] at hi;rw[r1.length];lia
 ·rw[lN] at hi;rw[r2.length];lia
 ·rw[lN,r1.length,r2.length];lia
 ·obtain⟨pp,u,v,hu,hv,hn,rfl,rfl⟩:=y
  obtain⟨w,hw,av⟩:=(r1.kp am0 k).getV hu
  obtain⟨z,hz,az⟩:=(r2.kp am0 k).getV hv
  obtain⟨am2,k2⟩:=am.tup (u:=.tup [u,v]) hn
  exact⟨.tup [w,z],tX hw hz,k2,am2,.tup cJ (.cons (av.go (go_same hn)) (.cons (az.go (go_same hn)) .nil))⟩
theorem WV{K:Ac}{H0:Hp}{M0:Mm}{p q:Addr}{vs us:List V}{ws zs:List W}(am0:AM K H0 M0)(e1:H0 p=some (.lst vs))(n1:M0 p=none)(e2:H0 q=some (.lst us))(n2:M0 q=none)(r1:aM K H0 M0 vs ws)(r2:aM K H0 M0 us zs):iM K H0 M0 (tD K p q vs us) (iN ws zs) fun _=>True:=by
 have s1:∀ H M,Kp H0 M0 H M->bD K H p vs:=fun H M k=>bD.of (k.fr _ _ n1 e1).1
 have s2:∀ H M,Kp H0 M0 H M->bD K H q us:=fun H M k=>bD.of (k.fr _ _ n2 e2).1
 refine⟨fun i H M k am _ hi=>⟨s1 H M k,s2 H M k,?_,?_⟩,fun H M k am _=>⟨s1 H M k,s2 H M k,?_⟩,fun i H M x H' k am _ hi y=>?_⟩
 ·rw[lN] at hi;rw[r1.length];lia
 ·rw[lN] at hi;rw[r2.length];lia
 ·rw[lN,r1.length,r2.length];lia
 ·obtain⟨pp,u,v,hu,hv,hn,rfl,rfl⟩:=y
  obtain⟨w,hw,av⟩:=(r1.kp am0 k).getV hu
  obtain⟨z,hz,az⟩:=(r2.kp am0 k).getV hv
  obtain⟨am2,k2⟩:=am.tup (u:=.tup [u,v]) hn
  exact⟨.tup [w,z],tX hw hz,k2,am2,.tup cJ (.cons (av.go (go_same hn)) (.cons (az.go (go_same hn)) .nil))⟩
def WW:List W->Mm->(List W->(Mm->Prop)->Mm->Prop)->Prop
 | [.tup xs,.tup ys],M,R=>R (iN xs ys) (fun _=>True) M
 | [.rl xs,.rl ys],M,R=>R (iN xs ys) (fun _=>True) M
 | _,_,_=>False
def HG(ta:dA):hX:=fun τ M R=>ta τ M fun ws M1=>WW ws M1 R
theorem WX{tA:dA}{p pos:Pos}{es:List Expr}{kx:Nat}{px:Pos}(hg:Gl X "zip")(hm:X.mg "zip" = none)(ha:A3 X [a,b] tA)(hs:Bi [a,b] X.env=[(false,eval a X.env),(false,eval b X.env)]:=by rfl)(hs2:Bi [b] X.env=[(false,eval b X.env)]:=by rfl) :
  PI X (.Tuple es kx px) (.Call (.Name "zip" p) [a,b] [] pos) (gR X.K (HG tA)):=
 (UO hg hm ha hs hs2).weak fun σ H R' z0=>z0.el fun τ M R as am h k=>⟨τ,M,_,as,am,h,fun vs H1 ws M1 k1 am1 ax r=>by
  match ws,r with
  | [.tup xs,.tup ys],r=>
   obtain⟨v,u,e,av,au⟩:=ax.two
   obtain⟨a1,x1,f1,e1,q1⟩:=av.inv
   obtain⟨a2,x2,f2,e2,q2⟩:=au.inv
   exact⟨a1,a2,_,_,by rw[e,f1,f2],.inl ⟨bL.of e1,bL.of e2,k _ _ _ _ _ k1 am1 (WU am1 e1 e2 q1 q2) r⟩⟩
  | [.rl xs,.rl ys],r=>
   obtain⟨v,u,e,av,au⟩:=ax.two
   obtain⟨a1,x1,f1,e1,n1,q1⟩:=av.inv
   obtain⟨a2,x2,f2,e2,n2,q2⟩:=au.inv
   exact⟨a1,a2,_,_,by rw[e,f1,f2],.inr ⟨bD.of e1,bD.of e2,k _ _ _ _ _ k1 am1 (WV am1 e1 n1 e2 n2 q1 q2) r⟩⟩⟩
def HH:W->Mm->K3->Prop
 | .tup ws,M,R=>R (.rl ws.reverse) M
 | _,_,_=>False
def HI(ta:aY):aY:=fun τ M R=>ta τ M fun w M1=>HH w M1 R
theorem WY{p p2 pos pos2:Pos}(hg:Gl X "list")(hm:X.mg "list" = none)(hg2:Gl X "reversed")(hm2:X.mg "reversed" = none)(ha:E3 X a ta)(hc:X.calm=true:=by rfl)
  (hs1:Bi [.Call (.Name "reversed" p2) [a] [] pos2] X.env=[(false,eval (.Call (.Name "reversed" p2) [a] [] pos2) X.env)]:=by rfl) (hs2:Bi [a] X.env=[(false,eval a X.env)]:=by rfl) :
  E3 X (.Call (.Name "list" p) [.Call (.Name "reversed" p2) [a] [] pos2] [] pos) (HI ta):=
 (UH hc hg hm hg2 hm2 (aC ha aH (by rw[hs2];rfl)) hs1 hs2).weak fun σ H Q z0=>z0.el fun τ M R as am h k=>⟨τ,M,fun ws M1=>match ws with | [w]=>HH w M1 R | _=>False,as,am,h,fun vs H1 ws M1 k1 am1 ax r=>by
  match ws,r with
  | [w],r=>
   obtain⟨v,rfl,av⟩:=ax.one
   cases av <;> first | exact(show False from r).elim | skip
   case tup a xs ws e q=>exact⟨a,xs,rfl,bL.of e,fun p hp=>GY am1 (k.kp k1) hp q.reverse r⟩⟩
end
end L3
namespace Rg
open PySem PySem.Spec PyProof.Rows L2 L3
structure aX where
 name:Str
 parts:List Str
 cost:Int
def iO(acc:List Str)(t:Str):List Str:=if t∈acc then acc else acc ++ [t]
def qY(acc:List Str)(rs:List aX):List Str:=(rs.map aX.name).foldl iO acc
def namesOf(rs:List aX):List Str:=qY [] rs
theorem WZ{acc:List Str}{t u:Str}:u∈iO acc t↔u∈acc\/u=t:=by
 unfold iO
 split
 ·rename_i h
  constructor
  ·exact .inl
  ·rintro(q | q)
   ·exact q
   ·rw[q];exact h
 ·rw[Bo,Aw]
theorem W0{acc:List Str}{t:Str}:(iO acc t).length<=acc.length + 1:=by
 unfold iO
 split
 ·lia
 ·rw[Ak];exact Ai _
theorem xV:∀ {ts acc:List Str} {u:Str},u∈ts.foldl iO acc↔u∈acc\/u∈ts
 | [],acc,u=>by simp
 | t :: r,acc,u=>by
  rw[Ec,xV,WZ,Ar]
  constructor
  ·rintro((h | h) | h)
   ·exact .inl h
   ·exact .inr (.inl h)
   ·exact .inr (.inr h)
  ·rintro(h | h | h)
   ·exact .inl (.inl h)
   ·exact .inl (.inr h)
   ·exact .inr h
theorem W4{rs:List aX}{u:Str}:u∈namesOf rs↔∃ r∈rs,r.name=u:=by
 unfold namesOf qY
 rw[xV]
 simp
theorem tY:∀ (ts acc:List Str),(ts.foldl iO acc).length<=acc.length + ts.length
 | [],acc=>by simp
 | t :: r,acc=>by
  rw[Ec,Bs]
  have:=tY r (iO acc t)
  have:=W0 (acc:=acc) (t:=t)
  lia
def eP(r:aX):W:=.tup [.str r.name,.tup (r.parts.map W.str),.int r.cost]
def bR(rs:List aX):W:=.rl (rs.map eP)
def d6(rs:List aX)(t:Str):Bool:=decide (t∈namesOf rs)
end Rg
namespace PySem
namespace Dp
open PyProof.Rows L2 PySem.Spec
section
variable {prog:Bq}{w:Cj}{A:Co}{E:Ae->Ag->Prop}{s:Ag}
theorem W5:typeLookup (.type "list") "keys" = pure none:=by rw[Gm,Ew];kernel_rfl
theorem keys_miss{a:Addr}{xs:Array Ae}{k:Nat}{Q:Option Ae->Ag->Prop}(hx:s.heap.get? a=some {cls:=.type "list",data:=.seq xs k})(hA:A.handled=none)
  (h:∀ h' tk,(∀ b o,s.heap.get? b=some o->h'.get? b=some o)->Q none {s with heap:=h',toks:=tk}):Bc (Bn prog w) A (getAttr? (.ref a) (Dk "keys")) Q E s:=by
 obtain⟨hp,g,d,tk,os⟩:=s
 have hT:∀ tk',(⟨hp,g,d,tk',os⟩:Ag).TypeIs (.ref a) "list":=fun _=>⟨_,hx,rfl⟩
 have f1:=sub_AttributeError
 have f3:=Kz.lookup
 have f4:=Kz.bind (.ref a)
 have f5:=am_list_getattr_none
 unfold getAttr? getAttrBy? getAttrBy
 repeat (any_goals (first | assumption | exact hT _ | ((with_reducible show Bc _ _ (call (Value.builtin "list.__getattribute__") _ _) _ _ _);refine Mi Kz (hT _) am_entry_list_getattribute (F.args_list_getattribute_2 _ _) (meets_getattribute_miss_list a xs k #[] (Dk "keys") _ W5 (by decide +kernel) (by decide +kernel)) ⟨hx,hA,fun h' tk' e hx'=>?_⟩) | wp_step))
 obtain⟨t',u',he⟩:=hx'.there
 have hx2:=hx'.of.keeps
 show Bc _ _ (getattributeRaised _ _ _ _ _ _ _) _ _ _
 unfold getattributeRaised
 repeat (any_goals (first | assumption | wp_step))
 exact h _ _ hx2
theorem entry_loop:entryFor table "dict.update.loop" = some Gx.«dict.update.loop»:=entryFor_of_tree (by kernel_rfl)
theorem plain_loop:plainId "dict.update.loop" = true:=by decide +kernel
variable {K:Type}[DecidableEq K]{knd:KeyKind prog w K}
theorem W6(kvs:List (K×Ae))(k:K)(v:Ae):(stored kvs k v).length<=kvs.length + 1:=by
 unfold stored
 split
 ·rw[Ab];lia
 ·rw[Ak,Bk];exact Ai _
def all(kvs:List (K×Ae))(ps:List (K×Ae)):List (K×Ae):=ps.foldl (fun kvs p=>stored kvs p.1 p.2) kvs
theorem loop{d I l:Addr}{items:Array Ae}{ps:List (K×Ae)}{R:Result->Ag->Prop}(hh:A.handled=none)(hdI:d≠I)(hdl:d≠l)(hlI:l≠I)(hn:ps.length=items.size)(hz:items.size<=Am) :
  ∀ (k i:Nat) (s:Ag) (kvs:List (K×Ae)),items.size - i=k->i<=items.size->kvs.length<=i->s.heap.IsListIter I l i->s.heap.IsList l items->s.heap.DictOf knd d kvs->
  (∀ (j:Nat) (p:K×Ae),ps[j]? = some p->∃ (a:Addr) (key:Ae),items[j]? = some (.ref a)/\a≠d/\a≠I/\s.heap.IsTuple a #[key,p.2]/\knd.is p.1 key=true)->
  (∀ h' tk,(∀ b o,b≠d->b≠I->s.heap.get? b=some o->h'.get? b=some o)->h'.DictOf knd d (all kvs (ps.drop i))->R (.ok (.ret .none)) {s with heap:=h',toks:=tk})->
  Jm (Bn prog w) A (.builtin "dict.update.loop" ⟨[.ref d,.ref I,Hj (i:Int),.none],[]⟩) R s:=by
 intro k
 induction k with
 | zero=>
  intro i s kvs hk hi hl hit kY hd hp hR
  have hin:i=items.size:=by lia
  refine Mu entry_loop ?_
  rw[Jj plain_loop _]
  show Bc _ A.in1 (Gz (.ref I) >>= _) _ _ s
  have W:=Walks.list (prog:=prog) (w:=w) (A:=A.in1) hh I l hlI items
  refine Aa (W.done s _ _ (by rw[<-hin];exact⟨hit,kY⟩) fun h' tk hm=>?_)
  show Bc _ A.in1 (Builtin.Dict.addKeywords d [] >>= _) _ _ _
  have hd':h'.DictOf knd d kvs:=by
   obtain⟨o,es,ep,ho,rest⟩:=hd
   exact⟨o,es,ep,hm d o (by simp[hdI]) ho,rest⟩
  refine Aa (Ah (Ah (hR h' tk (fun b o _ hb e=>hm b o (by simp[hb]) e) ?_)))
  rw[Jd (by lia)]
  exact hd'
 | succ k ih=>
  intro i s kvs hk hi hl hit kY hd hp hR
  have hlt:i < items.size:=by lia
  refine Mu entry_loop ?_
  rw[Jj plain_loop _]
  show Bc _ A.in1 (Gz (.ref I) >>= _) _ _ s
  have W:=Walks.list (prog:=prog) (w:=w) (A:=A.in1) hh I l hlI items
  refine Aa (W.item i s _ _ hlt ⟨hit,kY⟩ fun v h' tk hv hst hm=>?_)
  obtain⟨p,hpi⟩:∃ p,ps[i]? = some p:=⟨_,An (by lia)⟩
  obtain⟨a,key,ha,had,haI,hat,hkey⟩:=hp i p hpi
  rw[ha] at hv
  cases hv
  have hd':h'.DictOf knd d kvs:=by
   obtain⟨o,es,ep,ho,rest⟩:=hd
   exact⟨o,es,ep,hm d o (by simp[hdI]) ho,rest⟩
  have hat':h'.IsTuple a #[key,p.2]:=by
   obtain⟨o,ho,rest⟩:=hat
   exact⟨o,hm a o (by simp[haI]) ho,rest⟩
  show Bc _ A.in1 (Hz [Value.ref a] _ >>= _) _ _ _
  refine Aa (Dg (Aa (wpAny_tryCatch ?_)))
  unfold Builtin.Dict.pairItems
  obtain⟨o,ho,hc,n,hd2⟩:=hat'
  refine Aa (Kj (T:="tuple") ⟨o,ho,hc⟩ ?_)
  rw[if_pos (by decide)]
  refine Aa (Fp ho hd2 (Ah ?_))
  show Bc _ _ (Hz [key,p.2] (dictSet d key p.2)) _ _ _
  refine Dg (wpAny_dictSet_pairs hkey hd' (hsz:=by lia) fun h2 hd3 hs2=>?_)
  have e1:ps.drop i=p :: ps.drop (i + 1):=by rw[Fi (by lia)];congr 1;exact(Aj.mp hpi).2
  refine Ah ⟨Jv plain_loop _,?_⟩
  refine ih (i + 1) _ (stored kvs p.1 p.2) (by lia) hlt (by have:=W6 kvs p.1 p.2;lia) (hst.1.at fun o e=>(hs2.2 I (Bf hdI)).trans e) (hst.2.at fun o e=>(hs2.2 l (Bf hdl)).trans e) hd3 (fun j q hq=>?_) fun h3 tk3 hk3 hd4=>?_
  ·obtain⟨a,key,g1,g2,g3,⟨o,g4,g5⟩,g6⟩:=hp j q hq
   exact⟨a,key,g1,g2,g3,⟨o,(hs2.2 a g2).trans (hm a o (by simp[g3]) g4),g5⟩,g6⟩
  ·refine hR h3 tk3 (fun b o h1 h2 e=>hk3 b o h1 h2 ((hs2.2 b h1).trans (hm b o (by simp[h2]) e))) ?_
   rw[e1];exact hd4
theorem call_pairs{l:Addr}{items:Array Ae}{c:Nat}{ps:List (K×Ae)}{Q:Ae->Ag->Prop}(hh:A.handled=none)(hx:s.heap.get? l=some {cls:=.type "list",data:=.seq items c})(hn:ps.length=items.size)(hz:items.size<=Am)
  (hp:∀ (j:Nat) (p:K×Ae),ps[j]? = some p->∃ (a:Addr) (key:Ae),items[j]? = some (.ref a)/\s.heap.IsTuple a #[key,p.2]/\knd.is p.1 key=true)
  (h:∀ h' tk,(∀ b o,s.heap.get? b=some o->h'.get? b=some o)->h'.DictOf knd s.heap.objs.size (all [] ps)->Q (.ref s.heap.objs.size) {s with heap:=h',toks:=tk}) :
  Bc (Bn prog w) A (call (.type "dict") [.ref l]) Q E s:=by
 refine callType_codes (Q₁:=fun obj s₁=>obj=.ref s.heap.objs.size/\s₁ = {s with heap:=s.heap.push {cls:=.type "dict",data:=.dict #[]}}) F.kt_called_dict (F.kt_typeCall_dict_1 _) F.entry_dict_init (kt_code_dict_new _ ⟨rfl,rfl⟩) ?_
 rintro obj s₁ ⟨rfl,rfl⟩
 have lt:l < s.heap.objs.size:=Ap hx
 have hnew:(s.heap.push {cls:=.type "dict",data:=.dict #[]}).DictOf knd s.heap.objs.size []:=Heap.DictOf.new s.heap
 have hx':(s.heap.push {cls:=.type "dict",data:=.dict #[]}).get? l=some {cls:=.type "list",data:=.seq items c}:=Af _ hx
 refine⟨hnew.typeIs,F.args_dict_init_2 _ _,?_⟩
 unfold Gx.«dict.__init__»
 refine Aa ?_
 unfold Builtin.Dict.selfAndRest
 refine Aa (Hv hnew.typeIs ?_)
 show Bc _ _ (pure (s.heap.objs.size,[Value.ref l])) _ _ _
 refine Ah ?_
 show Bc _ _ (Hx "dict.__init__" s.heap.objs.size (.ref l) [] .none) _ _ _
 unfold Hx
 refine Aa (Kj (T:="list") ⟨_,hx',rfl⟩ ?_)
 rw[if_pos (by decide)]
 refine Aa (keys_miss hx' hh fun h1 tk1 hk1=>?_)
 rw[if_pos (by decide)]
 have hx1:=hk1 _ _ hx'
 have hd1:h1.DictOf knd s.heap.objs.size []:=by
  obtain⟨o,es,ep,ho,rest⟩:=hnew
  exact⟨o,es,ep,hk1 _ o ho,rest⟩
 refine Aa (Fw (Aa (La (items:=items) ⟨_,hx1,rfl,c,rfl⟩ ?_)))
 have gI:(h1.push {cls:=.type "list_iterator",data:=.fields #[.ref l,.int 0 0]}).IsListIter h1.objs.size l 0:=⟨_,Az _ rfl,rfl,rfl⟩
 have up:∀ b o,s.heap.get? b=some o->(h1.push {cls:=.type "list_iterator",data:=.fields #[.ref l,.int 0 0]}).get? b=some o:=fun b o e=>Af _ (hk1 b o (Af _ e))
 have l1:s.heap.objs.size < h1.objs.size:=by
  obtain⟨o,es,ep,ho,rest⟩:=hd1
  exact Ap ho
 refine Ah ⟨Jv plain_loop _,?_⟩
 refine loop (A:=A.in1) (knd:=knd) (d:=s.heap.objs.size) (I:=h1.objs.size) (l:=l) (items:=items) (ps:=ps) hh (Bg l1) (Ct lt) (Bg (Ic lt l1)) hn hz items.size 0 _ [] rfl (Bv _) (Ai _) gI ⟨_,Af _ hx1,rfl,c,rfl⟩ (by
  obtain⟨o,es,ep,ho,rest⟩:=hd1
  exact⟨o,es,ep,Af _ ho,rest⟩) (fun j p hj=>?_) fun h2 tk2 hk2 hd2=>?_
 ·obtain⟨a,key,g1,⟨o,g2,g3⟩,g4⟩:=hp j p hj
  have la:=Ap g2
  exact⟨a,key,g1,Bg la,Bg (Ic la l1),⟨o,up a o g2,g3⟩,g4⟩
 ·exact⟨rfl,h h2 tk2 (fun b o e=>hk2 b o (Bg (Ap e)) (Bg (Ic (Ap e) l1)) (up b o e)) hd2⟩
end
end Dp
end PySem
namespace L3
open PySem PySem.Spec PyProof.Rows L2
section
variable {X:Cx}
def pF(kvs:List (aD×W))(ps:List (aD×W)):List (aD×W):=ps.foldl (fun kvs p=>bZ kvs p.1 p.2) kvs
def pG(ps:List (aD×W)):List W:=ps.map fun p=>.tup [wK p.1,p.2]
def tZ:List W->Mm->K3->Prop
 | [.rl ws],M,R=>∃ ps:List (aD×W),ws=pG ps/\ws.length<=Am/\lD (pF [] ps) M R
 | _,_,_=>False
theorem xW{pins:List (Addr×Obj)}{σ:L2.St}{H:Hp}{M:Mm}{s:Ag}(I:L2.Inv X pins σ H s):∀ {ps:List (aD×W)} {vs:List V} {its:List Ae},aM X.K H M vs (pG ps)->aZ vs its->
  ∃ (ks:List (aD×V)) (rs:List (aD×Ae)),bQ X.K H M aD ks ps/\KV ks rs/\rs.length=its.length/\
   ∀ (j:Nat) (p:aD×Ae),rs[j]? = some p->∃ (a:Addr) (key:Ae),its[j]? = some (.ref a)/\s.heap.IsTuple a #[key,p.2]/\(c8 X.prog X.w).is p.1 key=true
 | [],_,_,.nil,.nil=>⟨[],[],.nil,.nil,rfl,fun j p h=>by simp at h⟩
 | (k,w) :: ps,_,_,.cons av avs,.cons rv rvs=>by
  obtain⟨ks,rs,h1,h2,h3,h4⟩:=xW I avs rvs
  obtain⟨a,xs,ev,e,q⟩:=av.inv
  rw[ev] at rv
  obtain⟨u1,u2,ex,a1,a2⟩:=q.two
  obtain⟨its2,r2,pl,_⟩:=I.tuple (bL.of e)
  rw[ex,a1.key] at r2
  obtain⟨y1,y2,ey,x1,x2⟩:=vals2 r2
  rw[ey] at pl
  refine⟨(k,u2) :: ks,(k,y2) :: rs,.cons ⟨rfl,a2⟩ h1,.cons ⟨rfl,x2⟩ h2,congrArg (· + 1) h3,fun j p hj=>?_⟩
  cases j with
  | zero=>rw[<-Ci hj];exact⟨a,y1,congrArg some rv,pl,lA x1⟩
  | succ j=>exact h4 j p hj
theorem xX{H:Hp}{M:Mm}:∀ {ps:List (aD×W)} {ks:List (aD×V)} {rs:List (aD×Ae)} {kvs:List (aD×W)} {ls:List (aD×V)} {us:List (aD×Ae)},bQ X.K H M aD ks ps->KV ks rs->bQ X.K H M aD ls kvs->KV ls us->
  ∃ ls':List (aD×V),bQ X.K H M aD ls' (pF kvs ps)/\KV ls' (Dp.all us rs)/\ls'.length<=ls.length + ps.length
 | [],_,_,_,ls,_,.nil,.nil,h1,h2=>⟨ls,h1,h2,Ai _⟩
 | p :: ps,_,_,_,ls,_,.cons (a:=a) x r,.cons (b:=b) y t,h1,h2=>by
  obtain⟨k,w⟩:=p
  obtain⟨k1,v⟩:=a
  obtain⟨k2,u⟩:=b
  obtain⟨x1,x2⟩:=x
  obtain⟨y1,y2⟩:=y
  cases x1;cases y1
  obtain⟨ls',g1,g2,g3⟩:=xX (kvs:=bZ _ k w) r t (tN h1 k x2) (h2.put k y2)
  have:=oN ls k v
  exact⟨ls',g1,g2,by simp at g3 ⊢;lia⟩
theorem W7(hc:X.calm=true):dE X (.type "dict") (gQ X.K tZ):=by
 rintro pins s σ H xs us Q I rs ⟨ws,M,R,am,axs,h,k⟩
 match ws,h with
 | [.rl ws],h=>
  obtain⟨v,rfl,av⟩:=axs.one
  obtain⟨ps,rfl,hz,r⟩:=h
  obtain⟨u,rfl,ru⟩:=vals1 rs
  cases av with
  | rl f n q=>
   cases ru
   obtain⟨z,its,c,rv,hl,e⟩:=I.lstM f
   obtain⟨ks,rs',h1,h2,h3,h4⟩:=xW I q rv
   obtain⟨ls,g1,g2,g3⟩:=xX h1 h2 .nil .nil
   refine Dp.call_pairs (knd:=c8 X.prog X.w) (items:=its.toArray) (ps:=rs') (I.ok.hd hc) e (by simpa using h3) (by rw[Bb];lia) (fun j p hj=>by simpa using h4 j p hj) fun h' tk hk hd=>?_
   have hz2:ps.length<=Am:=by simpa [pG] using hz
   have hfr:=I.hok.fresh (Ai _)
   refine⟨.ref s.heap.objs.size,aS H s.heap.objs.size (.dK ls),I.laid (o:=.dK ls) (t':=tk) hk (Ai _) ⟨by simp at g3;lia,beq_eq_false_iff_ne.mpr (Bf (Bg I.big)),_,g2,hd⟩,rfl,?_⟩
   obtain⟨am2,k2⟩:=am.laid (o:=.dK (pF [] ps)) (u:=.dK ls) hfr ⟨ls,cJ,pkv_new hfr g1⟩
   exact k _ _ _ _ k2 am2 (.ref _) (r _ (am.nonM hfr))
where
 pkv_new:∀ {H:Hp} {M:Mm} {p:Addr} {ks ls:List (aD×V)} {kvs kus:List (aD×W)},H p=none->bQ X.K H M aD ks kvs->bQ X.K (aS H p (.dK ls)) (put M p (.dK kus)) aD ks kvs:=fun hp h=>oS h.keys (h.vals.newL hp)
def HJ:List W->Mm->K3->Prop
 | [.rl ws],M,R=>∃ ps:List (aD×W),ws=pG ps/\ws.length<=Am/\R (.dk (pF [] ps)) M
 | _,_,_=>False
theorem W8(hc:X.calm=true):dE X (.type "dict") (gQ X.K HJ):=by
 rintro pins s σ H xs us Q I rs ⟨ws,M,R,am,axs,h,k⟩
 match ws,h with
 | [.rl ws],h=>
  obtain⟨v,rfl,av⟩:=axs.one
  obtain⟨ps,rfl,hz,r⟩:=h
  obtain⟨u,rfl,ru⟩:=vals1 rs
  cases av with
  | rl f n q=>
   cases ru
   obtain⟨z,its,c,rv,hl,e⟩:=I.lstM f
   obtain⟨ks,rs',h1,h2,h3,h4⟩:=xW I q rv
   obtain⟨ls,g1,g2,g3⟩:=xX h1 h2 .nil .nil
   refine Dp.call_pairs (knd:=c8 X.prog X.w) (items:=its.toArray) (ps:=rs') (I.ok.hd hc) e (by simpa using h3) (by rw[Bb];lia) (fun j p hj=>by simpa using h4 j p hj) fun h' tk hk hd=>?_
   have hz2:ps.length<=Am:=by simpa [pG] using hz
   have hfr:=I.hok.fresh (Ai _)
   refine⟨.ref s.heap.objs.size,aS H s.heap.objs.size (.dK ls),I.laid (o:=.dK ls) (t':=tk) hk (Ai _) ⟨by simp at g3;lia,beq_eq_false_iff_ne.mpr (Bf (Bg I.big)),_,g2,hd⟩,rfl,?_⟩
   obtain⟨am2,k2⟩:=am.tup (u:=.dK ls) hfr
   exact k _ _ _ _ k2 am2 (.dk cJ (am.nonM hfr) g1.keys (g1.vals.newT hfr)) r
end
def bX(f:Str)(w:W):List (Str×W)->List (Str×W)
 | []=>[(f,w)]
 | (k,x) :: r=>if k=f then(k,w) :: r else(k,x) :: bX f w r
section
variable {K:Ac}{H:Hp}{M:Mm}
theorem bQ.look{f:Str}{w:W}:∀ {gs:List (Str×V)} {fs:List (Str×W)},bQ K H M Str gs fs->fs.lookup f=some w->∃ v,gs.lookup f=some v/\AV K H M v w
 | _,_,.nil,h=>by cases h
 | _,_,.cons (a:=(k,v)) (b:=(k',w')) r t,h=>by
  obtain⟨rfl,av⟩:=r
  by_cases hk:(f == k)=true
  ·simp only[Cf,hk] at h ⊢
   cases h
   exact⟨v,rfl,av⟩
  ·have hk':(f == k)=false:=by simpa using hk
   simp only[Cf,hk'] at h ⊢
   exact bQ.look t h
theorem bQ.lookN{f:Str}:∀ {gs:List (Str×V)} {fs:List (Str×W)},bQ K H M Str gs fs->fs.lookup f=none->gs.lookup f=none
 | _,_,.nil,_=>rfl
 | _,_,.cons (a:=(k,v)) (b:=(k',w')) r t,h=>by
  obtain⟨rfl,av⟩:=r
  by_cases hk:(f == k)=true
  ·simp only[Cf,hk] at h
   cases h
  ·have hk':(f == k)=false:=by simpa using hk
   simp only[Cf,hk'] at h ⊢
   exact bQ.lookN t h
theorem bQ.putF{f:Str}{v:V}{w:W}(av:AV K H M v w):∀ {gs:List (Str×V)} {fs:List (Str×W)},bQ K H M Str gs fs->bQ K H M Str (L2.putF f v gs) (bX f w fs)
 | _,_,.nil=>.cons ⟨rfl,av⟩ .nil
 | _,_,.cons (a:=(k,v')) (b:=(k',w')) r t=>by
  obtain⟨rfl,av'⟩:=r
  show bQ K H M Str (if k=f then(k,v) :: _ else(k,v') :: L2.putF f v _) (if k=f then(k,w) :: _ else(k,w') :: bX f w _)
  by_cases hk:k=f
  ·rw[if_pos hk,if_pos hk];exact .cons ⟨rfl,av⟩ t
  ·rw[if_neg hk,if_neg hk];exact .cons ⟨rfl,av'⟩ (bQ.putF av t)
theorem bQ.len{κ:Type}{gs:List (κ×V)}{fs:List (κ×W)}(h:bQ K H M κ gs fs):gs.length=fs.length:=by
 have:=congrArg Eb h.keys
 simpa using this
end
section
variable {X:Cx}{C:Addr}{f m:Str}{pos apos cpos:Pos}{ta tv:aY}{o e value:Expr}{es:List Expr}{t:dA}{sp:bJ}
def cZ(C:Addr)(ta:aY)(f:Str):aY:=fun τ M R=>ta τ M fun x M1=>∃ a dx fs w,x=.ref a/\M1 a=some (.ins C dx fs)/\fs.lookup f=some w/\R w M1
theorem dW(c:gO X.K C)(n:fX X.K C f)(he:E3 X o ta)(hb:Ja o f X.env (eval o X.env)=eval o X.env:=by rfl):E3 X (.Attribute o f pos) (cZ C ta f):=
 (PY he hb).weak fun σ H Q z0=>z0.el fun τ M R as am h k=>⟨τ,M,_,as,am,h,fun x H1 wx M1 k1 am1 ax ⟨a,dx,fs,w,e1,e2,e3,r⟩=>by
  subst e1
  obtain rfl:=ax.inv
  obtain⟨gs,e4,q⟩:=am1 a _ e2
  obtain⟨v,e5,av⟩:=q.look e3
  exact⟨a,C,dx,gs,v,rfl,e4,c,n,e5,k _ _ _ _ k1 am1 av r⟩⟩
def jX(C:Addr)(ta:aY)(f:Str)(tv:aY):aJ:=fun D τ M=>tv τ M fun y M1=>ta τ M1 fun x M2=>∃ a dx fs,x=.ref a/\M2 a=some (.ins C dx fs)/\fs.length < 1000/\D.nx τ (put M2 a (.ins C dx (bX f y fs)))
theorem kO(c:gO X.K C)(n:fX X.K C f)(ha:E3 X o ta)(hv:E3 X value tv)(hs:Jf value (some (.Attribute o f apos)) pos.line X.env=pure false:=by rfl):P3 X (.Assign [.Attribute o f apos] value pos) (jX C ta f tv):=
 (PZ ha hv hs).weak fun D σ H z0=>z0.el fun τ M D' as am h k=>⟨τ,M,_,as,am,h,fun y H1 wy M1 k1 am1 ay h1=>⟨τ,M1,_,as.kp am k1,am1,h1,fun x H2 wx M2 k2 am2 ax ⟨a,dx,fs,e1,e2,hl,r⟩=>by
  subst e1
  obtain rfl:=ax.inv
  obtain⟨gs,e4,q⟩:=am2 a _ e2
  refine⟨a,C,dx,gs,rfl,e4,c,n,by rw[q.len];exact hl,?_⟩
  obtain⟨am3,k3⟩:=am2.write (o:=.ins C dx (bX f wy fs)) (u:=.ins C dx (L2.putF f y gs)) e2 ⟨_,cJ,((q.putF (ay.kp am1 k2))).go (oT am2 e2)⟩
  exact k.nx _ _ _ _ ((k1.trans k2).trans k3) am3 (((as.kp am k1).kp am1 k2).kp am2 k3) r⟩⟩
variable {k:Nat}{g:Addr}{fd:Bl}{ps:List Str}
def iC(C:Addr)(m:Str)(sp:bJ)(ta:aY)(t:dA):aY:=fun τ M R=>ta τ M fun x M1=>∃ a dx fs,x=.ref a/\M1 a=some (.ins C dx fs)/\fs.lookup m=none/\t τ M1 fun ws M2=>sp (.ref a :: ws) M2 R
theorem W9{σ:SV}{H:Hp}{Q:VK}(h:up X.K (iC C m sp ta t) σ H Q):vX C m (f6 X.K sp) [] E0 (up X.K ta) (oU X.K t) σ H Q:=by
 obtain⟨τ,M,R,as,am,h,k⟩:=h
 refine⟨τ,M,_,as,am,h,fun x H1 wx M1 k1 am1 ax ⟨a,dx,fs,e1,e2,e3,h1⟩=>?_⟩
 subst e1
 obtain rfl:=ax.inv
 obtain⟨gs,e4,q⟩:=am1 a _ e2
 refine⟨a,dx,gs,rfl,e4,q.lookN e3,τ,M1,_,as.kp am k1,am1,h1,fun vs H2 ws M2 k2 am2 avs h2=>⟨.ref a :: ws,M2,R,am2,?_,h2,k.kp (k1.trans k2)⟩⟩
 rw[He]
 exact .cons (.ref a) avs
theorem mR{pl:Sem Bool}(c:gO X.K C)(hm:oK X.K C m g)(F:eJ X.prog X.w X.K X.mg X.base fN k g fd ps (f6 X.K sp))(hr:cH k X.A)(hb:Binds X.K fd ps [])(he:E3 X o ta)(ha:A3 X (e :: es) t)
  (hst:Bi (e :: es) X.env=(false,eval e X.env) :: Bi es X.env:=by rfl) (hpl:(Gu pos (Bi es X.env)).any (·.1)=false:=by rfl)
  (ht:eval (.Call (.Attribute o m apos) (e :: es) [] pos) X.env=(do
   let ov <-eval o X.env
   Nb apos.atName
   let (f,first) <-Hz [ov] (Nc ov m pl)
   callWith pos f first (Gu pos (Bi (e :: es) X.env)) (backToKw pos (Lc [] X.env))):=by rfl) :
  E3 X (.Call (.Attribute o m apos) (e :: es) [] pos) (iC C m sp ta t):=(QC (pl:=pl) he c hm F hr hb .nil nD ha hst hpl ht).weak fun _ _ _ h=>W9 h
theorem xY{pl:Sem Bool}(c:gO X.K C)(hm:oK X.K C m g)(F:eJ X.prog X.w X.K X.mg X.base fN k g fd ps (f6 X.K sp))(hr:cH k X.A)(hb:Binds X.K fd ps [])(he:E3 X o ta)
  (ht:eval (.Call (.Attribute o m apos) [] [] pos) X.env=(do
   let ov <-eval o X.env
   Nb apos.atName
   let (f,first) <-Hz [ov] (Nc ov m pl)
   callWith pos f first (Gu pos (Bi [] X.env)) (backToKw pos (Lc [] X.env))):=by rfl) :
  E3 X (.Call (.Attribute o m apos) [] [] pos) (iC C m sp ta aF):=(QD (pl:=pl) he c hm F hr hb .nil nD ht).weak fun σ H Q h=>by
 obtain⟨τ,M,R,as,am,h,k⟩:=h
 refine⟨τ,M,_,as,am,h,fun x H1 wx M1 k1 am1 ax ⟨a,dx,fs,e1,e2,e3,h1⟩=>?_⟩
 subst e1
 obtain rfl:=ax.inv
 obtain⟨gs,e4,q⟩:=am1 a _ e2
 exact⟨a,dx,gs,rfl,e4,q.lookN e3,[.ref a],M1,R,am1,.cons (.ref a) .nil,h1,k.kp k1⟩
def t5(C:Addr)(sp:bJ)(t:dA):aY:=fun τ M R=>t τ M fun ws M1=>∀ a dx,M1 a=none->M1 dx=none->dx≠a->sp (.ref a :: ws) (put M1 a (.ins C dx [])) fun w M2=>w=.non/\R (.ref a) M2
theorem AM.made{K:Ac}{H:Hp}{M:Mm}{x dx:Addr}(am:AM K H M)(hx:H x=none)(hd:H dx=none)(ne:dx≠x):AM K (aS (aS H dx (.own x)) x (.ins C dx [])) (put M x (.ins C dx []))/\Kp H M (aS (aS H dx (.own x)) x (.ins C dx [])) (put M x (.ins C dx [])):=by
 obtain⟨am1,k1⟩:=am.tup (u:=.own x) hd
 have hx1:aS H dx (.own x) x=none:=by rw[bF (Bf ne)];exact hx
 obtain⟨am2,k2⟩:=am1.laid (o:=.ins C dx []) (u:=.ins C dx []) hx1 ⟨[],cJ,.nil⟩
 exact⟨am2,k1.trans k2⟩
theorem HK{H:Hp}{M:Mm}{R:K3}{Q:VK}{vs:List V}{ws:List W}(am:AM X.K H M)(avs:aM X.K H M vs ws)(h:∀ a dx,M a=none->M dx=none->dx≠a->sp (.ref a :: ws) (put M a (.ins C dx [])) fun w M2=>w=.non/\R (.ref a) M2)(k:Up X.K H M R Q) :
  ∀ x dx,H x=none->H dx=none->dx≠x->f6 X.K sp (.ref x :: (vs ++ [])) (aS (aS H dx (.own x)) x (.ins C dx [])) (fun v H2=>v=.non/\Q (.ref x) H2) E0:=by
 intro x dx hx hd ne
 obtain⟨am1,k1⟩:=am.made (C:=C) hx hd ne
 refine⟨.ref x :: ws,_,_,am1,?_,h x dx (am.nonM hx) (am.nonM hd) ne,fun v H2 w M2 k2 am2 av r=>?_⟩
 ·rw[He];exact .cons (.ref x) (avs.kp am k1)
 ·obtain⟨rfl,r⟩:=r
  obtain rfl:=av.inv
  exact⟨rfl,k _ _ _ _ (k1.trans k2) am2 (.ref x) r⟩
theorem XA{x:Str}{p:Pos}(M:Mk X.K C g)(F:eJ X.prog X.w X.K X.mg X.base fN k g fd ps (f6 X.K sp))(hr:cH (k + 1) X.A)(hg:Gl X x)(hm:X.mg x=some (.ref C))(hb:Binds X.K fd ps [])(ha:A3 X (e :: es) t)
  (hdb:(x == ("__debug__" : Str))=false:=by decide) (he:Bi (e :: es) X.env=(false,eval e X.env) :: Bi es X.env:=by rfl) (hpl:(Gu pos (Bi es X.env)).any (·.1)=false:=by rfl) :
  E3 X (.Call (.Name x p) (e :: es) [] pos) (t5 C sp t):=(QE M F hr hg hm hb .nil nD ha hdb he hpl).weak fun σ H Q z0=>z0.el fun τ M R as am h k=>⟨τ,M,_,as,am,h,fun vs H1 ws M1 k1 am1 avs h1=>HK am1 avs h1 (k.kp k1)⟩
theorem XB{x:Str}{p:Pos}(M:Mk X.K C g)(F:eJ X.prog X.w X.K X.mg X.base fN k g fd ps (f6 X.K sp))(hr:cH (k + 1) X.A)(hg:Gl X x)(hm:X.mg x=some (.ref C))(hb:Binds X.K fd ps [])
  (hdb:(x == ("__debug__" : Str))=false:=by decide):E3 X (.Call (.Name x p) [] [] pos) (t5 C sp aF):=(QF M F hr hg hm hb .nil nD hdb).weak fun σ H Q z0=>z0.el fun τ M R as am h k=>HK am .nil h k
end
end L3
namespace L2
open PySem PySem.Spec PyProof.Rows
section
variable {prog:Bq}{w:Cj}{K:Type}[DecidableEq K]{knd:HeapKind prog w K}{A:Co}{E:Ae->Ag->Prop}{s:Ag}{d a:Addr}{k:K}{xs:List (K×Addr×Ae)}
theorem XC{y:Ae}{Q:Ae->Ag->Prop}(hu:knd.room A)(hkey:knd.is s.heap k a)(hm:s.heap.DictOfH knd d xs)(hsz:xs.length<=Am)
  (h1:∀ p,Lr xs k=some p->Q p.2 {s with toks:=s.toks + knd.draws k})
  (h2:Lr xs k=none->∀ h',h'.DictOfH knd d (Mh xs k a y)->Ff d s.heap h'->Q y {s with heap:=h',toks:=s.toks + knd.draws k}) :
  Bc (Bn prog w) A (dictSetDefault d (.ref a) y) Q E s:=by
 obtain⟨o,es,ep,ho,hc,hd,he,his,hn⟩:=hm
 unfold dictSetDefault
 refine Dg (Aa (knd.pyHash hu hkey (Aa (wpAny_dictFind_heap (s:={s with toks:=s.toks + knd.draws k}) hu hkey ho hd he his hn (fun hno=>?_) fun j p hj=>?_))))
 ·have hk:=atKey_none_of_get hno
  have hnot:k∉xs.map (·.1):=not_mem_keys_of_get hno
  refine Aa (Fw (Aa (wpAny_updateDictKeys (hz:=by have e:=Mr he;lia) (s:={s with toks:=s.toks + knd.draws k}) ho hd (Ah (h2 hk _ ⟨_,_,ep + 1,Eo _ ho (Obj.isFreed_of_dict (Jq hd _)),
   hc.mapDictKeys _,Jq hd _,?_,fun x hx=>?_,?_⟩ (Ex ..))))))
  ·rw[storedH_new hk]
   simp[he,entryOfKey]
  ·rw[storedH_new hk] at hx
   rcases Bo.mp hx with q | q
   ·exact knd.keeps (his x q) ho hd (Ex ..)
   ·obtain rfl:=Aw.mp q
    exact knd.keeps hkey ho hd (Ex ..)
  ·rw[storedH_new hk,Ax,Ef]
   refine⟨hn,by simp,fun x hx y hy=>?_⟩
   simp only[Ay,Fv,Aw] at hy
   subst hy
   exact fun e=>hnot (e ▸ hx)
 ·refine Aa (Hy (s:={s with toks:=s.toks + knd.draws k}) ho hd ?_)
  rw[entry_at he j,hj]
  exact Aa (Fw (Ah (h1 p (atKey_of_get hn hj))))
theorem HL:∀ {xs:List (K×Addr×Ae)} {j:Nat} {p:Addr×Ae},(xs.map (·.1)).Nodup->xs[j]? = some (k,p)->xs.eraseIdx j=xs.filter fun x=>decide (x.1≠k)
 | [],j,p,_,h=>by simp at h
 | x :: r,0,p,hn,h=>by
  have e:x=(k,p):=by simpa using h
  subst e
  rw[Ay,Cr] at hn
  rw[List.eraseIdx_zero,List.tail_cons,List.filter_cons_of_neg (by simp)]
  refine(List.filter_eq_self.mpr fun y hy=>?_).symm
  rw[decide_eq_true_eq]
  exact fun e=>hn.1 (Ba.mpr ⟨y,hy,e⟩)
 | x :: r,j + 1,p,hn,h=>by
  rw[Ay,Cr] at hn
  have hj:r[j]? = some (k,p):=by simpa using h
  have hx:x.1≠k:=fun e=>hn.1 (Ba.mpr ⟨(k,p),Be hj,e.symm⟩)
  rw[List.eraseIdx_cons_succ,HL hn.2 hj,List.filter_cons_of_pos (by simpa using hx)]
theorem XD{v:Ae}{b:Addr}{Q:Option Hu->Ag->Prop}(hu:knd.room A)(hkey:knd.is s.heap k a)(hm:s.heap.DictOfH knd d xs)(hsz:xs.length<=Am)(hv:Lr xs k=some (b,v))
  (h:∀ h',h'.DictOfH knd d (xs.filter fun x=>decide (x.1≠k))->Ff d s.heap h'->Q (some ⟨knd.hash k,.ref b,v⟩) {s with heap:=h',toks:=s.toks + knd.draws k}) :
  Bc (Bn prog w) A (Builtin.Dict.takeOut d (.ref a)) Q E s:=by
 obtain⟨o,es,ep,ho,hc,hd,he,his,hn⟩:=hm
 unfold Builtin.Dict.takeOut
 refine Dg (Aa (knd.pyHash hu hkey (Aa (wpAny_dictFind_heap (s:={s with toks:=s.toks + knd.draws k}) hu hkey ho hd he his hn (fun hno=>?_) fun j p hj=>?_))))
 ·rw[atKey_none_of_get hno] at hv;cases hv
 ·rw[atKey_of_get hn hj] at hv
  cases hv
  have hej:=HL hn hj
  refine Aa (Hy (s:={s with toks:=s.toks + knd.draws k}) ho hd ?_)
  rw[entry_at he j,hj]
  refine Aa (wpAny_updateDictKeys (hz:=by have e:=Mr he;lia) (s:={s with toks:=s.toks + knd.draws k}) ho hd (Ah (h _ ⟨_,_,ep + 1,Eo _ ho (Obj.isFreed_of_dict (Jq hd _)),
   hc.mapDictKeys _,Jq hd _,?_,fun x hx=>knd.keeps (his x (Es.mp hx).1) ho hd (Ex ..),?_⟩ (Ex ..))))
  ·rw[<-hej]
   have e2:(xs.eraseIdx j).map (entryOfKey knd)=(xs.map (entryOfKey knd)).eraseIdx j:=by simp[List.eraseIdx_eq_take_drop_succ,Kn,Mv]
   rw[e2,<-he]
   obtain⟨l⟩:=es
   simp
  ·exact hn.sublist (List.filter_sublist.map _)
end
section
variable {X:Cx}{pins:List (Addr×Obj)}{σ:St}{H:Hp}{s:Ag}{a b:Addr}{v:V}{r:Ae}{A:Co}{E:Ae->Ag->Prop}{kvs:List (List aD×V)}{k:List aD}
theorem KT.drop{xs:List (List aD×Addr×Ae)}(rel:KT H kvs xs)(k:List aD):KT H (nB kvs k) (xs.filter fun x=>decide (x.1≠k)):=by
 induction rel with
 | nil=>exact .nil
 | @cons p q ps qs h t ih=>
  unfold nB at ih ⊢
  rw[Ed,Ed,<-h.1]
  split
  ·exact .cons h ih
  ·exact ih
theorem XE{Q:Ae->Ag->Prop}(hu:A.units + 1 < Fm)(I:Inv X pins σ H s)(e:H a=some (.dT kvs))(eb:H b=some (.tup (k.map kV)))(rv:RelV v r)(hl:kvs.length < Am)
  (h1:∀ v0 w' s',fY kvs k=some v0->Inv X pins σ H s'->RelV v0 w'->Q w' s') (h2:fY kvs k=none->∀ s',Inv X pins σ (aS H a (.dT (eA kvs k v))) s'->Q r s') :
  Bc (Bn X.prog X.w) A (call (.builtin "dict.setdefault") [.ref a,.ref b,r]) Q E s:=by
 obtain⟨z,hd,xs,rel,dd⟩:=sQ I.hok e
 have hz:xs.length<=Am:=by rw[<-Ei rel];exact z
 have hv:=rel.val k
 refine Kk PySem.F.slot_dict_setdefault dd.typeIs PySem.F.entry_dict_setdefault (PySem.F.args_dict_setdefault_3 _ _ _)
  (S:=fun A R s1=>(Fu (c8 X.prog X.w)).room A.in1/\(Fu (c8 X.prog X.w)).is s1.heap k b/\s1.heap.DictOfH (Fu (c8 X.prog X.w)) a xs/\
   (∀ p,Lr xs k=some p->R (.ok (.ret p.2)) {s1 with toks:=s1.toks + (k.length + 1)})/\
   (Lr xs k=none->∀ h',h'.DictOfH (Fu (c8 X.prog X.w)) a (Mh xs k b r)->Ff a s1.heap h'->R (.ok (.ret r)) {s1 with heap:=h',toks:=s1.toks + (k.length + 1)}))
  (.of_wp fun A R s1 ⟨q0,q1,q2,q3,q4⟩=>?_) ⟨Fb hu,jP I.hok eb,dd,fun p hp=>?_,fun hn h' dd' hs=>?_⟩
 ·unfold Gx.«dict.setdefault»
  refine Aa ?_
  unfold Builtin.Dict.keyAndDefault
  refine Aa (Hv q2.typeIs ?_)
  refine Ah ?_
  dsimp only
  rw[if_neg (by rw[hd];exact Ao)]
  exact Aa (XC q0 q1 q2 hz (fun p hp=>Ah ⟨_,rfl,q3 p hp⟩) fun hn h' hm' hs'=>Ah ⟨_,rfl,q4 hn h' hm' hs'⟩)
 ·rw[hp] at hv
  cases q:fY kvs k with
  | none=>rw[q] at hv;exact(show False from hv).elim
  | some v0=>rw[q] at hv;exact h1 v0 _ _ q (I.tok _) hv
 ·rw[hn] at hv
  have q:fY kvs k=none:=by
   cases q:fY kvs k with
   | none=>rfl
   | some v0=>rw[q] at hv;exact(show False from hv).elim
  have hl':(eA kvs k v).length<=Am:=by have:=oN kvs k v;lia
  obtain⟨q1,es,ep,hq,g2,g3,g4,_,g5⟩:=dd'
  refine h2 q _ (oO (t':=s.toks + (k.length + 1)) I (by rw[e];exact True.intro) hs ⟨q1,hq⟩ ⟨hl',hd,_,(rel.put k eb rv).keeps fun c ys ec=>?_,q1,es,ep,hq,g2,g3,g4,g5⟩)
  rw[bF (r9 ec e (fun z=>nomatch z))]
  exact ec
theorem XF{Q:Ae->Ag->Prop}(hu:A.units + 1 < Fm)(I:Inv X pins σ H s)(e:H a=some (.dT kvs))(eb:H b=some (.tup (k.map kV)))(l:fY kvs k=some v)
  (h:∀ w' s',Inv X pins σ (aS H a (.dT (nB kvs k))) s'->RelV v w'->Q w' s'):Bc (Bn X.prog X.w) A (call (.builtin "dict.pop") [.ref a,.ref b]) Q E s:=by
 obtain⟨z,hd,xs,rel,dd⟩:=sQ I.hok e
 have hz:xs.length<=Am:=by rw[<-Ei rel];exact z
 obtain⟨w',hw,rw'⟩:=fM.some_of (v:=v) (o:=(Lr xs k).map (·.2)) (by rw[<-l];exact rel.val k)
 obtain⟨⟨c,w2⟩,hc,rfl⟩:=Bj.mp hw
 refine Kk PySem.F.slot_dict_pop dd.typeIs PySem.F.entry_dict_pop (PySem.F.args_dict_pop_2 _ _)
  (S:=fun A R s1=>(Fu (c8 X.prog X.w)).room A.in1/\(Fu (c8 X.prog X.w)).is s1.heap k b/\s1.heap.DictOfH (Fu (c8 X.prog X.w)) a xs/\
   ∀ h',h'.DictOfH (Fu (c8 X.prog X.w)) a (xs.filter fun x=>decide (x.1≠k))->Ff a s1.heap h'->R (.ok (.ret w2)) {s1 with heap:=h',toks:=s1.toks + (k.length + 1)})
  (.of_wp fun A R s1 ⟨q0,q1,q2,q3⟩=>?_) ⟨Fb hu,jP I.hok eb,dd,fun h' dd' hs=>?_⟩
 ·unfold Gx.«dict.pop»
  refine Aa ?_
  unfold Builtin.Dict.keyAndDefault
  refine Aa (Hv q2.typeIs ?_)
  refine Ah ?_
  dsimp only
  rw[if_neg (show ¬ ((keyPart (Value.ref b)).isSome=true) from Ao)]
  obtain⟨o,es,ep,ho,hc',hd',he,his,hn⟩:=id q2
  have hne:es.isEmpty=false:=by
   have h1:=Mr he
   cases xs with
   | nil=>cases hc
   | cons x r=>rw[Array.isEmpty_eq_false_iff];intro z;rw[z] at h1;simp at h1
  refine Aa (Hy ho hd' ?_)
  refine Aa (Ah ?_)
  rw[hne,if_neg Ao]
  refine Aa (XD q0 q1 q2 hz hc fun h' hm' hs'=>?_)
  rw[if_neg (by simp)]
  exact Aa (Mz (Ah ⟨_,rfl,q3 h' hm' hs'⟩))
 ·obtain⟨q1,es,ep,hq,g2,g3,g4,_,g5⟩:=dd'
  refine h w2 _ (oO (t':=s.toks + (k.length + 1)) I (by rw[e];exact True.intro) hs ⟨q1,hq⟩ ⟨Bh (RX kvs k) z,hd,_,(rel.drop k).keeps fun c ys ec=>?_,q1,es,ep,hq,g2,g3,g4,g5⟩) rw'
  rw[bF (r9 ec e (fun z=>nomatch z))]
  exact ec
end
end L2
namespace L3
open PySem PySem.Spec PyProof.Rows L2
section
variable {X:Cx}
def mS:W->List W->Mm->K3->Prop
 | d,[y],M,R=>∃ o,eZ M d y o/\R (o.getD .non) M
 | d,[y,v],M,R=>∃ o,eZ M d y o/\R (o.getD v) M
 | _,_,_,_=>False
theorem pH(hu:X.A.units + 1 < Fm):kC X "dict.get" (l9 X.K mS):=by
 rintro pins s σ H x xs v us Q I rx rs ⟨wx,ws,M,R,am,ax,axs,h,k⟩
 match ws,h with
 | [y],h=>
  obtain⟨z,rfl,az⟩:=axs.one
  obtain⟨o,g,r⟩:=h
  obtain⟨a,rfl,g2⟩:=tO am ax az g
  cases rx
  obtain⟨u,rfl,ru⟩:=rs.one
  rcases g2 with⟨rfl,g3⟩ | ⟨v0,w0,rfl,g3,av⟩
  ·exact EV hu I g3 ru fun w' s' I' rw'=>⟨_,H,I',rw',k.at am .non r⟩
  ·exact EV hu I g3 ru fun w' s' I' rw'=>⟨_,H,I',rw',k.at am av r⟩
 | [y,v1],h=>
  obtain⟨z,z1,rfl,az,az1⟩:=axs.two
  obtain⟨o,g,r⟩:=h
  obtain⟨a,rfl,g2⟩:=tO am ax az g
  cases rx
  obtain⟨u,u1,rfl,ru,ru1⟩:=vals2 rs
  rcases g2 with⟨rfl,g3⟩ | ⟨v0,w0,rfl,g3,av⟩
  ·exact EW hu I g3 ru ru1 fun w' s' I' rw'=>⟨_,H,I',rw',k.at am az1 r⟩
  ·exact EW hu I g3 ru ru1 fun w' s' I' rw'=>⟨_,H,I',rw',k.at am av r⟩
def pI:W->List W->Mm->K3->Prop
 | .ref a,[.tup ks,v],M,R=>∃ kvs k,M a=some (.dT kvs)/\ks=k.map wK/\kvs.length < Am/\(∀ w,a9 kvs k=some w->R w M)/\(a9 kvs k=none->R v (put M a (.dT (bZ kvs k v))))
 | _,_,_,_=>False
theorem xZ(hu:X.A.units + 1 < Fm):kC X "dict.setdefault" (l9 X.K pI):=by
 rintro pins s σ H x xs v us Q I rx rs ⟨wx,ws,M,R,am,ax,axs,h,k⟩
 match wx,ws,h with
 | .ref a,[.tup ks,v1],h=>
  obtain⟨z,z1,rfl,az,az1⟩:=axs.two
  obtain⟨kvs,kk,e,rfl,hl,h1,h2⟩:=h
  obtain rfl:=ax.inv
  cases rx
  obtain⟨u,u1,rfl,ru,ru1⟩:=vals2 rs
  obtain⟨gs,e1,q⟩:=am _ _ e
  cases az with
  | @tup b vs _ eb qb=>
   cases (show u=Value.ref b from ru)
   rw[qb.keys] at eb
   have lk:=tM q kk
   refine XE hu I e1 eb ru1 (by rw[q.len];exact hl) (fun v0 w' s' e2 I' rw'=>?_) fun e2 s' I'=>?_
   ·rcases lk with⟨_,l2⟩ | ⟨v2,w2,l1,l2,av⟩
    ·rw[l2] at e2;cases e2
    ·rw[l2] at e2;cases e2
     exact⟨_,H,I',rw',k.at am av (h1 w2 l1)⟩
   ·rcases lk with⟨l1,l2⟩ | ⟨v2,w2,l1,l2,av⟩
    ·obtain⟨am3,k3⟩:=am.write (o:=.dT (bZ kvs kk v1)) (u:=.dT (eA gs kk z1)) e ⟨_,cJ,(tN q kk az1).go (oT am e)⟩
     exact⟨_,_,I',ru1,k _ _ _ _ k3 am3 (az1.wr am e) (h2 l1)⟩
    ·rw[l2] at e2;cases e2
def jG{κ:Type}[DecidableEq κ](kvs:List (κ×W))(k:κ):List (κ×W):=kvs.filter fun kv=>decide (kv.1≠k)
theorem XG{κ:Type}[DecidableEq κ]{K:Ac}{H:Hp}{M:Mm}{gs:List (κ×V)}{kvs:List (κ×W)}(h:bQ K H M κ gs kvs)(k:κ):bQ K H M κ (nB gs k) (jG kvs k):=by
 induction h with
 | nil=>exact .nil
 | @cons p q ps qs r t ih=>
  unfold nB jG at ih ⊢
  rw[Ed,Ed,<-r.1]
  split
  ·exact .cons r ih
  ·exact ih
def HM:W->List W->Mm->K3->Prop
 | .ref a,[.tup ks],M,R=>∃ kvs k w,M a=some (.dT kvs)/\ks=k.map wK/\a9 kvs k=some w/\R w (put M a (.dT (jG kvs k)))
 | _,_,_,_=>False
theorem XH(hu:X.A.units + 1 < Fm):kC X "dict.pop" (l9 X.K HM):=by
 rintro pins s σ H x xs v us Q I rx rs ⟨wx,ws,M,R,am,ax,axs,h,k⟩
 match wx,ws,h with
 | .ref a,[.tup ks],h=>
  obtain⟨z,rfl,az⟩:=axs.one
  obtain⟨kvs,kk,w,e,rfl,l,r⟩:=h
  obtain rfl:=ax.inv
  cases rx
  obtain⟨u,rfl,ru⟩:=rs.one
  obtain⟨gs,e1,q⟩:=am _ _ e
  cases az with
  | @tup b vs _ eb qb=>
   cases (show u=Value.ref b from ru)
   rw[qb.keys] at eb
   rcases tM q kk with⟨l1,l2⟩ | ⟨v2,w2,l1,l2,av⟩
   ·rw[l1] at l;cases l
   ·rw[l1] at l;cases l
    obtain⟨am3,k3⟩:=am.write (o:=.dT (jG kvs kk)) (u:=.dT (nB gs kk)) e ⟨_,cJ,(XG q kk).go (oT am e)⟩
    exact XF hu I e1 eb l2 fun w' s' I' rw'=>⟨_,_,I',rw',k _ _ _ _ k3 am3 (av.wr am e) r⟩
end
section
variable {K:Ac}{H:Hp}{M:Mm}
theorem XI(k:aD):AV K H M (kV k) (wK k):=by cases k <;> first | exact .int _ | exact .str _
theorem HN:∀ ks:List aD,aM K H M (ks.map kV) (ks.map wK)
 | []=>.nil
 | k :: r=>.cons (XI k) (HN r)
end
end L3
namespace PySem
namespace Zd
open PyProof.Rows L2 PySem.Spec Zt
section
variable {prog:Bq}{w:Cj}{A:Co}{E:Ae->Ag->Prop}{s:Ag}
variable {z TI TO i1 i2 l1 l2:Addr}{xs ys:Array Ae}{S1 S2:Nat->Heap->Prop}
abbrev TK(prog:Bq)(w:Cj):=Fu (c8 prog w)
def allH(es:List (List aD×Addr×Ae))(ps:List (List aD×Addr×Ae)):List (List aD×Addr×Ae):=ps.foldl (fun es p=>Mh es p.1 p.2.1 p.2.2) es
theorem HP(es:List (List aD×Addr×Ae))(k:List aD)(a:Addr)(v:Ae):(Mh es k a v).length<=es.length + 1:=by
 unfold Mh
 split
 ·rw[Ab];omega
 ·rw[Ak,Bk];exact Ai _
theorem qZ{h h':Heap}{k:List aD}{a:Addr}(x:(TK prog w).is h k a)(e:∀ o,h.get? a=some o->h'.get? a=some o):(TK prog w).is h' k a:=by
 obtain⟨o,items,n,ho,r⟩:=x
 exact⟨o,items,n,e o ho,r⟩
end
end Zd
end PySem
namespace L2
open PySem PySem.Spec PyProof.Rows
def nQ(ks:List (List aD×V))(ps:List (List aD×V)):List (List aD×V):=ps.foldl (fun k p=>eA k p.1 p.2) ks
theorem XJ{H:Hp}{qs:List (List aD×Addr×V)}{ps:List (List aD×Addr×Ae)}(h:Ha (fun(q:List aD×Addr×V) (p:List aD×Addr×Ae)=>q.1=p.1/\q.2.1=p.2.1/\RelV q.2.2 p.2.2) qs ps) :
  ∀ {kvs:List (List aD×V)} {es:List (List aD×Addr×Ae)},(∀ q∈qs,H q.2.1=some (.tup (q.1.map kV)))->KT H kvs es->KT H (nQ kvs (qs.map fun q=>(q.1,q.2.2))) (Zd.allH es ps):=by
 induction h with
 | nil=>intro kvs es _ k;exact k
 | @cons q p qs ps r t ih=>
  intro kvs es hq k
  obtain⟨q1,q2,q3⟩:=q
  obtain⟨p1,p2,p3⟩:=p
  obtain⟨rfl,rfl,r3⟩:=r
  exact ih (fun z hz=>hq z (Au _ hz)) (k.put q1 (hq _ Bd) r3)
theorem HQ:∀ (ps:List (List aD×V)) (ks:List (List aD×V)),(nQ ks ps).length<=ks.length + ps.length
 | [],ks=>Ai _
 | p :: ps,ks=>by
  have h1:=HQ ps (eA ks p.1 p.2)
  have h2:=oN ks p.1 p.2
  show(nQ (eA ks p.1 p.2) ps).length<=ks.length + (ps.length + 1)
  omega
end L2
namespace L3
open PySem PySem.Spec PyProof.Rows L2
def pJ(kvs:List (List aD×W))(ps:List (List aD×W)):List (List aD×W):=ps.foldl (fun kvs p=>bZ kvs p.1 p.2) kvs
structure Dm(K:Ac)(C:Addr)(x qual:Str)(st:Stmt)(ps:List Str)(f:Addr)(fd:Bl):Prop where
 fn:kF K x qual st f fd
 me:oK K C x f
 bi:Binds K fd ps []
structure Di(K:Ac)(C:Addr)(x qual:Str)(st:Stmt)(ps:List Str)(f:Addr)(fd:Bl):Prop where
 fn:kF K x qual st f fd
 mak:Mk K C f
 bi:Binds K fd ps []
theorem XM{A:Co}{k:Nat}(hr:cH k A):A.units + 2 < Fm:=by have:=hr.un;omega
end L3
namespace L2
open PySem PySem.Spec PyProof.Rows
def gU(a b:Int×Int):Bool:=decide (a.1 < b.1) || (decide (a.1=b.1) && decide (a.2 < b.2))
section
variable {prog:Bq}{w:Cj}{A:Co}{E:Ae->Ag->Prop}{s:Ag}
theorem XN{a b:Addr}{oa ob:Obj}{xs ys:Array Ae}{na nb:Nat}{x1 x2 y1 y2:Int}{t1 t2 u1 u2:Tok}{Q:Ae->Ag->Prop}(hu:A.units + 1 < Fm)(hoa:s.heap.get? a=some oa)(hca:oa.cls=.type "tuple")(hda:oa.data=.seq xs na)(hob:s.heap.get? b=some ob)(hcb:ob.cls=.type "tuple")(hdb:ob.data=.seq ys nb)
  (ex:xs.toList=[.int x1 t1,.int x2 t2]) (ey:ys.toList=[.int y1 u1,.int y2 u2]) (h:Q (.bool (gU (x1,x2) (y1,y2))) s):Bc (Bn prog w) A (Ce .Lt (.ref a) (.ref b)) Q E s:=by
 have hTa:s.TypeIs (.ref a) "tuple":=⟨oa,hoa,hca⟩
 have hTb:s.TypeIs (.ref b) "tuple":=⟨ob,hob,hcb⟩
 show Bc _ _ (richCompare .Lt (.ref a) (.ref b)) Q E s
 refine wpAny_richCompare_same_room (op:=.Lt) hTa hTb PySem.F.slot_tuple_lt (Cz PySem.F.slot_tuple_lt hTa PySem.F.entry_tuple_lt ?_ (PySem.F.args_tuple_lt_2 _ _)) (Nat.lt_of_succ_lt hu)
 show Bc _ _ (isInstance (.ref b) (.type "tuple") >>= _) _ _ s
 refine Aa (Gy hTb isSubtype_tuple_tuple ?_)
 simp only[Jo,Ds,if_false]
 refine Aa (Kq hoa hda ?_)
 refine Aa (Kq hob hdb ?_)
 refine Aa ?_
 rw[ex,ey]
 show Bc _ _ (forIn [(Value.int x1 t1,Value.int y1 u1),(Value.int x2 t2,Value.int y2 u2)] _ _) _ _ s
 have hsz:xs.size=2/\ys.size=2:=by
  have h1:=congrArg Eb ex
  have h2:=congrArg Eb ey
  simp at h1 h2
  exact⟨h1,h2⟩
 refine wpAny_forIn_list _
  (fun rest q s'=>q.1=none/\s'=s/\(rest=[(Value.int x1 t1,Value.int y1 u1),(Value.int x2 t2,Value.int y2 u2)]\/(rest=[(Value.int x2 t2,Value.int y2 u2)]/\x1=y1)\/(rest=[]/\x1=y1/\x2=y2)))
  _ ?_ ?_ _ _ ⟨rfl,rfl,.inl rfl⟩
 ·rintro⟨u,v⟩ rest q s' ⟨hq,rfl,hc⟩
  rcases hc with z | ⟨z,e1⟩ | ⟨z,_⟩
  ·simp only[Cs,Dl] at z
   obtain⟨⟨rfl,rfl⟩,rfl⟩:=z
   refine Aa (Jt ?_)
   by_cases e1:x1=y1
   ·rw[show(x1 == y1)=true by simpa using e1]
    simp only[Jo,Ds,if_false]
    exact Ah ⟨rfl,rfl,by simp[e1]⟩
   ·rw[show(x1 == y1)=false by simpa using e1]
    simp only[Mg,if_true]
    have e:gU (x1,x2) (y1,y2)=decide (x1 < y1):=by simp[gU,e1]
    rw[e] at h
    refine Aa (Fw (Aa (PyProof.Rows.lt_int ?_)))
    exact Aa (Ah (Ah (Ah ⟨_,rfl,(fun e=>nomatch e),h⟩)))
  ·simp only[Cs,Dl] at z
   obtain⟨⟨rfl,rfl⟩,rfl⟩:=z
   refine Aa (Jt ?_)
   by_cases e2:x2=y2
   ·rw[show(x2 == y2)=true by simpa using e2]
    simp only[Jo,Ds,if_false]
    exact Ah ⟨rfl,rfl,by simp[e1,e2]⟩
   ·rw[show(x2 == y2)=false by simpa using e2]
    simp only[Mg,if_true]
    have e:gU (x1,x2) (y1,y2)=decide (x2 < y2):=by simp[gU,e1]
    rw[e] at h
    refine Aa (Fw (Aa (PyProof.Rows.lt_int ?_)))
    exact Aa (Ah (Ah (Ah ⟨_,rfl,(fun e=>nomatch e),h⟩)))
  ·cases z
 ·rintro⟨q1,q2⟩ s' ⟨hq,rfl,hc⟩
  simp only at hq
  subst hq
  rcases hc with z | ⟨z,_⟩ | ⟨_,e1,e2⟩
  ·cases z
  ·cases z
  ·refine Ah ⟨_,rfl,(fun e=>nomatch e),?_⟩
   subst e1;subst e2
   have e:gU (x1,x2) (x1,x2)=decide (xs.size < ys.size):=by rw[hsz.1,hsz.2];simp[gU]
   rw[e] at h
   exact h
theorem XO{a b:Addr}{oa ob:Obj}{xs ys:Array Ae}{na nb:Nat}{x1 x2 y1 y2:Int}{t1 t2 u1 u2:Tok}{Q:Ae->Ag->Prop}(hu:A.units + 1 < Fm)(hoa:s.heap.get? a=some oa)(hca:oa.cls=.type "tuple")(hda:oa.data=.seq xs na)(hob:s.heap.get? b=some ob)(hcb:ob.cls=.type "tuple")(hdb:ob.data=.seq ys nb)
  (ex:xs.toList=[.int x1 t1,.int x2 t2]) (ey:ys.toList=[.int y1 u1,.int y2 u2]) (h:Q (.bool (gU (y1,y2) (x1,x2))) s):Bc (Bn prog w) A (Ce .Gt (.ref a) (.ref b)) Q E s:=by
 have hTa:s.TypeIs (.ref a) "tuple":=⟨oa,hoa,hca⟩
 have hTb:s.TypeIs (.ref b) "tuple":=⟨ob,hob,hcb⟩
 show Bc _ _ (richCompare .Gt (.ref a) (.ref b)) Q E s
 refine wpAny_richCompare_same_room (op:=.Gt) hTa hTb PySem.F.slot_tuple_gt (Cz PySem.F.slot_tuple_gt hTa PySem.F.entry_tuple_gt ?_ (PySem.F.args_tuple_gt_2 _ _)) (Nat.lt_of_succ_lt hu)
 show Bc _ _ (isInstance (.ref b) (.type "tuple") >>= _) _ _ s
 refine Aa (Gy hTb isSubtype_tuple_tuple ?_)
 simp only[Jo,Ds,if_false]
 refine Aa (Kq hoa hda ?_)
 refine Aa (Kq hob hdb ?_)
 refine Aa ?_
 rw[ex,ey]
 show Bc _ _ (forIn [(Value.int x1 t1,Value.int y1 u1),(Value.int x2 t2,Value.int y2 u2)] _ _) _ _ s
 have hsz:xs.size=2/\ys.size=2:=by
  have h1:=congrArg Eb ex
  have h2:=congrArg Eb ey
  simp at h1 h2
  exact⟨h1,h2⟩
 refine wpAny_forIn_list _
  (fun rest q s'=>q.1=none/\s'=s/\(rest=[(Value.int x1 t1,Value.int y1 u1),(Value.int x2 t2,Value.int y2 u2)]\/(rest=[(Value.int x2 t2,Value.int y2 u2)]/\x1=y1)\/(rest=[]/\x1=y1/\x2=y2)))
  _ ?_ ?_ _ _ ⟨rfl,rfl,.inl rfl⟩
 ·rintro⟨u,v⟩ rest q s' ⟨hq,rfl,hc⟩
  rcases hc with z | ⟨z,e1⟩ | ⟨z,_⟩
  ·simp only[Cs,Dl] at z
   obtain⟨⟨rfl,rfl⟩,rfl⟩:=z
   refine Aa (Jt ?_)
   by_cases e1:x1=y1
   ·rw[show(x1 == y1)=true by simpa using e1]
    simp only[Jo,Ds,if_false]
    exact Ah ⟨rfl,rfl,by simp[e1]⟩
   ·rw[show(x1 == y1)=false by simpa using e1]
    simp only[Mg,if_true]
    have e:gU (y1,y2) (x1,x2)=decide (y1 < x1):=by simp[gU,Bf e1]
    rw[e] at h
    refine Aa (Fw (Aa (PyProof.Rows.gt_int ?_)))
    exact Aa (Ah (Ah (Ah ⟨_,rfl,(fun e=>nomatch e),h⟩)))
  ·simp only[Cs,Dl] at z
   obtain⟨⟨rfl,rfl⟩,rfl⟩:=z
   refine Aa (Jt ?_)
   by_cases e2:x2=y2
   ·rw[show(x2 == y2)=true by simpa using e2]
    simp only[Jo,Ds,if_false]
    exact Ah ⟨rfl,rfl,by simp[e1,e2]⟩
   ·rw[show(x2 == y2)=false by simpa using e2]
    simp only[Mg,if_true]
    have e:gU (y1,y2) (x1,x2)=decide (y2 < x2):=by simp[gU,e1]
    rw[e] at h
    refine Aa (Fw (Aa (PyProof.Rows.gt_int ?_)))
    exact Aa (Ah (Ah (Ah ⟨_,rfl,(fun e=>nomatch e),h⟩)))
  ·cases z
 ·rintro⟨q1,q2⟩ s' ⟨hq,rfl,hc⟩
  simp only at hq
  subst hq
  rcases hc with z | ⟨z,_⟩ | ⟨_,e1,e2⟩
  ·cases z
  ·cases z
  ·refine Ah ⟨_,rfl,(fun e=>nomatch e),?_⟩
   subst e1;subst e2
   have e:gU (x1,x2) (x1,x2)=decide (xs.size > ys.size):=by rw[hsz.1,hsz.2];simp[gU]
   rw[e] at h
   exact h
end
section
variable {X:Cx}
def rInsert:V->List V->Hp->VK->Prop:=fun x vs H Q=>∃ l xs y i,x=.ref l/\vs=[.int (i:Nat),y]/\H l=some (.lst xs)/\xs.length < Am/\i<=xs.length/\Q .non (aS H l (.lst (xs.take i ++ y :: xs.drop i)))
theorem aZ.splitAt:∀ {xs:List V} {us:List Ae} (i:Nat),aZ xs us->aZ (xs.take i) (us.take i)/\aZ (xs.drop i) (us.drop i)
 | _,_,0,h=>⟨.nil,h⟩
 | _,_,i + 1,.nil=>⟨.nil,.nil⟩
 | _,_,i + 1,.cons r t=>by
  obtain⟨h1,h2⟩:=aZ.splitAt i t
  exact⟨.cons r h1,h2⟩
theorem XQ:v7 X "list.insert" rInsert:=by
 intro pins s σ H x vs v us Q I rx rv h
 obtain⟨l,xs,y,i,rfl,rfl,hH,hz,hi,q⟩:=h
 cases rx
 obtain⟨u1,u2,rfl,r1,r2⟩:=vals2 rv
 obtain⟨tk,rfl⟩:=r1
 obtain⟨z,its,n,r,hl,e⟩:=I.lstM hH
 have hlen:its.length=xs.length:=r.length.symm
 have hs:Am=16777216:=Jz
 have hc0:¬ (!Builtin.List.listFitsIndex ((i:Nat):Int))=true:=by
  have h1:Gw ((i:Nat):Int)=true:=by
   unfold Gw
   rw[Cm,decide_eq_true_eq,decide_eq_true_eq]
   lia
  rw[h1];decide
 have hs1:its.toArray.size<=Am:=by rw[Bb];lia
 generalize hj:((i:Nat):Int)=j at hc0 e ⊢
 have hm:=PySem.AutoSeq1.list_insert_list_int_val_1 l its.toArray n j tk u2 hc0 hs1
 refine Mi F.slot_list_insert ⟨_,e,rfl⟩ F.entry_list_insert (F.args_list_insert_3 _ _ _) hm ⟨e,?_⟩
 obtain⟨h1,h2⟩:=aZ.splitAt i r
 refine⟨.non,_,I.lset (its':=its.take i ++ u2 :: its.drop i) hH e ?_ (h1.append (.cons r2 h2)) ?_,rfl,q⟩
 ·have hk:(if j < 0 then(j + (its.toArray.size:Int)).toNat else min j.toNat its.toArray.size)=i:=by
   rw[<-hj,if_neg (by lia),Dy,Bb];lia
  show(its.toArray.extract 0 (if j < 0 then(j + (its.toArray.size:Int)).toNat else min j.toNat its.toArray.size)).push u2 ++ its.toArray.extract (if j < 0 then(j + (its.toArray.size:Int)).toNat else min j.toNat its.toArray.size)=_
  rw[hk]
  apply Array.toList_inj.mp
  simp[Array.toList_append,Array.toList_push]
  rw[Fd (by rw[Ga];lia)]
 ·rw[Ak,Bs,Cb,Ga]
  lia
end
end L2
namespace L3
open PySem PySem.Spec PyProof.Rows L2
section
variable {X:Cx}
def yA:R3:=fun x y M R=>∃ a b c d:Int,x=.tup [.int a,.int b]/\y=.tup [.int c,.int d]/\R (.bl (gU (a,b) (c,d))) M
def HR:R3:=fun x y M R=>∃ a b c d:Int,x=.tup [.int a,.int b]/\y=.tup [.int c,.int d]/\R (.bl (gU (c,d) (a,b))) M
theorem t6{pins:List (Addr×Obj)}{σ:SV}{H:Hp}{M:Mm}{s:Ag}{x:V}{v:Ae}{a b:Int}(I:Inv X pins σ H s)(rx:RelV x v)(ax:AV X.K H M x (.tup [.int a,.int b])):∃ p o its n t u,v=.ref p/\s.heap.get? p=some o/\o.cls=.type "tuple"/\o.data=.seq its n/\its.toList=[.int a t,.int b u]:=by
 cases ax with
 | @tup p xs _ e q=>
  cases (show v=Value.ref p from rx)
  obtain⟨y,z,rfl,ay,az⟩:=q.two
  obtain rfl:=ay.inv
  obtain rfl:=az.inv
  obtain⟨_,its,r,o,h1,h2,m,h3⟩:=(show cT X.prog X.w H s.heap p (.tup [.int a,.int b]) from I.hok p _ e)
  obtain⟨u1,u2,rfl,r1,r2⟩:=vals2 r
  obtain⟨t1,rfl⟩:=r1
  obtain⟨t2,rfl⟩:=r2
  exact⟨p,o,_,m,t1,t2,rfl,h1,h2,h3,by simp⟩
theorem HS(hu:X.A.units + 1 < Fm):bG X (Ce .Lt) (cL X.K yA):=by
 rintro pins s σ H x y v u Q I rx ry ⟨wx,wy,M,R,am,ax,ay,⟨a,b,c,d,rfl,rfl,r⟩,k⟩
 obtain⟨p,o,its,n,t1,t2,rfl,h1,h2,h3,h4⟩:=t6 I rx ax
 obtain⟨p',o',its',n',t1',t2',rfl,g1,g2,g3,g4⟩:=t6 I ry ay
 exact XN hu h1 h2 h3 g1 g2 g3 h4 g4 ⟨.bl _,H,I,rfl,k.at am (.bl _) r⟩
theorem XR(hu:X.A.units + 1 < Fm):bG X (Ce .Gt) (cL X.K HR):=by
 rintro pins s σ H x y v u Q I rx ry ⟨wx,wy,M,R,am,ax,ay,⟨a,b,c,d,rfl,rfl,r⟩,k⟩
 obtain⟨p,o,its,n,t1,t2,rfl,h1,h2,h3,h4⟩:=t6 I rx ax
 obtain⟨p',o',its',n',t1',t2',rfl,g1,g2,g3,g4⟩:=t6 I ry ay
 exact XO hu h1 h2 h3 g1 g2 g3 h4 g4 ⟨.bl _,H,I,rfl,k.at am (.bl _) r⟩
def HU:W->List W->Mm->K3->Prop
 | .ref l,[.int i,y],M,R=>∃ ws,M l=some (.lst ws)/\ws.length < Am/\0<=i/\i<=ws.length/\R .non (put M l (.lst (ws.take i.toNat ++ y :: ws.drop i.toNat)))
 | _,_,_,_=>False
theorem HV{K:Ac}{H:Hp}{M:Mm}:∀ {vs:List V} {ws:List W} (i:Nat),aM K H M vs ws->aM K H M (vs.take i) (ws.take i)/\aM K H M (vs.drop i) (ws.drop i)
 | _,_,0,h=>⟨.nil,h⟩
 | _,_,i + 1,.nil=>⟨.nil,.nil⟩
 | _,_,i + 1,.cons r t=>by
  obtain⟨h1,h2⟩:=HV i t
  exact⟨.cons r h1,h2⟩
theorem XS:kC X "list.insert" (l9 X.K HU):=by
 rintro pins s σ H x xs v us Q I rx rs ⟨wx,ws,M,R,am,ax,axs,h,k⟩
 match wx,ws,h with
 | .ref l,[.int i,y],h=>
  obtain⟨u,z,rfl,au,az⟩:=axs.two
  obtain rfl:=ax.inv
  obtain rfl:=au.inv
  obtain⟨ws,e,hl,h0,h1,r⟩:=h
  obtain⟨i,rfl⟩:=Int.eq_ofNat_of_zero_le h0
  obtain⟨vs,f,q⟩:=am.lst e
  obtain⟨q1,q2⟩:=HV i q
  rw[Dy] at r
  exact XQ pins s σ H _ _ v us Q I rx rs ⟨l,vs,z,i,rfl,rfl,f,by rw[q.length];exact hl,by rw[q.length];lia,wQ am k e (q1.append (.cons az q2)) .non r⟩
end
end L3
namespace Rg
open PySem PySem.Spec PyProof.Rows L2 L3
abbrev aK:=Int×Int
def cI(a b:aK):Bool:=decide (a.1 < b.1) || (decide (a.1=b.1) && decide (a.2 < b.2))
theorem pK{a b:aK}:cI a b=true↔a.1 < b.1\/a.1=b.1/\a.2 < b.2:=by simp[cI]
def Le(a b:aK):Prop:=a.1 < b.1\/a.1=b.1/\a.2<=b.2
theorem yB{a b:aK}:Le a b↔¬ cI b a=true:=by
 rw[pK];unfold Le;lia
theorem Le.refl(a:aK):Le a a:=.inr ⟨rfl,Fn _⟩
theorem Le.trans{a b c:aK}(h:Le a b)(h':Le b c):Le a c:=by unfold Le at *;lia
theorem Le.of_lt{a b:aK}(h:cI a b=true):Le a b:=by rw[pK] at h;unfold Le;lia
theorem Le.antisymm{a b:aK}(h:Le a b)(h':Le b a):a=b:=by
 unfold Le at *
 exact Lz (by lia) (by lia)
theorem rA{a:aK}:¬ cI a a=true:=by rw[pK];lia
theorem rB{a b c:aK}(h:cI a b=true)(h':Le b c):cI a c=true:=by rw[pK] at *;unfold Le at h';lia
def dB(a b:aK):aK:=(a.1 + b.1,a.2 + b.2)
theorem XT{a b c d:aK}(h:Le a b)(h':Le c d):Le (dB a c) (dB b d):=by unfold Le dB at *;simp only;lia
section
variable {κ β:Type}[DecidableEq κ]
def aG(t:List (κ×β))(k:κ):Option β:=(t.find? fun e=>decide (e.1=k)).map (·.2)
def bE(t:List (κ×β))(k:κ)(v:β):List (κ×β):=if (t.any fun e=>decide (e.1=k))=true then t.map (fun e=>if e.1=k then(e.1,v) else e) else t ++ [(k,v)]
theorem cQ(e:κ×β)(t:List (κ×β))(k:κ):aG (e :: t) k=if e.1=k then some e.2 else aG t k:=by
 unfold aG
 rw[Fg]
 by_cases h:e.1=k
 ·rw[decide_eq_true h,if_pos h];rfl
 ·rw[decide_eq_false h,if_neg h]
theorem f7(t:List (κ×β))(k:κ):(t.any fun e=>decide (e.1=k))=(aG t k).isSome:=by
 induction t with
 | nil=>rfl
 | cons e t ih=>
  rw[Fz,cQ,ih]
  by_cases h:e.1=k
  ·rw[decide_eq_true h,if_pos h];rfl
  ·rw[decide_eq_false h,if_neg h];rfl
theorem yC(t:List (κ×β))(k j:κ)(v:β):aG (t ++ [(k,v)]) j=(aG t j).or (if k=j then some v else none):=by
 induction t with
 | nil=>rw[Jr,cQ];rfl
 | cons e t ih=>
  rw[List.cons_append,cQ,cQ,ih]
  split <;> rfl
theorem XU(t:List (κ×β))(k j:κ)(v:β)(h:(aG t k).isSome=true):aG (t.map (fun e=>if e.1=k then(e.1,v) else e)) j=if k=j then some v else aG t j:=by
 induction t with
 | nil=>cases h
 | cons e t ih=>
  rw[Ay,cQ,cQ]
  rw[cQ] at h
  by_cases hk:e.1=k
  ·rw[if_pos hk]
   by_cases hj:k=j
   ·rw[if_pos (by rw[hk,hj]:(e.1,v).1=j),if_pos hj]
   ·rw[if_neg (by rw[hk];exact hj),if_neg hj,if_neg (by rw[hk];exact hj)]
    by_cases ht:(aG t k).isSome=true
    ·rw[ih ht,if_neg hj]
    ·have:∀ {t:List (κ×β)},¬ (aG t k).isSome=true->t.map (fun e=>if e.1=k then(e.1,v) else e)=t:=by
      intro t
      induction t with
      | nil=>intro _;rfl
      | cons a t ih=>
       intro h
       rw[cQ] at h
       by_cases ha:a.1=k
       ·rw[if_pos ha] at h;exact absurd rfl h
       ·rw[if_neg ha] at h
        rw[Ay,if_neg ha,ih h]
     rw[this ht]
  ·rw[if_neg hk] at h ⊢
   by_cases hj:e.1=j
   ·rw[if_pos hj,if_pos hj,if_neg (fun z=>hk (by rw[hj,z]))]
   ·rw[if_neg hj,if_neg hj]
    exact ih h
theorem gF(t:List (κ×β))(k j:κ)(v:β):aG (bE t k v) j=if k=j then some v else aG t j:=by
 unfold bE
 rw[f7]
 split
 ·rename_i h
  exact XU t k j v h
 ·rename_i h
  rw[yC]
  by_cases hj:k=j
  ·subst hj
   rw[if_pos rfl,if_pos rfl]
   cases e:aG t k with
   | none=>rfl
   | some z=>rw[e] at h;exact absurd rfl h
  ·rw[if_neg hj,if_neg hj,Option.or_none]
theorem t7(t:List (κ×β))(k:κ)(v:β):(bE t k v).length<=t.length + 1:=by
 unfold bE
 split
 ·rw[Ab];lia
 ·simp
def eV{γ:Type}(t:List (κ×List γ))(k:κ)(v:γ):List (κ×List γ):=bE t k ((aG t k).getD [] ++ [v])
theorem rC{γ:Type}(t:List (κ×List γ))(k j:κ)(v:γ):(aG (eV t k v) j).getD []=if k=j then(aG t j).getD [] ++ [v] else(aG t j).getD []:=by
 unfold eV
 rw[gF]
 by_cases h:k=j
 ·subst h;rw[if_pos rfl,if_pos rfl];rfl
 ·rw[if_neg h,if_neg h]
end
section
variable {α:Type}
def dO(c:aK)(x:α):List (aK×List α)->List (aK×List α)
 | []=>[(c,[x])]
 | (d,xs) :: r=>if cI c d=true then(d,xs) :: dO c x r else if d=c then(d,xs ++ [x]) :: r else(c,[x]) :: (d,xs) :: r
def a8:List (aK×List α)->List (aK×α)
 | []=>[]
 | (d,xs) :: r=>xs.map (fun x=>(d,x)) ++ a8 r
theorem t9(c:aK)(x:α):∀ q:List (aK×List α),(a8 (dO c x q)).length=(a8 q).length + 1
 | []=>rfl
 | (d,xs) :: r=>by
  rw[dO]
  split
  ·rw[a8,a8,Ak,Ak,t9 c x r];lia
  ·split
   ·rw[a8,a8,Ak,Ak,Ax,Ak];simp;lia
   ·simp[a8]
def gV:List (aK×List α)->Prop
 | []=>True
 | (d,xs) :: r=>xs≠[]/\(∀ e∈r,cI e.1 d=true)/\gV r
theorem HW(c:aK)(x:α):∀ q:List (aK×List α),∀ e∈dO c x q,e.1=c\/∃ e'∈q,e'.1=e.1
 | [],e,h=>by simp[dO] at h;exact .inl (by rw[h])
 | (d,xs) :: r,e,h=>by
  rw[dO] at h
  split at h
  ·rcases Ar.mp h with z | z
   ·exact .inr ⟨(d,xs),by simp,by rw[z]⟩
   ·rcases HW c x r e z with q | ⟨e',q1,q2⟩
    ·exact .inl q
    ·exact .inr ⟨e',Au _ q1,q2⟩
  ·split at h
   ·rcases Ar.mp h with z | z
    ·exact .inr ⟨(d,xs),by simp,by rw[z]⟩
    ·exact .inr ⟨e,Au _ z,rfl⟩
   ·rcases Ar.mp h with z | z
    ·exact .inl (by rw[z])
    ·exact .inr ⟨e,z,rfl⟩
theorem yD(c:aK)(x:α):∀ {q:List (aK×List α)},gV q->gV (dO c x q)
 | [],_=>⟨by simp,by simp,trivial⟩
 | (d,xs) :: r,h=>by
  obtain⟨h1,h2,h3⟩:=h
  rw[dO]
  split
  ·rename_i hlt
   refine⟨h1,fun e he=>?_,yD c x h3⟩
   rcases HW c x r e he with z | ⟨e',z1,z2⟩
   ·rw[z];exact hlt
   ·rw[<-z2];exact h2 e' z1
  ·rename_i hlt
   split
   ·rename_i hd
    subst hd
    exact⟨by simp,h2,h3⟩
   ·rename_i hd
    have hdc:cI d c=true:=by
     have hlt':¬ (c.1 < d.1\/c.1=d.1/\c.2 < d.2):=by rw[<-pK];exact hlt
     rw[pK]
     by_cases h1:d.1=c.1
     ·refine .inr ⟨h1,?_⟩
      have:d.2≠c.2:=fun h2=>hd (Lz h1 h2)
      lia
     ·left;lia
    refine⟨by simp,fun e he=>?_,h1,h2,h3⟩
    rcases Ar.mp he with z | z
    ·rw[z];exact hdc
    ·exact rB (h2 e z) (Le.of_lt hdc)
def iD:List (aK×List α)->Option (aK×α×List (aK×List α))
 | []=>none
 | [(d,xs)]=>match xs.getLast? with
  | none=>none
  | some x=>some (d,x,if xs.dropLast.isEmpty then [] else [(d,xs.dropLast)])
 | e :: e2 :: r=>match iD (e2 :: r) with
  | none=>none
  | some (d,x,q)=>some (d,x,e :: q)
theorem nR:∀ {q:List (aK×List α)},gV q->q≠[]->∃ d x q',iD q=some (d,x,q')/\gV q'/\(∀ e,e∈a8 q↔e=(d,x)\/e∈a8 q')/\(a8 q).length=(a8 q').length + 1/\(∀ e∈q,Le d e.1)/\∀ e∈q',∃ e'∈q,e'.1=e.1
 | [],_,h=>absurd rfl h
 | [(d,xs)],h,_=>by
  obtain⟨h1,_,_⟩:=h
  rcases Dh xs with z | ⟨ys,y,z⟩
  ·exact absurd z h1
  ·rw[Dj] at z
   subst z
   refine⟨d,y,if ys.isEmpty then [] else [(d,ys)],by simp[iD],?_,fun e=>?_,?_,fun e he=>?_,fun e he=>?_⟩
   ·cases ys with
    | nil=>trivial
    | cons a b=>exact⟨by simp,by simp,trivial⟩
   ·cases ys with
    | nil=>simp[a8]
    | cons a b=>simp[a8];constructor <;> (intro h;rcases h with h | h | h <;> simp[h])
   ·cases ys with
    | nil=>simp[a8]
    | cons a b=>simp[a8]
   ·rw[Aw.mp he];exact Le.refl _
   ·cases ys with
    | nil=>cases he
    | cons a b=>simp at he;exact⟨(d,a :: b ++ [y]),by simp,by rw[he]⟩
 | e :: e2 :: r,h,_=>by
  obtain⟨h1,h2,h3⟩:=h
  obtain⟨d,x,q',e1,f1,m1,l1,c1,k1⟩:=nR h3 (by simp)
  refine⟨d,x,e :: q',by rw[iD,e1],⟨h1,fun z hz=>?_,f1⟩,fun z=>?_,?_,fun z hz=>?_,fun z hz=>?_⟩
  ·obtain⟨z',hz',ez⟩:=k1 z hz
   rw[<-ez];exact h2 z' hz'
  ·rw[a8,Bo,m1,a8,Bo]
   constructor
   ·rintro(h | h | h)
    ·exact .inr (.inl h)
    ·exact .inl h
    ·exact .inr (.inr h)
   ·rintro(h | h | h)
    ·exact .inr (.inl h)
    ·exact .inl h
    ·exact .inr (.inr h)
  ·rw[a8,Ak,l1,a8,Ak];lia
  ·rcases Ar.mp hz with q | q
   ·rw[q]
    have:=c1 e2 Bd
    exact this.trans (Le.of_lt (h2 e2 Bd))
   ·exact c1 z q
  ·rcases Ar.mp hz with q | q
   ·exact⟨e,Bd,by rw[q]⟩
   ·obtain⟨z',hz',ez⟩:=k1 z q
    exact⟨z',Au _ hz',ez⟩
theorem HX{q:List (aK×List α)}{e:aK×α}(h:e∈a8 q):∃ b∈q,b.1=e.1:=by
 induction q with
 | nil=>cases h
 | cons b r ih=>
  obtain⟨d,xs⟩:=b
  rw[a8] at h
  rcases Bo.mp h with z | z
  ·obtain⟨x,_,rfl⟩:=Ba.mp z
   exact⟨(d,xs),Bd,rfl⟩
  ·obtain⟨b,hb,e1⟩:=ih z
   exact⟨b,Au _ hb,e1⟩
end
section
variable {α:Type}
theorem HY(c:aK)(x:α):∀ q:List (aK×List α),(a8 (dO c x q)).Perm ((c,x) :: a8 q)
 | []=>.refl _
 | (d,xs) :: r=>by
  rw[dO]
  split
  ·rw[a8,a8]
   exact(List.Perm.append_left _ (HY c x r)).trans List.perm_middle
  ·split
   ·rename_i hd
    subst hd
    rw[a8,a8,Ax,Gk]
    exact List.perm_middle
   ·exact .refl _
theorem yE:∀ {q q':List (aK×List α)} {d:aK} {x:α},gV q->iD q=some (d,x,q')->(a8 q).Perm ((d,x) :: a8 q')
 | [],q',d,x,_,h=>by cases h
 | [(d0,xs)],q',d,x,hf,h=>by
  obtain⟨h1,_,_⟩:=hf
  rcases Dh xs with z | ⟨ys,y,z⟩
  ·exact absurd z h1
  ·rw[Dj] at z
   subst z
   simp[iD] at h
   obtain⟨rfl,rfl,rfl⟩:=h
   cases ys with
   | nil=>exact .refl _
   | cons a b=>
    rw[if_neg (by simp)]
    simp only[a8,He,Ax,Ay,Fv]
    exact List.perm_append_singleton _ _
 | e :: e2 :: r,q',d,x,hf,h=>by
  obtain⟨_,_,h3⟩:=hf
  rw[iD] at h
  split at h
  ·cases h
  ·rename_i d1 x1 q1 e1
   simp only[Gb,Dl] at h
   obtain⟨rfl,rfl,rfl⟩:=h
   have ih:=yE h3 e1
   obtain⟨d0,xs⟩:=e
   rw[a8,a8]
   exact(List.Perm.append_left _ ih).trans List.perm_middle
end
structure Sr where
 rs:List aX
 own:Str->Bool
 places:List Int
 steps:Str->Int->List (Int×Int)
 wt:Nat->Int
structure nS(G:Sr):Prop where
 wt:∀ n,0<=G.wt n
 pr:∀ t p e c,(e,c)∈G.steps t p->0<=c
abbrev K4:=Nat×Nat×Int×Int
abbrev bA:=Str×Int×Int
abbrev bY:=Nat×List Int×aK
def bM(n:Nat)(cut:List Int):K4:=(n,cut.length,cut.headD 0,cut.getLastD 0)
def lO(y:bY):K4:=bM y.1 y.2.1
abbrev bV:=List (bA×aK×Nat×List Int)
structure SS where
 q:List (aK×List (Nat×List Int))
 reached:List (K4×aK)
 best:bV
 ends:List ((Str×Int)×List (Int×aK))
 begun:List ((Str×Int)×List bY)
def reach(st:SS)(n:Nat)(cut:List Int)(c:aK):SS:=match aG st.reached (bM n cut) with
 | some d=>if cI c d=true then {st with reached:=bE st.reached (bM n cut) c,q:=dO c (n,cut) st.q} else st
 | none=>{st with reached:=bE st.reached (bM n cut) c,q:=dO c (n,cut) st.q}
inductive GI(G:Sr)(B:bV):Nat->List Int->aK->Prop
 | start {n:Nat} {r:aX} {p:Int}:G.rs[n]? = some r->p∈G.places->GI G B n [p] (G.wt n,1)
 | word {n:Nat} {r:aX} {cut:List Int} {c:aK} {part:Str} {e pr:Int}:GI G B n cut c->G.rs[n]? = some r->r.parts[cut.length - 1]? = some part->G.own part=false->(e,pr)∈G.steps part (cut.getLastD 0)->GI G B n (cut ++ [e]) (c.1 + pr,c.2)
 | name {n:Nat} {r:aX} {cut:List Int} {c m:aK} {part:Str} {e:Int} {k:Nat×List Int}:GI G B n cut c->G.rs[n]? = some r->r.parts[cut.length - 1]? = some part->G.own part=true->aG B (part,cut.getLastD 0,e)=some (m,k)->GI G B n (cut ++ [e]) (dB c m)
theorem GI.mono{G:Sr}{B B':bV}(h:∀ f v,aG B f=some v->aG B' f=some v){n:Nat}{cut:List Int}{c:aK}(g:GI G B n cut c):GI G B' n cut c:=by
 induction g with
 | start a b=>exact .start a b
 | word _ a b c d ih=>exact .word ih a b c d
 | name _ a b c d ih=>exact .name ih a b c (h _ _ d)
theorem GI.ne{G:Sr}{B:bV}{n:Nat}{cut:List Int}{c:aK}(g:GI G B n cut c):cut≠[]:=by cases g <;> simp
def qk(e:aK×(Nat×List Int)):aK×K4:=(e.1,bM e.2.1 e.2.2)
def e8(st:SS)(k:K4)(c:aK):Prop:=∃ d,aG st.reached k=some d/\Le d c
structure e9(G:Sr)(st:SS)(P:List bY)(cur:aK):Prop where
 fall:gV st.q
 item:∀ e∈a8 st.q,GI G st.best e.2.1 e.2.2 e.1
 ge:∀ e∈a8 st.q,∃ d,aG st.reached (bM e.2.1 e.2.2)=some d/\Le d e.1
 nd:((a8 st.q).map qk).Nodup
 once:(P.map lO).Nodup
 pr:∀ y∈P,aG st.reached (lO y)=some y.2.2/\Le y.2.2 cur/\GI G st.best y.1 y.2.1 y.2.2
 fresh:∀ e∈a8 st.q,∀ y∈P,lO y=bM e.2.1 e.2.2->cI y.2.2 e.1=true
 curq:∀ e∈a8 st.q,Le cur e.1
 hit:∀ k d,aG st.reached k=some d->(∃ e∈a8 st.q,e.1=d/\bM e.2.1 e.2.2=k)\/∃ y∈P,lO y=k/\y.2.2=d
structure jY(st st':SS):Prop where
 best:st'.best=st.best
 ends:st'.ends=st.ends
 begun:st'.begun=st.begun
 le:∀ k c,e8 st k c->e8 st' k c
theorem jY.refl(st:SS):jY st st:=⟨rfl,rfl,rfl,fun _ _ h=>h⟩
theorem jY.trans{a b c:SS}(x:jY a b)(y:jY b c):jY a c:=⟨y.best.trans x.best,y.ends.trans x.ends,y.begun.trans x.begun,fun k c h=>y.le k c (x.le k c h)⟩
theorem XW{G:Sr}{st:SS}{P:List bY}{cur:aK}{n:Nat}{cut:List Int}{c:aK}(I:e9 G st P cur)(g:GI G st.best n cut c)(hc:Le cur c) :
  e9 G (reach st n cut c) P cur/\jY st (reach st n cut c)/\e8 (reach st n cut c) (bM n cut) c:=by
 have push:(∀ d,aG st.reached (bM n cut)=some d->cI c d=true)->e9 G {st with reached:=bE st.reached (bM n cut) c,q:=dO c (n,cut) st.q} P cur/\jY st {st with reached:=bE st.reached (bM n cut) c,q:=dO c (n,cut) st.q}/\e8 {st with reached:=bE st.reached (bM n cut) c,q:=dO c (n,cut) st.q} (bM n cut) c:=by
  intro hlt
  have hp:=HY c (n,cut) st.q
  have hm:∀ e,e∈a8 (dO c (n,cut) st.q)↔e=(c,(n,cut))\/e∈a8 st.q:=fun e=>by rw[hp.mem_iff,Ar]
  have noP:∀ y∈P,lO y≠bM n cut:=fun y hy e=>by
   obtain⟨h1,h2,_⟩:=I.pr y hy
   rw[e] at h1
   have:=rB (hlt _ h1) (h2.trans hc)
   exact rA this
  have le:∀ k d,e8 st k d->e8 {st with reached:=bE st.reached (bM n cut) c,q:=dO c (n,cut) st.q} k d:=fun k d h=>by
   obtain⟨z,h1,h2⟩:=h
   by_cases e:bM n cut=k
   ·subst e
    exact⟨c,by show aG (bE _ _ _) _=_;rw[gF,if_pos rfl],(Le.of_lt (hlt z h1)).trans h2⟩
   ·exact⟨z,by show aG (bE _ _ _) _=_;rw[gF,if_neg e];exact h1,h2⟩
  refine⟨⟨yD _ _ I.fall,fun e he=>?_,fun e he=>?_,?_,I.once,fun y hy=>?_,fun e he y hy ek=>?_,fun e he=>?_,fun k d hd=>?_⟩,⟨rfl,rfl,rfl,le⟩,c,by show aG (bE _ _ _) _=_;rw[gF,if_pos rfl],Le.refl c⟩
  ·rcases(hm e).mp he with z | z
   ·rw[z];exact g
   ·exact I.item e z
  ·show ∃ d,aG (bE _ _ _) _=_/\_
   rw[gF]
   rcases(hm e).mp he with z | z
   ·rw[z,if_pos rfl];exact⟨c,rfl,Le.refl _⟩
   ·obtain⟨d,h1,h2⟩:=I.ge e z
    by_cases ek:bM n cut=bM e.2.1 e.2.2
    ·rw[if_pos ek]
     rw[<-ek] at h1
     exact⟨c,rfl,(Le.of_lt (hlt d h1)).trans h2⟩
    ·rw[if_neg ek];exact⟨d,h1,h2⟩
  ·rw[(hp.map qk).nodup_iff,Ay,Cr]
   refine⟨fun z=>?_,I.nd⟩
   obtain⟨e,he,eq⟩:=Ba.mp z
   obtain⟨d,h1,h2⟩:=I.ge e he
   unfold qk at eq
   rw[Dl] at eq
   rw[eq.2] at h1
   rw[eq.1] at h2
   exact rA (rB (hlt d h1) h2)
  ·obtain⟨h1,h2,h3⟩:=I.pr y hy
   refine⟨?_,h2,h3⟩
   show aG (bE _ _ _) _=_
   rw[gF,if_neg (Bf (noP y hy))];exact h1
  ·rcases(hm e).mp he with z | z
   ·rw[z] at ek;exact absurd ek (noP y hy)
   ·exact I.fresh e z y hy ek
  ·rcases(hm e).mp he with z | z
   ·rw[z];exact hc
   ·exact I.curq e z
  ·have hd:aG (bE st.reached (bM n cut) c) k=some d:=hd
   rw[gF] at hd
   by_cases e:bM n cut=k
   ·rw[if_pos e] at hd
    cases hd
    exact .inl ⟨(c,(n,cut)),(hm _).mpr (.inl rfl),rfl,e⟩
   ·rw[if_neg e] at hd
    rcases I.hit k d hd with⟨x,h1,h2,h3⟩ | h
    ·exact .inl ⟨x,(hm _).mpr (.inr h1),h2,h3⟩
    ·exact .inr h
 unfold reach
 cases h:aG st.reached (bM n cut) with
 | none=>exact push fun d e=>by rw[h] at e;cases e
 | some d=>
  simp only
  split
  ·rename_i hl
   exact push fun d' e=>by rw[h] at e;cases e;exact hl
  ·rename_i hl
   exact⟨I,jY.refl st,d,h,yB.mpr hl⟩
theorem rD{G:Sr}{P:List bY}{cur:aK}{α:Type}(f:α->Nat×List Int×aK):∀ (xs:List α) {st:SS},e9 G st P cur->(∀ x∈xs,GI G st.best (f x).1 (f x).2.1 (f x).2.2/\Le cur (f x).2.2)->
  e9 G (xs.foldl (fun st x=>reach st (f x).1 (f x).2.1 (f x).2.2) st) P cur/\jY st (xs.foldl (fun st x=>reach st (f x).1 (f x).2.1 (f x).2.2) st)/\∀ x∈xs,e8 (xs.foldl (fun st x=>reach st (f x).1 (f x).2.1 (f x).2.2) st) (bM (f x).1 (f x).2.1) (f x).2.2
 | [],st,I,_=>⟨I,jY.refl st,fun x hx=>nomatch hx⟩
 | x :: xs,st,I,h=>by
  obtain⟨h1,h2⟩:=h x Bd
  obtain⟨I1,g1,r1⟩:=XW I h1 h2
  obtain⟨I2,g2,r2⟩:=rD f xs I1 fun y hy=>by
   have:=h y (Au _ hy)
   rw[g1.best];exact this
  refine⟨I2,g1.trans g2,fun y hy=>?_⟩
  rcases Ar.mp hy with z | z
  ·rw[z];exact g2.le _ _ r1
  ·exact r2 y z
def c7(G:Sr)(n:Nat):Str:=match G.rs[n]? with
 | some r=>r.name
 | none=>""
def dP(G:Sr)(n:Nat)(cut:List Int):Option Str:=match G.rs[n]? with
 | some r=>r.parts[cut.length - 1]?
 | none=>none
def cE(G:Sr)(n:Nat)(cut:List Int):bA:=(c7 G n,cut.headD 0,cut.getLastD 0)
def settle(G:Sr)(st:SS)(n:Nat)(cut:List Int)(c:aK):SS:=match aG st.best (cE G n cut) with
 | some _=>st
 | none=>((aG st.begun (c7 G n,cut.headD 0)).getD []).foldl (fun st y=>reach st y.1 (y.2.1 ++ [cut.getLastD 0]) (dB y.2.2 c)) {st with best:=st.best ++ [(cE G n cut,c,n,cut)],ends:=eV st.ends (c7 G n,cut.headD 0) (cut.getLastD 0,c)}
def fH(st:SS)(n:Nat)(cut:List Int)(c:aK)(part:Str):SS:=((aG st.ends (part,cut.getLastD 0)).getD []).foldl (fun st z=>reach st n (cut ++ [z.1]) (dB c z.2)) {st with begun:=eV st.begun (part,cut.getLastD 0) (n,cut,c)}
def fS(G:Sr)(st:SS)(n:Nat)(cut:List Int)(c:aK)(part:Str):SS:=(G.steps part (cut.getLastD 0)).foldl (fun st z=>reach st n (cut ++ [z.1]) (c.1 + z.2,c.2)) st
def process(G:Sr)(st:SS)(n:Nat)(cut:List Int)(c:aK):SS:=match dP G n cut with
 | none=>settle G st n cut c
 | some part=>if G.own part=true then fH st n cut c part else fS G st n cut c part
structure Ob(G:Sr)(st:SS)(P:List bY)(cur:aK):Prop where
 zero:Le (0,0) cur
 fin:∀ y∈P,dP G y.1 y.2.1=none->∃ m k,aG st.best (cE G y.1 y.2.1)=some (m,k)/\Le m y.2.2
 wrd:∀ y∈P,∀ part,dP G y.1 y.2.1=some part->G.own part=false->∀ z∈G.steps part (y.2.1.getLastD 0),e8 st (bM y.1 (y.2.1 ++ [z.1])) (y.2.2.1 + z.2,y.2.2.2)
 nam:∀ y∈P,∀ part,dP G y.1 y.2.1=some part->G.own part=true->y∈(aG st.begun (part,y.2.1.getLastD 0)).getD []
 pair:∀ key,∀ y∈(aG st.begun key).getD [],∀ z∈(aG st.ends key).getD [],e8 st (bM y.1 (y.2.1 ++ [z.1])) (dB y.2.2 z.2)
 bgn:∀ key,∀ y∈(aG st.begun key).getD [],y∈P/\dP G y.1 y.2.1=some key.1/\G.own key.1=true/\y.2.1.getLastD 0=key.2/\Le (0,0) y.2.2
 ends:∀ nm b e m,(e,m)∈(aG st.ends (nm,b)).getD []↔∃ k,aG st.best (nm,b,e)=some (m,k)
 bst:∀ f m n cut,aG st.best f=some (m,n,cut)->dP G n cut=none/\f=cE G n cut/\Le (0,0) m/\Le m cur
 ord:∀ pre e post,st.best=pre ++ e :: post->GI G pre e.2.2.1 e.2.2.2 e.2.1/\aG pre e.1=none
theorem XX{a b:aK}(h:Le (0,0) b):Le a (dB a b):=by unfold Le dB at *;simp only at *;lia
theorem XY{a b:aK}(h:Le (0,0) b):Le a (dB b a):=by unfold Le dB at *;simp only at *;lia
theorem XZ{G:Sr}{st:SS}{P:List bY}{cur c:aK}{n:Nat}{cut:List Int}{q':List (aK×List (Nat×List Int))}(I:e9 G st P cur)(ht:iD st.q=some (c,(n,cut),q'))(hr:aG st.reached (bM n cut)=some c):e9 G {st with q:=q'} (P ++ [(n,cut,c)]) c/\Le cur c/\GI G st.best n cut c:=by
 have hne:st.q≠[]:=fun e=>by rw[e] at ht;cases ht
 obtain⟨d,x,q1,e1,f1,m1,l1,c1,_⟩:=nR I.fall hne
 rw[ht] at e1
 simp only[Gb,Dl] at e1
 obtain⟨rfl,rfl,rfl⟩:=e1
 have hp:=yE I.fall ht
 have hin:(c,(n,cut))∈a8 st.q:=(m1 _).mpr (.inl rfl)
 have sub:∀ e∈a8 q',e∈a8 st.q:=fun e he=>(m1 e).mpr (.inr he)
 have hcur:=I.curq _ hin
 have hnd:=I.nd
 rw[(hp.map qk).nodup_iff,Ay,Cr] at hnd
 have hmin:∀ e∈a8 q',Le c e.1:=fun e he=>by
  obtain⟨b,hb,eb⟩:=HX (sub e he)
  rw[<-eb];exact c1 b hb
 have noP:∀ y∈P,lO y≠bM n cut:=fun y hy e=>by
  have h1:=I.fresh _ hin y hy e
  obtain⟨h2,_,_⟩:=I.pr y hy
  rw[e,hr] at h2
  cases h2
  exact rA h1
 refine⟨⟨f1,fun e he=>I.item e (sub e he),fun e he=>I.ge e (sub e he),hnd.2,?_,fun y hy=>?_,fun e he y hy ek=>?_,hmin,fun k d hd=>?_⟩,hcur,I.item _ hin⟩
 ·rw[Ax,Ef]
  refine⟨I.once,by simp,fun a ha b hb e=>?_⟩
  obtain⟨y,hy,rfl⟩:=Ba.mp ha
  rw[List.map_singleton,Aw] at hb
  exact noP y hy (by rw[e,hb];rfl)
 ·rcases Bo.mp hy with z | z
  ·obtain⟨h1,h2,h3⟩:=I.pr y z
   exact⟨h1,h2.trans hcur,h3⟩
  ·rw[Aw.mp z]
   exact⟨hr,Le.refl _,I.item _ hin⟩
 ·rcases Bo.mp hy with z | z
  ·exact I.fresh e (sub e he) y z ek
  ·have hy':=Aw.mp z
   subst hy'
   have h1:=hmin e he
   have hne:e.1≠c:=fun e1=>hnd.1 (Ba.mpr ⟨e,he,by
    have ek':bM n cut=bM e.2.1 e.2.2:=ek
    show(e.1,bM e.2.1 e.2.2)=(c,bM n cut)
    rw[e1,ek']⟩)
   show cI c e.1=true
   cases hh:cI c e.1 with
   | true=>rfl
   | false=>exact absurd (Le.antisymm (yB.mpr (by rw[hh];decide)) h1) hne
 ·rcases I.hit k d hd with⟨e,h1,h2,h3⟩ | ⟨y,h1,h2⟩
  ·rcases(m1 e).mp h1 with z | z
   ·subst z
    exact .inr ⟨(n,cut,c),Ca _ (Aw.mpr rfl),h3,h2⟩
   ·exact .inl ⟨e,z,h2,h3⟩
  ·exact .inr ⟨y,Bu _ h1,h2⟩
theorem X1{G:Sr}{st:SS}{P:List bY}{cur c d:aK}{n:Nat}{cut:List Int}{q':List (aK×List (Nat×List Int))}(I:e9 G st P cur)(ht:iD st.q=some (c,(n,cut),q'))(hr:aG st.reached (bM n cut)=some d)(hd:cI d c=true):e9 G {st with q:=q'} P c/\Le cur c:=by
 have hne:st.q≠[]:=fun e=>by rw[e] at ht;cases ht
 obtain⟨d1,x,q1,e1,f1,m1,l1,c1,_⟩:=nR I.fall hne
 rw[ht] at e1
 simp only[Gb,Dl] at e1
 obtain⟨rfl,rfl,rfl⟩:=e1
 have hp:=yE I.fall ht
 have hin:(c,(n,cut))∈a8 st.q:=(m1 _).mpr (.inl rfl)
 have sub:∀ e∈a8 q',e∈a8 st.q:=fun e he=>(m1 e).mpr (.inr he)
 have hcur:=I.curq _ hin
 have hnd:=I.nd
 rw[(hp.map qk).nodup_iff,Ay,Cr] at hnd
 refine⟨⟨f1,fun e he=>I.item e (sub e he),fun e he=>I.ge e (sub e he),hnd.2,I.once,fun y hy=>?_,fun e he y hy ek=>I.fresh e (sub e he) y hy ek,fun e he=>?_,fun k d2 hd2=>?_⟩,hcur⟩
 ·obtain⟨h1,h2,h3⟩:=I.pr y hy
  exact⟨h1,h2.trans hcur,h3⟩
 ·obtain⟨b,hb,eb⟩:=HX (sub e he)
  rw[<-eb];exact c1 b hb
 ·rcases I.hit k d2 hd2 with⟨e,h1,h2,h3⟩ | h
  ·rcases(m1 e).mp h1 with z | z
   ·subst z
    have h3:bM n cut=k:=h3
    have h2:c=d2:=h2
    have hd2':aG st.reached k=some d2:=hd2
    rw[<-h3,hr] at hd2'
    cases hd2'
    rw[<-h2] at hd
    exact absurd hd rA
   ·exact .inl ⟨e,z,h2,h3⟩
  ·exact .inr h
theorem Ob.later{G:Sr}{st:SS}{P:List bY}{cur c:aK}(o:Ob G st P cur)(h:Le cur c)(q':List (aK×List (Nat×List Int))):Ob G {st with q:=q'} P c:=
 ⟨o.zero.trans h,o.fin,o.wrd,o.nam,o.pair,o.bgn,o.ends,fun f m n cut e=>let ⟨h1,h2,h3,h4⟩:=o.bst f m n cut e;⟨h1,h2,h3,h4.trans h⟩,o.ord⟩
theorem GI.rule{G:Sr}{B:bV}{n:Nat}{cut:List Int}{c:aK}(g:GI G B n cut c):∃ r,G.rs[n]? = some r:=by
 cases g with
 | start a _=>exact⟨_,a⟩
 | word _ a _ _ _=>exact⟨_,a⟩
 | name _ a _ _ _=>exact⟨_,a⟩
theorem part_of{G:Sr}{n:Nat}{cut:List Int}{r:aX}(h:G.rs[n]? = some r):dP G n cut=r.parts[cut.length - 1]?:=by unfold dP;rw[h]
theorem jH{α:Type}{P:List α}{x y:α}(h:y∈P ++ [x]):y∈P\/y=x:=by
 rcases Bo.mp h with z | z
 ·exact .inl z
 ·exact .inr (Aw.mp z)
theorem X2{G:Sr}(ok:nS G){st:SS}{P:List bY}{c:aK}{n:Nat}{cut:List Int}{part:Str}(I:e9 G st (P ++ [(n,cut,c)]) c)(o:Ob G st P c)(g:GI G st.best n cut c)(hp:dP G n cut=some part)(ho:G.own part=false) :
  e9 G (fS G st n cut c part) (P ++ [(n,cut,c)]) c/\Ob G (fS G st n cut c part) (P ++ [(n,cut,c)]) c/\∀ k d,e8 st k d->e8 (fS G st n cut c part) k d:=by
 obtain⟨r,hr⟩:=g.rule
 rw[part_of hr] at hp
 obtain⟨I1,g1,r1⟩:=rD (fun z:Int×Int=>(n,cut ++ [z.1],(c.1 + z.2,c.2))) (G.steps part (cut.getLastD 0)) I fun z hz=>⟨.word g hr hp ho hz,by
  have:=ok.pr _ _ _ _ hz
  show Le c (c.1 + z.2,c.2)
  unfold Le;simp only;lia⟩
 refine⟨I1,⟨o.zero,fun y hy hn=>?_,fun y hy pt h1 h2 z hz=>?_,fun y hy pt h1 h2=>?_,fun key y hy z hz=>?_,fun key y hy=>?_,fun nm b e m=>?_,fun f m n' cut' e=>?_,fun pre e post h=>?_⟩,g1.le⟩
 ·rcases jH hy with z | z
  ·obtain⟨m,k,h1,h2⟩:=o.fin y z hn
   exact⟨m,k,by rw[show(fS G st n cut c part).best=st.best from g1.best];exact h1,h2⟩
  ·subst z
   rw[part_of hr,hp] at hn;cases hn
 ·rcases jH hy with q | q
  ·exact g1.le _ _ (o.wrd y q pt h1 h2 z hz)
  ·subst q
   rw[part_of hr,hp] at h1
   cases h1
   exact r1 z hz
 ·rcases jH hy with q | q
  ·rw[show(fS G st n cut c part).begun=st.begun from g1.begun]
   exact o.nam y q pt h1 h2
  ·subst q
   rw[part_of hr,hp] at h1
   cases h1
   rw[ho] at h2;cases h2
 ·rw[show(fS G st n cut c part).begun=st.begun from g1.begun] at hy
  rw[show(fS G st n cut c part).ends=st.ends from g1.ends] at hz
  exact g1.le _ _ (o.pair key y hy z hz)
 ·rw[show(fS G st n cut c part).begun=st.begun from g1.begun] at hy
  obtain⟨h1,h2⟩:=o.bgn key y hy
  exact⟨Bu _ h1,h2⟩
 ·rw[show(fS G st n cut c part).ends=st.ends from g1.ends,show(fS G st n cut c part).best=st.best from g1.best]
  exact o.ends nm b e m
 ·rw[show(fS G st n cut c part).best=st.best from g1.best] at e
  exact o.bst f m n' cut' e
 ·rw[show(fS G st n cut c part).best=st.best from g1.best] at h
  exact o.ord pre e post h
theorem X3{G:Sr}{st:SS}{P:List bY}{c:aK}{n:Nat}{cut:List Int}{part:Str}(I:e9 G st (P ++ [(n,cut,c)]) c)(o:Ob G st P c)(g:GI G st.best n cut c)(hp:dP G n cut=some part)(ho:G.own part=true) :
  e9 G (fH st n cut c part) (P ++ [(n,cut,c)]) c/\Ob G (fH st n cut c part) (P ++ [(n,cut,c)]) c/\∀ k d,e8 st k d->e8 (fH st n cut c part) k d:=by
 obtain⟨r,hr⟩:=g.rule
 have hp0:=hp
 rw[part_of hr] at hp
 obtain⟨I1,g1,r1⟩:=rD (G:=G) (P:=P ++ [(n,cut,c)]) (cur:=c) (st:={st with begun:=eV st.begun (part,cut.getLastD 0) (n,cut,c)}) (fun z:Int×aK=>(n,cut ++ [z.1],dB c z.2)) ((aG st.ends (part,cut.getLastD 0)).getD []) ⟨I.fall,I.item,I.ge,I.nd,I.once,I.pr,I.fresh,I.curq,I.hit⟩ fun z hz=>by
  obtain⟨k,hk⟩:=(o.ends part (cut.getLastD 0) z.1 z.2).mp hz
  exact⟨.name g hr hp ho hk,XX (o.bst _ _ _ _ hk).2.2.1⟩
 have hb:(fH st n cut c part).best=st.best:=g1.best
 have he:(fH st n cut c part).ends=st.ends:=g1.ends
 have hg:(fH st n cut c part).begun=eV st.begun (part,cut.getLastD 0) (n,cut,c):=g1.begun
 have hbeg:∀ key y,y∈(aG (fH st n cut c part).begun key).getD []↔y∈(aG st.begun key).getD []\/(part,cut.getLastD 0)=key/\y=(n,cut,c):=fun key y=>by
  rw[hg,rC]
  by_cases h:(part,cut.getLastD 0)=key
  ·rw[if_pos h,Bo,Aw]
   exact⟨fun z=>z.imp id fun q=>⟨h,q⟩,fun z=>z.imp id fun q=>q.2⟩
  ·rw[if_neg h]
   exact⟨.inl,fun z=>z.elim id fun q=>absurd q.1 h⟩
 refine⟨I1,⟨o.zero,fun y hy hn=>?_,fun y hy pt h1 h2 z hz=>?_,fun y hy pt h1 h2=>?_,fun key y hy z hz=>?_,fun key y hy=>?_,fun nm b e m=>?_,fun f m n' cut' e=>?_,fun pre e post h=>?_⟩,g1.le⟩
 ·rcases jH hy with z | z
  ·rw[hb];exact o.fin y z hn
  ·subst z
   rw[hp0] at hn;cases hn
 ·rcases jH hy with q | q
  ·exact g1.le _ _ (o.wrd y q pt h1 h2 z hz)
  ·subst q
   rw[hp0] at h1
   cases h1
   rw[ho] at h2;cases h2
 ·rw[hbeg]
  rcases jH hy with q | q
  ·exact .inl (o.nam y q pt h1 h2)
  ·subst q
   rw[hp0] at h1
   cases h1
   exact .inr ⟨rfl,rfl⟩
 ·rw[he] at hz
  rcases(hbeg key y).mp hy with q | ⟨q1,q2⟩
  ·exact g1.le _ _ (o.pair key y q z hz)
  ·subst q2
   rw[<-q1] at hz
   exact r1 z hz
 ·rcases(hbeg key y).mp hy with q | ⟨q1,q2⟩
  ·obtain⟨h1,h2⟩:=o.bgn key y q
   exact⟨Bu _ h1,h2⟩
  ·subst q2
   rw[<-q1]
   exact⟨Ca _ (Aw.mpr rfl),hp0,ho,rfl,o.zero⟩
 ·rw[he,hb];exact o.ends nm b e m
 ·rw[hb] at e;exact o.bst f m n' cut' e
 ·rw[hb] at h;exact o.ord pre e post h
theorem X4{G:Sr}{st:SS}{P:List bY}{c:aK}{n:Nat}{cut:List Int}(I:e9 G st (P ++ [(n,cut,c)]) c)(o:Ob G st P c)(g:GI G st.best n cut c)(hp:dP G n cut=none) :
  e9 G (settle G st n cut c) (P ++ [(n,cut,c)]) c/\Ob G (settle G st n cut c) (P ++ [(n,cut,c)]) c/\∀ k d,e8 st k d->e8 (settle G st n cut c) k d:=by
 unfold settle
 cases hf:aG st.best (cE G n cut) with
 | some v=>
  obtain⟨m,k⟩:=v
  obtain⟨_,_,_,hm⟩:=o.bst _ _ _ _ hf
  refine⟨I,⟨o.zero,fun y hy hn=>?_,fun y hy pt h1 h2 z hz=>?_,fun y hy pt h1 h2=>?_,o.pair,fun key y hy=>?_,o.ends,o.bst,o.ord⟩,fun _ _ h=>h⟩
  ·rcases jH hy with z | z
   ·exact o.fin y z hn
   ·subst z;exact⟨m,k,hf,hm⟩
  ·rcases jH hy with q | q
   ·exact o.wrd y q pt h1 h2 z hz
   ·subst q;rw[hp] at h1;cases h1
  ·rcases jH hy with q | q
   ·exact o.nam y q pt h1 h2
   ·subst q;rw[hp] at h1;cases h1
  ·obtain⟨h1,h2⟩:=o.bgn key y hy
   exact⟨Bu _ h1,h2⟩
 | none=>
  simp only
  have new:∀ f,aG (st.best ++ [(cE G n cut,c,n,cut)]) f=if cE G n cut=f then some (c,n,cut) else aG st.best f:=fun f=>by
   rw[yC]
   by_cases h:cE G n cut=f
   ·subst h;rw[if_pos rfl,if_pos rfl,hf];rfl
   ·rw[if_neg h,if_neg h,Option.or_none]
  have mono:∀ f v,aG st.best f=some v->aG (st.best ++ [(cE G n cut,c,n,cut)]) f=some v:=fun f v h=>by
   rw[new,if_neg (fun e=>by rw[<-e,hf] at h;cases h)];exact h
  obtain⟨st1,hst1⟩:∃ z:SS,z = {st with best:=st.best ++ [(cE G n cut,c,n,cut)],ends:=eV st.ends (c7 G n,cut.headD 0) (cut.getLastD 0,c)}:=⟨_,rfl⟩
  have b1:st1.best=st.best ++ [(cE G n cut,c,n,cut)]:=by rw[hst1]
  have e1:st1.ends=eV st.ends (c7 G n,cut.headD 0) (cut.getLastD 0,c):=by rw[hst1]
  have n1:st1.begun=st.begun:=by rw[hst1]
  have r0:st1.reached=st.reached:=by rw[hst1]
  have q0:st1.q=st.q:=by rw[hst1]
  have I0:e9 G st1 (P ++ [(n,cut,c)]) c:=by
   rw[hst1]
   exact⟨I.fall,fun e he=>(I.item e he).mono mono,I.ge,I.nd,I.once,fun y hy=>let ⟨h1,h2,h3⟩:=I.pr y hy;⟨h1,h2,h3.mono mono⟩,I.fresh,I.curq,I.hit⟩
  rw[<-hst1]
  obtain⟨I1,g1,r1⟩:=rD (fun y:bY=>(y.1,y.2.1 ++ [cut.getLastD 0],dB y.2.2 c)) ((aG st.begun (c7 G n,cut.headD 0)).getD []) I0 fun y hy=>by
   obtain⟨h1,h2,h3,h4,h5⟩:=o.bgn _ y hy
   obtain⟨_,_,gy⟩:=I.pr y (Bu _ h1)
   obtain⟨ry,hry⟩:=gy.rule
   rw[part_of hry] at h2
   refine⟨.name (k:=(n,cut)) (by rw[b1];exact gy.mono mono) hry h2 h3 ?_,XY h5⟩
   rw[b1,new,if_pos (by show(c7 G n,cut.headD 0,cut.getLastD 0)=(c7 G n,y.2.1.getLastD 0,cut.getLastD 0);rw[h4])]
  obtain⟨st2,hst2⟩:∃ z,z=((aG st.begun (c7 G n,cut.headD 0)).getD []).foldl (fun st y=>reach st y.1 (y.2.1 ++ [cut.getLastD 0]) (dB y.2.2 c)) st1:=⟨_,rfl⟩
  rw[<-hst2] at I1 g1 r1 ⊢
  have B:st2.best=st.best ++ [(cE G n cut,c,n,cut)]:=g1.best.trans b1
  have E:st2.ends=eV st.ends (c7 G n,cut.headD 0) (cut.getLastD 0,c):=g1.ends.trans e1
  have N:st2.begun=st.begun:=g1.begun.trans n1
  have le:∀ k d,e8 st k d->e8 st2 k d:=fun k d h=>g1.le k d (by
   obtain⟨z,h1,h2⟩:=h
   exact⟨z,by rw[r0];exact h1,h2⟩)
  have hends:∀ key z,z∈(aG st2.ends key).getD []↔z∈(aG st.ends key).getD []\/(c7 G n,cut.headD 0)=key/\z=(cut.getLastD 0,c):=fun key z=>by
   rw[E,rC]
   by_cases h:(c7 G n,cut.headD 0)=key
   ·rw[if_pos h,Bo,Aw]
    exact⟨fun z=>z.imp id fun q=>⟨h,q⟩,fun z=>z.imp id fun q=>q.2⟩
   ·rw[if_neg h]
    exact⟨.inl,fun z=>z.elim id fun q=>absurd q.1 h⟩
  refine⟨I1,⟨o.zero,fun y hy hn=>?_,fun y hy pt h1 h2 z hz=>?_,fun y hy pt h1 h2=>?_,fun key y hy z hz=>?_,fun key y hy=>?_,fun nm b e m=>?_,fun f m n' cut' e=>?_,fun pre e post h=>?_⟩,le⟩
  ·rw[B]
   rcases jH hy with z | z
   ·obtain⟨m,k,h1,h2⟩:=o.fin y z hn
    exact⟨m,k,mono _ _ h1,h2⟩
   ·subst z
    exact⟨c,(n,cut),by rw[new,if_pos rfl],Le.refl _⟩
  ·rcases jH hy with q | q
   ·exact le _ _ (o.wrd y q pt h1 h2 z hz)
   ·subst q;rw[hp] at h1;cases h1
  ·rw[N]
   rcases jH hy with q | q
   ·exact o.nam y q pt h1 h2
   ·subst q;rw[hp] at h1;cases h1
  ·rw[N] at hy
   rcases(hends key z).mp hz with q | ⟨q1,q2⟩
   ·exact le _ _ (o.pair key y hy z q)
   ·subst q2
    rw[<-q1] at hy
    exact r1 y hy
  ·rw[N] at hy
   obtain⟨h1,h2⟩:=o.bgn key y hy
   exact⟨Bu _ h1,h2⟩
  ·rw[hends,B,new,o.ends]
   by_cases h:cE G n cut=(nm,b,e)
   ·rw[if_pos h]
    unfold cE at h
    simp only[Dl] at h
    obtain⟨rfl,rfl,rfl⟩:=h
    constructor
    ·rintro(⟨k,hk⟩ | ⟨_,hk⟩)
     ·rw[show(c7 G n,cut.headD 0,cut.getLastD 0)=cE G n cut from rfl,hf] at hk;cases hk
     ·cases hk;exact⟨(n,cut),rfl⟩
    ·rintro⟨k,hk⟩
     cases hk
     exact .inr ⟨rfl,rfl⟩
   ·rw[if_neg h]
    constructor
    ·rintro(hk | ⟨h1,h2⟩)
     ·exact hk
     ·cases h1;cases h2;exact absurd rfl h
    ·exact .inl
  ·rw[B,new] at e
   by_cases h:cE G n cut=f
   ·rw[if_pos h] at e
    cases e
    exact⟨hp,h.symm,o.zero,Le.refl _⟩
   ·rw[if_neg h] at e
    exact o.bst f m n' cut' e
  ·rw[B] at h
   rcases Dh post with z | ⟨ps,p,z⟩
   ·subst z
    have h':=List.append_inj' h rfl
    have h2:=h'.2
    simp only[Cs,and_true] at h2
    rw[<-h'.1,<-h2]
    exact⟨g,hf⟩
   ·rw[Dj] at z
    subst z
    rw[show pre ++ e :: (ps ++ [p])=(pre ++ e :: ps) ++ [p] by simp] at h
    have h':=List.append_inj' h rfl
    exact o.ord pre e ps h'.1
theorem X5{G:Sr}(ok:nS G){st:SS}{P:List bY}{c:aK}{n:Nat}{cut:List Int}(I:e9 G st (P ++ [(n,cut,c)]) c)(o:Ob G st P c)(g:GI G st.best n cut c) :
  e9 G (process G st n cut c) (P ++ [(n,cut,c)]) c/\Ob G (process G st n cut c) (P ++ [(n,cut,c)]) c/\∀ k d,e8 st k d->e8 (process G st n cut c) k d:=by
 unfold process
 cases hp:dP G n cut with
 | none=>exact X4 I o g hp
 | some part=>
  simp only
  cases ho:G.own part with
  | true=>rw[if_pos rfl];exact X3 I o g hp ho
  | false=>rw[if_neg (by decide)];exact X2 ok I o g hp ho
inductive DI(G:Sr):Nat->List Int->aK->Prop
 | start {n:Nat} {r:aX} {p:Int}:G.rs[n]? = some r->p∈G.places->DI G n [p] (G.wt n,1)
 | word {n:Nat} {r:aX} {cut:List Int} {c:aK} {part:Str} {e pr:Int}:DI G n cut c->G.rs[n]? = some r->r.parts[cut.length - 1]? = some part->G.own part=false->(e,pr)∈G.steps part (cut.getLastD 0)->DI G n (cut ++ [e]) (c.1 + pr,c.2)
 | name {n n':Nat} {r:aX} {cut cut':List Int} {c m:aK} {part:Str}:DI G n cut c->G.rs[n]? = some r->r.parts[cut.length - 1]? = some part->G.own part=true->DI G n' cut' m->dP G n' cut'=none->c7 G n'=part->cut'.headD 0=cut.getLastD 0->DI G n (cut ++ [cut'.getLastD 0]) (dB c m)
theorem DI.ne{G:Sr}{n:Nat}{cut:List Int}{c:aK}(h:DI G n cut c):cut≠[]:=by cases h <;> simp
theorem HZ{n:Nat}{a b:List Int}{e:Int}(h:bM n a=bM n b)(ha:a≠[])(hb:b≠[]):bM n (a ++ [e])=bM n (b ++ [e]):=by
 unfold bM at *
 simp only[Dl,true_and] at h
 obtain⟨h1,h2,h3⟩:=h
 have hl:∀ l:List Int,(l ++ [e]).getLastD 0=e:=fun l=>by simp[Gg]
 rw[hl,hl,Ak,Ak,h1]
 cases a with
 | nil=>exact absurd rfl ha
 | cons x a=>
  cases b with
  | nil=>exact absurd rfl hb
  | cons y b=>
   simp only[List.headD_cons] at h2
   subst h2
   rfl
theorem uA{G:Sr}{n n':Nat}{a b:List Int}(h:bM n a=bM n' b):n=n'/\dP G n a=dP G n' b/\cE G n a=cE G n' b/\a.getLastD 0=b.getLastD 0:=by
 unfold bM at h
 simp only[Dl] at h
 obtain⟨rfl,h1,h2,h3⟩:=h
 refine⟨rfl,?_,?_,h3⟩
 ·unfold dP;rw[h1]
 ·unfold cE;rw[h2,h3]
def yF(G:Sr)(st:SS):Prop:=∀ n r p,G.rs[n]? = some r->p∈G.places->e8 st (bM n [p]) (G.wt n,1)
theorem X6{G:Sr}{st:SS}{P:List bY}{cur:aK}(I:e9 G st P cur)(o:Ob G st P cur)(hi:yF G st)(hq:st.q=[]){n:Nat}{cut:List Int}{c:aK}(h:DI G n cut c):e8 st (bM n cut) c:=by
 have done:∀ {n:Nat} {cut:List Int} {c:aK},e8 st (bM n cut) c->∃ y∈P,lO y=bM n cut/\Le y.2.2 c:=fun {n cut c} h=>by
  obtain⟨d,h1,h2⟩:=h
  rcases I.hit _ _ h1 with⟨e,he,_⟩ | ⟨y,hy,e1,e2⟩
  ·rw[hq] at he;cases he
  ·exact⟨y,hy,e1,by rw[e2];exact h2⟩
 induction h with
 | start a b=>exact hi _ _ _ a b
 | @word n r cut c part e pr hd hr hp ho hs ih=>
  obtain⟨y,hy,ek,hle⟩:=done ih
  obtain⟨hn,hpt,_,hlast⟩:=uA (G:=G) ek
  have hyn:=(I.pr y hy).2.2.ne
  have:=o.wrd y hy part (by rw[hpt,part_of hr];exact hp) ho (e,pr) (by rw[hlast];exact hs)
  obtain⟨d,h1,h2⟩:=this
  refine⟨d,?_,h2.trans ?_⟩
  ·have ek':bM n y.2.1=bM n cut:=by rw[<-ek];unfold lO;rw[hn]
   rw[<-HZ ek' hyn hd.ne,<-hn];exact h1
  ·unfold Le at hle ⊢;simp only at *;lia
 | @name n n' r cut cut' c m part hd hr hp ho hd' hfin hnm hhd ih ih'=>
  obtain⟨y,hy,ek,hle⟩:=done ih
  obtain⟨hn,hpt,_,hlast⟩:=uA (G:=G) ek
  obtain⟨y',hy',ek',hle'⟩:=done ih'
  obtain⟨hn',hpt',hfact,_⟩:=uA (G:=G) ek'
  obtain⟨m0,k0,hb,hm0⟩:=o.fin y' hy' (by rw[hpt'];exact hfin)
  rw[hfact] at hb
  have hb':aG st.best (part,cut.getLastD 0,cut'.getLastD 0)=some (m0,k0):=by
   have:cE G n' cut'=(part,cut.getLastD 0,cut'.getLastD 0):=by unfold cE;rw[hnm,hhd]
   rw[<-this];exact hb
  have hz:=(o.ends part (cut.getLastD 0) (cut'.getLastD 0) m0).mpr ⟨k0,hb'⟩
  have hyb:=o.nam y hy part (by rw[hpt,part_of hr];exact hp) ho
  rw[hlast] at hyb
  have hyn:=(I.pr y hy).2.2.ne
  obtain⟨d,h1,h2⟩:=o.pair _ y hyb _ hz
  refine⟨d,?_,h2.trans (XT hle (hm0.trans hle'))⟩
  have ek2:bM n y.2.1=bM n cut:=by rw[<-ek];unfold lO;rw[hn]
  rw[<-HZ ek2 hyn hd.ne,<-hn];exact h1
theorem IA{G:Sr}{st:SS}{P:List bY}{cur:aK}(I:e9 G st P cur)(o:Ob G st P cur)(hi:yF G st)(hq:st.q=[]){n:Nat}{cut:List Int}{c:aK}(h:DI G n cut c)(hf:dP G n cut=none):∃ m k,aG st.best (cE G n cut)=some (m,k)/\Le m c:=by
 obtain⟨d,h1,h2⟩:=X6 I o hi hq h
 rcases I.hit _ _ h1 with⟨e,he,_⟩ | ⟨y,hy,e1,e2⟩
 ·rw[hq] at he;cases he
 ·obtain⟨_,hpt,hfact,_⟩:=uA (G:=G) e1
  obtain⟨m,k,hb,hm⟩:=o.fin y hy (by rw[hpt];exact hf)
  rw[hfact] at hb
  exact⟨m,k,hb,hm.trans (by rw[e2];exact h2)⟩
theorem yG{G:Sr}{B:bV}(h:∀ f m n cut,aG B f=some (m,n,cut)->DI G n cut m/\dP G n cut=none/\f=cE G n cut){n:Nat}{cut:List Int}{c:aK}(g:GI G B n cut c):DI G n cut c:=by
 induction g with
 | start a b=>exact .start a b
 | word _ a b c d ih=>exact .word ih a b c d
 | name hgi hr hp ho hb ih=>
  rename_i k
  obtain⟨n',cut'⟩:=k
  obtain⟨h1,h2,h3⟩:=h _ _ _ _ hb
  unfold cE at h3
  simp only[Dl] at h3
  obtain⟨e1,e2,e3⟩:=h3
  rw[e3]
  exact .name ih hr hp ho h1 h2 e1.symm e2.symm
theorem nT{κ β:Type}[DecidableEq κ]{t:List (κ×β)}{k:κ}{v:β}(h:aG t k=some v):∃ a b,t=a ++ (k,v) :: b:=by
 induction t with
 | nil=>cases h
 | cons e t ih=>
  rw[cQ] at h
  by_cases hk:e.1=k
  ·rw[if_pos hk] at h
   cases h
   exact⟨[],t,by rw[<-hk];rfl⟩
  ·rw[if_neg hk] at h
   obtain⟨a,b,rfl⟩:=ih h
   exact⟨e :: a,b,rfl⟩
theorem X7{G:Sr}{st:SS}{P:List bY}{cur:aK}(o:Ob G st P cur):∀ (k:Nat) (pre:bV) (e:bA×aK×Nat×List Int) (post:bV),pre.length=k->st.best=pre ++ e :: post->DI G e.2.2.1 e.2.2.2 e.2.1:=by
 intro k
 induction k using Nat.strongRecOn with
 | _ k ih=>
  intro pre e post hk hb
  obtain⟨g,_⟩:=o.ord pre e post hb
  refine yG (B:=pre) (fun f m n cut hf=>?_) g
  obtain⟨a,b,hab⟩:=nT hf
  have hb2:st.best=a ++ (f,m,n,cut) :: (b ++ e :: post):=by rw[hb,hab];simp
  have hlen:a.length < k:=by rw[<-hk,hab];simp
  have hd:=ih a.length hlen a _ _ rfl hb2
  have hnone:=(o.ord a _ _ hb2).2
  have hf2:aG st.best f=some (m,n,cut):=by
   rw[hb2]
   have:∀ {a:bV} {x:bA×aK×Nat×List Int} {r:bV},aG a x.1=none->aG (a ++ x :: r) x.1=some x.2:=by
    intro a
    induction a with
    | nil=>intro x r _;rw[Jr,cQ,if_pos rfl]
    | cons y a ih2=>
     intro x r h
     rw[cQ] at h
     rw[List.cons_append,cQ]
     by_cases hy:y.1=x.1
     ·rw[if_pos hy] at h;cases h
     ·rw[if_neg hy] at h ⊢
      exact ih2 h
   exact this (x:=(f,m,n,cut)) hnone
  obtain⟨h1,h2,_⟩:=o.bst f m n cut hf2
  exact⟨hd,h1,h2⟩
theorem rE{G:Sr}{st:SS}{P:List bY}{cur:aK}(o:Ob G st P cur){f:bA}{m:aK}{n:Nat}{cut:List Int}(h:aG st.best f=some (m,n,cut)):DI G n cut m/\dP G n cut=none/\f=cE G n cut:=by
 obtain⟨a,b,hab⟩:=nT h
 obtain⟨h1,h2,_⟩:=o.bst f m n cut h
 exact⟨X7 o a.length a _ b rfl hab,h1,h2⟩
theorem IC(st:SS)(n:Nat)(cut:List Int)(c:aK):∃ j,j<=1/\(a8 (reach st n cut c).q).length=(a8 st.q).length + j/\(reach st n cut c).reached.length<=st.reached.length + j:=by
 have push:∃ j,j<=1/\(a8 (dO c (n,cut) st.q)).length=(a8 st.q).length + j/\(bE st.reached (bM n cut) c).length<=st.reached.length + j:=⟨1,Ai _,t9 _ _ _,t7 _ _ _⟩
 unfold reach
 cases aG st.reached (bM n cut) with
 | none=>exact push
 | some d=>
  simp only
  split
  ·exact push
  ·exact⟨0,by lia,rfl,by lia⟩
theorem rF{α:Type}(f:α->Nat×List Int×aK):∀ (xs:List α) (st:SS),∃ j,j<=xs.length/\(a8 (xs.foldl (fun st x=>reach st (f x).1 (f x).2.1 (f x).2.2) st).q).length=(a8 st.q).length + j/\(xs.foldl (fun st x=>reach st (f x).1 (f x).2.1 (f x).2.2) st).reached.length<=st.reached.length + j
 | [],st=>⟨0,Ai _,rfl,Ai _⟩
 | x :: xs,st=>by
  obtain⟨j1,h1,h2,h3⟩:=IC st (f x).1 (f x).2.1 (f x).2.2
  obtain⟨j2,g1,g2,g3⟩:=rF f xs (reach st (f x).1 (f x).2.1 (f x).2.2)
  refine⟨j1 + j2,by rw[Bs];lia,?_,?_⟩
  ·rw[Ec,g2,h2];lia
  ·rw[Ec];lia
def gH(G:Sr)(S:Nat)(st:SS)(y:bY):Nat:=match dP G y.1 y.2.1 with
 | none=>0
 | some part=>if G.own part=true then((aG st.ends (part,y.2.1.getLastD 0)).getD []).length else S
structure Cn(G:Sr)(S I0:Nat)(st:SS)(P:List bY)(T:Nat):Prop where
 put:(a8 st.q).length + T<=I0 + (P.map (gH G S st)).sum
 rch:st.reached.length<=(a8 st.q).length + T
 bnd:∀ key,((aG st.begun key).getD []).Nodup
 enn:∀ key,(((aG st.ends key).getD []).map Fj).Nodup
theorem uB(f:bY->Nat)(P:List bY)(x:bY):((P ++ [x]).map f).sum=(P.map f).sum + f x:=by simp
theorem yH{G:Sr}{S:Nat}{st st':SS}(h:st'.ends=st.ends):gH G S st'=gH G S st:=by
 funext y;unfold gH;rw[h]
theorem X8{G:Sr}{S I0 T:Nat}{st:SS}{P:List bY}{c:aK}{n:Nat}{cut:List Int}{part:Str}(C:Cn G S I0 st P T)(hS:∀ t p,(G.steps t p).length<=S)(hp:dP G n cut=some part)(ho:G.own part=false):Cn G S I0 (fS G st n cut c part) (P ++ [(n,cut,c)]) T:=by
 obtain⟨j,h1,h2,h3⟩:=rF (fun z:Int×Int=>(n,cut ++ [z.1],(c.1 + z.2,c.2))) (G.steps part (cut.getLastD 0)) st
 have keep:∀ (xs:List (Int×Int)) (st:SS),(xs.foldl (fun st z=>reach st n (cut ++ [z.1]) (c.1 + z.2,c.2)) st).ends=st.ends/\(xs.foldl (fun st z=>reach st n (cut ++ [z.1]) (c.1 + z.2,c.2)) st).begun=st.begun:=by
  intro xs
  induction xs with
  | nil=>intro st;exact⟨rfl,rfl⟩
  | cons x xs ih=>
   intro st
   rw[Ec]
   obtain⟨e1,e2⟩:=ih (reach st n (cut ++ [x.1]) (c.1 + x.2,c.2))
   have hr:(reach st n (cut ++ [x.1]) (c.1 + x.2,c.2)).ends=st.ends/\(reach st n (cut ++ [x.1]) (c.1 + x.2,c.2)).begun=st.begun:=by
    unfold reach
    split
    ·split <;> exact⟨rfl,rfl⟩
    ·exact⟨rfl,rfl⟩
   exact⟨e1.trans hr.1,e2.trans hr.2⟩
 obtain⟨k1,k2⟩:=keep (G.steps part (cut.getLastD 0)) st
 have k1':(fS G st n cut c part).ends=st.ends:=k1
 have k2':(fS G st n cut c part).begun=st.begun:=k2
 have h2':(a8 (fS G st n cut c part).q).length=(a8 st.q).length + j:=h2
 have h3':(fS G st n cut c part).reached.length<=st.reached.length + j:=h3
 have hs:=hS part (cut.getLastD 0)
 have hput:=C.put
 have hrch:=C.rch
 refine⟨?_,by lia,fun key=>by rw[k2'];exact C.bnd key,fun key=>by rw[k1'];exact C.enn key⟩
 rw[yH k1',uB,h2']
 have:gH G S st (n,cut,c)=S:=by
  unfold gH
  rw[hp]
  simp only
  rw[if_neg (by rw[ho];decide)]
 lia
theorem X9(st:SS)(n:Nat)(cut:List Int)(c:aK):(reach st n cut c).ends=st.ends/\(reach st n cut c).begun=st.begun/\(reach st n cut c).best=st.best:=by
 unfold reach
 split
 ·split <;> exact⟨rfl,rfl,rfl⟩
 ·exact⟨rfl,rfl,rfl⟩
theorem yI{α:Type}(f:α->Nat×List Int×aK):∀ (xs:List α) (st:SS),(xs.foldl (fun st x=>reach st (f x).1 (f x).2.1 (f x).2.2) st).ends=st.ends/\(xs.foldl (fun st x=>reach st (f x).1 (f x).2.1 (f x).2.2) st).begun=st.begun/\(xs.foldl (fun st x=>reach st (f x).1 (f x).2.1 (f x).2.2) st).best=st.best
 | [],st=>⟨rfl,rfl,rfl⟩
 | x :: xs,st=>by
  rw[Ec]
  obtain⟨h1,h2,h3⟩:=yI f xs (reach st (f x).1 (f x).2.1 (f x).2.2)
  obtain⟨g1,g2,g3⟩:=X9 st (f x).1 (f x).2.1 (f x).2.2
  exact⟨h1.trans g1,h2.trans g2,h3.trans g3⟩
theorem YA{G:Sr}{S I0 T:Nat}{st:SS}{P:List bY}{cur c:aK}{n:Nat}{cut:List Int}{part:Str}(C:Cn G S I0 st P T)(o:Ob G st P cur)(hnew:(n,cut,c)∉P)(hp:dP G n cut=some part)(ho:G.own part=true):Cn G S I0 (fH st n cut c part) (P ++ [(n,cut,c)]) T:=by
 obtain⟨st1,hst1⟩:∃ z:SS,z = {st with begun:=eV st.begun (part,cut.getLastD 0) (n,cut,c)}:=⟨_,rfl⟩
 obtain⟨j,h1,h2,h3⟩:=rF (fun z:Int×aK=>(n,cut ++ [z.1],dB c z.2)) ((aG st.ends (part,cut.getLastD 0)).getD []) st1
 obtain⟨k1,k2,_⟩:=yI (fun z:Int×aK=>(n,cut ++ [z.1],dB c z.2)) ((aG st.ends (part,cut.getLastD 0)).getD []) st1
 have k1':(fH st n cut c part).ends=st.ends:=by
  have:(fH st n cut c part).ends=st1.ends:=by rw[hst1] at k1 ⊢;exact k1
  rw[this,hst1]
 have k2':(fH st n cut c part).begun=eV st.begun (part,cut.getLastD 0) (n,cut,c):=by
  have:(fH st n cut c part).begun=st1.begun:=by rw[hst1] at k2 ⊢;exact k2
  rw[this,hst1]
 have h2':(a8 (fH st n cut c part).q).length=(a8 st.q).length + j:=by rw[hst1] at h2;exact h2
 have h3':(fH st n cut c part).reached.length<=st.reached.length + j:=by rw[hst1] at h3;exact h3
 have hput:=C.put
 have hrch:=C.rch
 refine⟨?_,by lia,fun key=>?_,fun key=>by rw[k1'];exact C.enn key⟩
 ·rw[yH k1',uB,h2']
  have:gH G S st (n,cut,c)=((aG st.ends (part,cut.getLastD 0)).getD []).length:=by
   unfold gH
   rw[hp]
   simp only
   rw[if_pos ho]
  lia
 ·rw[k2',rC]
  split
  ·rename_i h
   rw[Ef]
   refine⟨C.bnd key,by simp,fun a ha b hb e=>?_⟩
   rw[Aw] at hb
   rw[e,hb] at ha
   exact hnew (o.bgn key _ ha).1
  ·exact C.bnd key
theorem len_sub{α:Type}[DecidableEq α]:∀ {a b:List α},a.Nodup->(∀ x∈a,x∈b)->a.length<=b.length
 | [],b,_,_=>Bv _
 | x :: a,b,hn,hs=>by
  rw[Cr] at hn
  have hx:=hs x Bd
  have ih:=len_sub (a:=a) (b:=b.erase x) hn.2 fun y hy=>by
   have hne:y≠x:=fun e=>hn.1 (by rw[<-e];exact hy)
   exact(List.mem_erase_of_ne hne).mpr (hs y (Au _ hy))
  rw[List.length_erase_of_mem hx] at ih
  have:=List.length_pos_of_mem hx
  rw[Bs];lia
theorem ID{f g:bY->Nat}{p:bY->Bool}:∀ {P:List bY},(∀ y∈P,g y=f y + if p y=true then 1 else 0)->(P.map g).sum=(P.map f).sum + (P.filter p).length
 | [],_=>rfl
 | y :: P,h=>by
  have ih:=ID (P:=P) fun z hz=>h z (Au _ hz)
  rw[Ay,Ay,List.sum_cons,List.sum_cons,ih,h y Bd,Ed]
  split <;> simp <;> lia
theorem YB{G:Sr}{S I0 T:Nat}{st:SS}{P:List bY}{cur c:aK}{n:Nat}{cut:List Int}(C:Cn G S I0 st P T)(o:Ob G st P cur)(hp:dP G n cut=none):Cn G S I0 (settle G st n cut c) (P ++ [(n,cut,c)]) T:=by
 have hdeg0:∀ st',gH G S st' (n,cut,c)=0:=fun st'=>by unfold gH;rw[hp]
 have hput:=C.put
 have hrch:=C.rch
 unfold settle
 cases hf:aG st.best (cE G n cut) with
 | some v=>
  simp only
  refine⟨?_,C.rch,C.bnd,C.enn⟩
  rw[uB,hdeg0];lia
 | none=>
  simp only
  obtain⟨st1,hst1⟩:∃ z:SS,z = {st with best:=st.best ++ [(cE G n cut,c,n,cut)],ends:=eV st.ends (c7 G n,cut.headD 0) (cut.getLastD 0,c)}:=⟨_,rfl⟩
  rw[<-hst1]
  obtain⟨j,h1,h2,h3⟩:=rF (fun y:bY=>(y.1,y.2.1 ++ [cut.getLastD 0],dB y.2.2 c)) ((aG st.begun (c7 G n,cut.headD 0)).getD []) st1
  obtain⟨k1,k2,_⟩:=yI (fun y:bY=>(y.1,y.2.1 ++ [cut.getLastD 0],dB y.2.2 c)) ((aG st.begun (c7 G n,cut.headD 0)).getD []) st1
  obtain⟨st2,hst2⟩:∃ z,z=((aG st.begun (c7 G n,cut.headD 0)).getD []).foldl (fun st y=>reach st y.1 (y.2.1 ++ [cut.getLastD 0]) (dB y.2.2 c)) st1:=⟨_,rfl⟩
  rw[<-hst2] at h2 h3 k1 k2 ⊢
  have E:st2.ends=eV st.ends (c7 G n,cut.headD 0) (cut.getLastD 0,c):=by rw[k1,hst1]
  have N:st2.begun=st.begun:=by rw[k2,hst1]
  have q1:(a8 st1.q).length=(a8 st.q).length:=by rw[hst1]
  have r1:st1.reached.length=st.reached.length:=by rw[hst1]
  obtain⟨pk,hpk⟩:∃ pk:bY->Bool,pk=fun y=>decide (dP G y.1 y.2.1=some (c7 G n)/\G.own (c7 G n)=true/\y.2.1.getLastD 0=cut.headD 0):=⟨_,rfl⟩
  have hsum:(P.map (gH G S st2)).sum=(P.map (gH G S st)).sum + (P.filter pk).length:=ID fun y hy=>by
   unfold gH
   cases hpt:dP G y.1 y.2.1 with
   | none=>rw[hpk];simp[hpt]
   | some part=>
    simp only
    cases ho:G.own part with
    | false=>
     rw[hpk]
     simp only[hpt,Gb]
     rw[if_neg (by decide),if_neg (by decide),if_neg (by rw[decide_eq_true_eq];rintro⟨h1,h2,_⟩;rw[<-h1,ho] at h2;cases h2)]
     rfl
    | true=>
     rw[if_pos rfl,if_pos rfl,E,rC]
     by_cases h:(c7 G n,cut.headD 0)=(part,y.2.1.getLastD 0)
     ·rw[if_pos h]
      simp only[Dl] at h
      rw[hpk]
      simp only[hpt,Gb]
      rw[if_pos (by rw[decide_eq_true_eq];exact⟨h.1.symm,by rw[h.1];exact ho,h.2.symm⟩)]
      simp
     ·rw[if_neg h]
      rw[hpk]
      simp only[hpt,Gb]
      rw[if_neg (by rw[decide_eq_true_eq];rintro⟨h1,_,h3⟩;exact h (by rw[h1,h3]))]
      lia
  have hbl:((aG st.begun (c7 G n,cut.headD 0)).getD []).length<=(P.filter pk).length:=len_sub (C.bnd _) fun y hy=>by
   obtain⟨g1,g2,g3,g4,_⟩:=o.bgn _ y hy
   rw[Es,hpk]
   exact⟨g1,decide_eq_true ⟨g2,g3,g4⟩⟩
  refine⟨?_,by lia,fun key=>by rw[N];exact C.bnd key,fun key=>?_⟩
  ·rw[uB,hdeg0,hsum];lia
  ·rw[E,rC]
   split
   ·rename_i h
    rw[Ax,Ef]
    refine⟨C.enn key,by simp,fun a ha b hb e=>?_⟩
    obtain⟨z,hz,rfl⟩:=Ba.mp ha
    rw[List.map_singleton,Aw] at hb
    rw[<-h] at hz
    obtain⟨k,hk⟩:=(o.ends _ _ z.1 z.2).mp hz
    rw[e,hb] at hk
    have:aG st.best (cE G n cut)=some (z.2,k):=hk
    rw[hf] at this;cases this
   ·exact C.enn key
def lP(G:Sr)(st:SS):SS:=match iD st.q with
 | none=>st
 | some (c,(n,cut),q')=>match aG st.reached (bM n cut) with
  | some d=>if cI d c=true then {st with q:=q'} else process G {st with q:=q'} n cut c
  | none=>{st with q:=q'}
structure All(G:Sr)(S I0:Nat)(st:SS)(P:List bY)(cur:aK)(T:Nat):Prop where
 inv:e9 G st P cur
 ob:Ob G st P cur
 ini:yF G st
 cn:Cn G S I0 st P T
theorem Cn.q{G:Sr}{S I0 T:Nat}{st:SS}{P:List bY}{q':List (aK×List (Nat×List Int))}(C:Cn G S I0 st P T)(h:(a8 st.q).length=(a8 q').length + 1):Cn G S I0 {st with q:=q'} P (T + 1):=by
 have h1:=C.put
 have h2:=C.rch
 refine⟨?_,?_,C.bnd,C.enn⟩
 ·show(a8 q').length + (T + 1)<=_
  rw[yH (st':={st with q:=q'}) (st:=st) rfl]
  lia
 ·show st.reached.length<=(a8 q').length + (T + 1)
  lia
theorem YC{G:Sr}{S I0 T:Nat}{st:SS}{P:List bY}{cur c:aK}{n:Nat}{cut:List Int}(C:Cn G S I0 st P T)(o:Ob G st P cur)(hS:∀ t p,(G.steps t p).length<=S)(hnew:(n,cut,c)∉P):Cn G S I0 (process G st n cut c) (P ++ [(n,cut,c)]) T:=by
 unfold process
 cases hp:dP G n cut with
 | none=>exact YB C o hp
 | some part=>
  simp only
  cases ho:G.own part with
  | true=>rw[if_pos rfl];exact YA C o hnew hp ho
  | false=>rw[if_neg (by decide)];exact X8 C hS hp ho
theorem YD{G:Sr}(ok:nS G){S I0 T:Nat}{st:SS}{P:List bY}{cur:aK}(A:All G S I0 st P cur T)(hS:∀ t p,(G.steps t p).length<=S)(hq:st.q≠[]):∃ P' cur',All G S I0 (lP G st) P' cur' (T + 1):=by
 obtain⟨c,x,q',e1,f1,m1,l1,c1,_⟩:=nR A.inv.fall hq
 obtain⟨n,cut⟩:=x
 have hin:(c,(n,cut))∈a8 st.q:=(m1 _).mpr (.inl rfl)
 obtain⟨d,hd,hle⟩:=A.inv.ge _ hin
 unfold lP
 rw[e1]
 simp only
 rw[hd]
 simp only
 by_cases hl:cI d c=true
 ·rw[if_pos hl]
  obtain⟨I1,hc⟩:=X1 A.inv e1 hd hl
  exact⟨P,c,I1,A.ob.later hc q',A.ini,A.cn.q l1⟩
 ·rw[if_neg hl]
  have hdc:d=c:=Le.antisymm hle (yB.mpr hl)
  subst hdc
  obtain⟨I1,hc,g⟩:=XZ A.inv e1 hd
  have o1:=A.ob.later hc q'
  obtain⟨I2,o2,le2⟩:=X5 ok I1 o1 g
  refine⟨_,_,I2,o2,fun n r p h1 h2=>le2 _ _ (A.ini n r p h1 h2),YC (A.cn.q l1) o1 hS fun hm=>?_⟩
  have hn:=I1.once
  rw[Ax,Ef] at hn
  exact hn.2.2 _ (Ba.mpr ⟨_,hm,rfl⟩) _ (by simp) rfl
def gJ:SS:=⟨[],[],[],[],[]⟩
def jZ(G:Sr):List (Nat×Int):=(Cw G.rs.length).flatMap fun n=>G.places.map fun p=>(n,p)
def kP(G:Sr):SS:=(jZ G).foldl (fun st x=>reach st x.1 [x.2] (G.wt x.1,1)) gJ
theorem YE{G:Sr}(ok:nS G)(S:Nat):All G S (jZ G).length (kP G) [] (0,0) 0:=by
 have I0:e9 G gJ [] (0,0):=⟨trivial,(fun e he=>nomatch he),(fun e he=>nomatch he),Cy,Cy,(fun y hy=>nomatch hy),(fun e he=>nomatch he),(fun e he=>nomatch he),(fun k d hd=>nomatch hd)⟩
 have hmem:∀ x∈jZ G,(∃ r,G.rs[x.1]? = some r)/\x.2∈G.places:=fun x hx=>by
  obtain⟨n,hn,hx⟩:=Dw.mp hx
  obtain⟨p,hp,rfl⟩:=Ba.mp hx
  exact⟨⟨_,An (Ht.mp hn)⟩,hp⟩
 obtain⟨I1,g1,r1⟩:=rD (fun x:Nat×Int=>(x.1,[x.2],(G.wt x.1,(1:Int)))) (jZ G) I0 fun x hx=>by
  obtain⟨⟨r,hr⟩,hp⟩:=hmem x hx
  refine⟨.start hr hp,?_⟩
  have:=ok.wt x.1
  show Le (0,0) (G.wt x.1,1)
  unfold Le;simp only;lia
 obtain⟨j,h1,h2,h3⟩:=rF (fun x:Nat×Int=>(x.1,[x.2],(G.wt x.1,(1:Int)))) (jZ G) gJ
 have b0:(kP G).best=[]:=g1.best
 have e0:(kP G).ends=[]:=g1.ends
 have n0:(kP G).begun=[]:=g1.begun
 refine⟨I1,⟨Le.refl _,(fun y hy=>nomatch hy),(fun y hy=>nomatch hy),(fun y hy=>nomatch hy),fun key y hy=>?_,fun key y hy=>?_,fun nm b e m=>?_,fun f m n cut e=>?_,fun pre e post h=>?_⟩,fun n r p hr hp=>?_,⟨?_,?_,fun key=>?_,fun key=>?_⟩⟩
 ·rw[n0] at hy;cases hy
 ·rw[n0] at hy;cases hy
 ·rw[e0,b0]
  exact⟨(fun z=>nomatch z),(fun⟨k,hk⟩=>nomatch hk)⟩
 ·rw[b0] at e;cases e
 ·rw[b0] at h
  cases pre <;> cases h
 ·exact r1 (n,p) (Dw.mpr ⟨n,Ht.mpr (Aj.mp hr).1,Ba.mpr ⟨p,hp,rfl⟩⟩)
 ·have h2:(a8 (kP G).q).length=(a8 gJ.q).length + j:=h2
  have:(a8 gJ.q).length=0:=rfl
  simp only[Fv,List.sum_nil]
  lia
 ·have h2:(a8 (kP G).q).length=(a8 gJ.q).length + j:=h2
  have h3:(kP G).reached.length<=gJ.reached.length + j:=h3
  have e1:(a8 gJ.q).length=0:=rfl
  have e2:gJ.reached.length=0:=rfl
  lia
 ·rw[n0];exact Cy
 ·rw[e0];exact Cy
structure rG(G:Sr)(V:List Int)(N L:Nat):Prop where
 pl:∀ p∈G.places,p∈V
 st:∀ t p e c,p∈V->(e,c)∈G.steps t p->e∈V
 few:G.rs.length<=N
 len:∀ r∈G.rs,r.parts.length + 1<=L
theorem pL{l:List Int}(h:l≠[]):l.getLastD 0∈l:=by
 rcases Dh l with z | ⟨a,b,z⟩
 ·exact absurd z h
 ·rw[z,Dj];simp[Gg]
theorem yJ{l:List Int}(h:l≠[]):l.headD 0∈l:=by
 cases l with
 | nil=>exact absurd rfl h
 | cons a b=>simp
theorem pM{G:Sr}{V:List Int}{N L:Nat}(v:rG G V N L){n:Nat}{cut:List Int}{c:aK}(h:DI G n cut c):(∀ x∈cut,x∈V)/\n < N/\cut.length<=L:=by
 induction h with
 | @start n r p hr hp=>
  have hn:=(Aj.mp hr).1
  have:=v.len r (Be hr)
  have:=v.few
  exact⟨fun x hx=>by rw[Aw.mp hx];exact v.pl p hp,by lia,by simp;lia⟩
 | @word n r cut c part e pr hd hr hp ho hs ih=>
  obtain⟨h1,h2,h3⟩:=ih
  have hl:=(Aj.mp hp).1
  have:=v.len r (Be hr)
  have hne:=Ft.mpr hd.ne
  refine⟨fun x hx=>?_,h2,by rw[Ak,Bk];lia⟩
  rcases Bo.mp hx with z | z
  ·exact h1 x z
  ·rw[Aw.mp z];exact v.st _ _ _ _ (h1 _ (pL hd.ne)) hs
 | @name n n' r cut cut' c m part hd hr hp ho hd' hf hn hh ih ih'=>
  obtain⟨h1,h2,h3⟩:=ih
  obtain⟨g1,_,_⟩:=ih'
  have hl:=(Aj.mp hp).1
  have:=v.len r (Be hr)
  have hne:=Ft.mpr hd.ne
  refine⟨fun x hx=>?_,h2,by rw[Ak,Bk];lia⟩
  rcases Bo.mp hx with z | z
  ·exact h1 x z
  ·rw[Aw.mp z];exact g1 _ (pL hd'.ne)
def uC(V:List Int)(N L:Nat):List K4:=(Cw N).flatMap fun n=>(Cw (L + 1)).flatMap fun l=>V.flatMap fun a=>V.map fun b=>(n,l,a,b)
theorem mT{α β:Type}{f:α->List β}{k:Nat}:∀ {l:List α},(∀ x∈l,(f x).length=k)->(l.flatMap f).length=l.length * k
 | [],_=>by simp
 | x :: l,h=>by
  rw[List.flatMap_cons,Ak,h x Bd,mT fun y hy=>h y (Au _ hy),Bs,Nat.succ_mul];lia
theorem YF(V:List Int)(N L:Nat):(uC V N L).length=N * ((L + 1) * (V.length * V.length)):=by
 unfold uC
 rw[mT (k:=(L + 1) * (V.length * V.length)) fun n _=>?_,Eg]
 rw[mT (k:=V.length * V.length) fun l _=>?_,Eg]
 rw[mT (k:=V.length) fun a _=>by rw[Ab]]
theorem IE{G:Sr}{V:List Int}{N L S I0 T:Nat}{st:SS}{P:List bY}{cur:aK}(v:rG G V N L)(A:All G S I0 st P cur T):P.length<=N * ((L + 1) * (V.length * V.length))/\(∀ key,((aG st.ends key).getD []).length<=V.length)/\(a8 st.q).length + T<=I0 + N * ((L + 1) * (V.length * V.length)) * (S + V.length):=by
 have hin:∀ {B:bV} {n cut c},B=st.best->GI G B n cut c->DI G n cut c:=fun {B n cut c} e g=>yG (B:=B) (fun f m n' cut' h=>rE A.ob (by rw[<-e];exact h)) g
 have hP:P.length<=N * ((L + 1) * (V.length * V.length)):=by
  have:=len_sub (b:=uC V N L) A.inv.once fun k hk=>by
   obtain⟨y,hy,rfl⟩:=Ba.mp hk
   have hd:=hin rfl (A.inv.pr y hy).2.2
   obtain⟨h1,h2,h3⟩:=pM v hd
   unfold uC
   refine Dw.mpr ⟨y.1,Ht.mpr h2,Dw.mpr ⟨y.2.1.length,Ht.mpr (by lia),Dw.mpr ⟨_,h1 _ (yJ hd.ne),Ba.mpr ⟨_,h1 _ (pL hd.ne),rfl⟩⟩⟩⟩
  rw[Ab,YF] at this
  exact this
 have hE:∀ key,((aG st.ends key).getD []).length<=V.length:=fun key=>by
  have:=len_sub (b:=V) (A.cn.enn key) fun e he=>by
   obtain⟨z,hz,rfl⟩:=Ba.mp he
   obtain⟨k,hk⟩:=(A.ob.ends key.1 key.2 z.1 z.2).mp hz
   obtain⟨n,cut⟩:=k
   obtain⟨hd,_,hf⟩:=rE A.ob hk
   unfold cE at hf
   simp only[Dl] at hf
   rw[hf.2.2]
   exact(pM v hd).1 _ (pL hd.ne)
  rw[Ab] at this
  exact this
 refine⟨hP,hE,?_⟩
 have hsum:(P.map (gH G S st)).sum<=P.length * (S + V.length):=by
  have hd:∀ y,gH G S st y<=S + V.length:=fun y=>by
   unfold gH
   split
   ·lia
   ·rename_i part _
    split
    ·have:=hE (part,y.2.1.getLastD 0)
     lia
    ·lia
  have:∀ l:List bY,(l.map (gH G S st)).sum<=l.length * (S + V.length):=by
   intro l
   induction l with
   | nil=>simp
   | cons y l ih=>rw[Ay,List.sum_cons,Bs,Nat.succ_mul];have:=hd y;lia
  exact this P
 have h1:=A.cn.put
 have h2:P.length * (S + V.length)<=N * ((L + 1) * (V.length * V.length)) * (S + V.length):=Nat.mul_le_mul_right _ hP
 lia
theorem pN{κ:Type}[DecidableEq κ]{kvs:List (κ×W)}{k j:κ}{w:W}:a9 (bZ kvs k w) j=if k=j then some w else a9 kvs j:=gF kvs k j w
theorem mU{κ:Type}[DecidableEq κ](e:κ×W)(t:List (κ×W))(k:κ):a9 (e :: t) k=if e.1=k then some e.2 else a9 t k:=cQ e t k
theorem uD{κ:Type}[DecidableEq κ]{k j:κ}:∀ {kvs:List (κ×W)},a9 (jG kvs k) j=if k=j then none else a9 kvs j
 | []=>by unfold jG;rw[List.filter_nil];split <;> rfl
 | e :: t=>by
  have ih:=uD (k:=k) (j:=j) (kvs:=t)
  unfold jG at ih ⊢
  rw[Ed]
  by_cases h:e.1=k
  ·rw[if_neg (by simp[h]),ih,mU]
   by_cases hj:k=j
   ·rw[if_pos hj,if_pos hj]
   ·rw[if_neg hj,if_neg hj,if_neg (by rw[h];exact hj)]
  ·rw[if_pos (by simp[h]),mU,ih,mU]
   by_cases hj:k=j
   ·rw[if_pos hj,if_pos hj,if_neg (by rw[<-hj];exact h)]
   ·rw[if_neg hj,if_neg hj]
theorem yK{κ:Type}[DecidableEq κ](kvs:List (κ×W))(k:κ)(w:W):(bZ kvs k w).length<=kvs.length + 1:=t7 kvs k w
theorem IF{κ:Type}[DecidableEq κ]{k:κ}:∀ {kvs:List (κ×W)},(a9 kvs k).isSome=true->(jG kvs k).length < kvs.length
 | [],h=>by cases h
 | e :: t,h=>by
  unfold jG
  rw[Ed]
  have hle:(t.filter fun kv=>decide (kv.1≠k)).length<=t.length:=Lo _ _
  by_cases he:e.1=k
  ·rw[if_neg (by simp[he]),Bs];omega
  ·rw[if_pos (by simp[he]),Bs,Bs]
   rw[mU,if_neg he] at h
   have:=IF h
   unfold jG at this
   omega
structure eD{κ:Type}(kk:κ->List aD)(M0 M:Mm)(a:Addr)(kvs:List (List aD×W))(g:κ->Option (List W)):Prop where
 sub:L3.Sub M0 M
 new:M0 a=none
 at_:M a=some (.dT kvs)
 non:∀ k,g k=none->a9 kvs (kk k)=none
 som:∀ k ws,g k=some ws->∃ p,a9 kvs (kk k)=some (.ref p)/\p≠a/\M0 p=none/\M p=some (.lst ws)
 inj:∀ k j p,a9 kvs (kk k)=some (.ref p)->a9 kvs (kk j)=some (.ref p)->k=j
theorem fI{M0 M:Mm}{p:Addr}{o:MO}(h:L3.Sub M0 M)(n:M0 p=none):L3.Sub M0 (put M p o):=fun a u e=>by
 rw[aN (fun z=>by rw[z,n] at e;cases e)];exact h a u e
section
variable {κ:Type}[DecidableEq κ]{kk:κ->List aD}{M0 M:Mm}{a p:Addr}{kvs:List (List aD×W)}{g:κ->Option (List W)}{o:MO}{k:κ}{ws:List W}
theorem eD.lift(h:eD kk M0 M a kvs g)(hp:M p=none\/∃ u,M0 p=some u):eD kk (put M0 p o) (put M p o) a kvs g:=by
 have ne:∀ {b:Addr},M0 b=none->(∃ u,M b=some u)->b≠p:=fun {b} h0 ⟨u,h1⟩ e=>by
  subst e
  rcases hp with z | ⟨v,z⟩
  ·rw[h1] at z;cases z
  ·rw[h0] at z;cases z
 refine⟨Sub.put h.sub,?_,?_,h.non,fun k ws e=>?_,h.inj⟩
 ·rw[aN (ne h.new ⟨_,h.at_⟩)];exact h.new
 ·rw[aN (ne h.new ⟨_,h.at_⟩)];exact h.at_
 ·obtain⟨q,h1,h2,h3,h4⟩:=h.som k ws e
  have:=ne h3 ⟨_,h4⟩
  exact⟨q,h1,h2,by rw[aN this];exact h3,by rw[aN this];exact h4⟩
theorem eD.more(h:eD kk M0 M a kvs g)(hp:M p=none):eD kk M0 (put M p o) a kvs g:=by
 have ne:∀ {b:Addr},(∃ u,M b=some u)->b≠p:=fun {b} ⟨u,h1⟩ e=>by subst e;rw[hp] at h1;cases h1
 refine⟨fI h.sub (h.sub.non hp),h.new,by rw[aN (ne ⟨_,h.at_⟩)];exact h.at_,h.non,fun k ws e=>?_,h.inj⟩
 obtain⟨q,h1,h2,h3,h4⟩:=h.som k ws e
 exact⟨q,h1,h2,h3,by rw[aN (ne ⟨_,h4⟩)];exact h4⟩
theorem eD.has(h:eD kk M0 M a kvs g)(e:g k=some ws):∃ p,a9 kvs (kk k)=some (.ref p)/\M p=some (.lst ws):=by
 obtain⟨q,h1,_,_,h4⟩:=h.som k ws e
 exact⟨q,h1,h4⟩
theorem eD.look(h:eD kk M0 M a kvs g)(k:κ):(a9 kvs (kk k)).isSome=(g k).isSome:=by
 cases e:g k with
 | none=>rw[h.non k e];rfl
 | some ws=>obtain⟨q,h1,_⟩:=h.has e;rw[h1];rfl
theorem eD.wr(h:eD kk M0 M a kvs g)(hk:a9 kvs (kk k)=some (.ref p)):eD kk M0 (put M p (.lst ws)) a kvs (fun j=>if k=j then some ws else g j):=by
 obtain⟨ws0,e0⟩:∃ ws0,g k=some ws0:=by
  cases e:g k with
  | none=>rw[h.non k e] at hk;cases hk
  | some ws=>exact⟨_,rfl⟩
 obtain⟨q,h1,h2,h3,h4⟩:=h.som k ws0 e0
 rw[hk] at h1
 cases h1
 refine⟨fI h.sub h3,h.new,by rw[aN (Bf h2)];exact h.at_,fun j e=>?_,fun j us e=>?_,h.inj⟩
 ·by_cases hj:k=j
  ·rw[if_pos hj] at e;cases e
  ·rw[if_neg hj] at e;exact h.non j e
 ·by_cases hj:k=j
  ·rw[if_pos hj] at e;cases e
   subst hj
   exact⟨p,hk,h2,h3,aT⟩
  ·rw[if_neg hj] at e
   obtain⟨q,g1,g2,g3,g4⟩:=h.som j us e
   refine⟨q,g1,g2,g3,?_⟩
   rw[aN (fun z=>hj (h.inj k j p hk (by rw[<-z];exact g1)))];exact g4
theorem eD.add(hkk:∀ k j,kk k=kk j->k=j)(h:eD kk M0 M a kvs g)(hg:g k=none)(hp:M p=none):eD kk M0 (put (put M p (.lst ws)) a (.dT (bZ kvs (kk k) (.ref p)))) a (bZ kvs (kk k) (.ref p)) (fun j=>if k=j then some ws else g j):=by
 have ne:∀ {b:Addr},(∃ u,M b=some u)->b≠p:=fun {b} ⟨u,h1⟩ e=>by subst e;rw[hp] at h1;cases h1
 have hpa:p≠a:=Bf (ne ⟨_,h.at_⟩)
 have refs:∀ j q,a9 kvs (kk j)=some (.ref q)->∃ u,M q=some u:=fun j q e=>by
  cases eg:g j with
  | none=>rw[h.non j eg] at e;cases e
  | some us=>
   obtain⟨q',g1,_,_,g4⟩:=h.som j us eg
   rw[e] at g1;cases g1
   exact⟨_,g4⟩
 refine⟨fI (fI h.sub (h.sub.non hp)) h.new,h.new,aT,fun j e=>?_,fun j us e=>?_,fun i j q e1 e2=>?_⟩
 ·by_cases hj:k=j
  ·rw[if_pos hj] at e;cases e
  ·rw[if_neg hj] at e
   rw[pN,if_neg (fun z=>hj (hkk _ _ z))];exact h.non j e
 ·by_cases hj:k=j
  ·rw[if_pos hj] at e;cases e
   subst hj
   exact⟨p,by rw[pN,if_pos rfl],hpa,h.sub.non hp,by rw[aN hpa,aT]⟩
  ·rw[if_neg hj] at e
   obtain⟨q,g1,g2,g3,g4⟩:=h.som j us e
   exact⟨q,by rw[pN,if_neg (fun z=>hj (hkk _ _ z))];exact g1,g2,g3,by rw[aN g2,aN (ne ⟨_,g4⟩)];exact g4⟩
 ·rw[pN] at e1 e2
  by_cases h1:kk k=kk i
  ·by_cases h2:kk k=kk j
   ·exact(hkk _ _ h1).symm.trans (hkk _ _ h2)
   ·rw[if_pos h1] at e1;rw[if_neg h2] at e2;cases e1
    obtain⟨u,z⟩:=refs j p e2;rw[hp] at z;cases z
  ·by_cases h2:kk k=kk j
   ·rw[if_neg h1] at e1;rw[if_pos h2] at e2;cases e2
    obtain⟨u,z⟩:=refs i p e1;rw[hp] at z;cases z
   ·rw[if_neg h1] at e1;rw[if_neg h2] at e2
    exact h.inj i j q e1 e2
theorem eD.del(hkk:∀ k j,kk k=kk j->k=j)(h:eD kk M0 M a kvs g):eD kk M0 (put M a (.dT (jG kvs (kk k)))) a (jG kvs (kk k)) (fun j=>if k=j then none else g j):=by
 refine⟨fI h.sub h.new,h.new,aT,fun j e=>?_,fun j us e=>?_,fun i j q e1 e2=>?_⟩
 ·rw[uD]
  by_cases hj:k=j
  ·rw[if_pos (by rw[hj])]
  ·rw[if_neg hj] at e
   rw[if_neg (fun z=>hj (hkk _ _ z))];exact h.non j e
 ·by_cases hj:k=j
  ·rw[if_pos hj] at e;cases e
  ·rw[if_neg hj] at e
   obtain⟨q,g1,g2,g3,g4⟩:=h.som j us e
   exact⟨q,by rw[uD,if_neg (fun z=>hj (hkk _ _ z))];exact g1,g2,g3,by rw[aN g2];exact g4⟩
 ·rw[uD] at e1 e2
  split at e1
  ·cases e1
  ·split at e2
   ·cases e2
   ·exact h.inj i j q e1 e2
theorem eD.same{g':κ->Option (List W)}(h:eD kk M0 M a kvs g)(e:∀ k,g' k=g k):eD kk M0 M a kvs g':=by
 have:g'=g:=funext e
 rw[this];exact h
end
structure Cc where
 q:Addr
 s:Addr
 f:Addr
 g:Addr
 p:Addr
def cW(c:aK):W:=.tup [.int c.1,.int c.2]
def cK(c:aK):List aD:=[Sum.inl c.1,Sum.inl c.2]
theorem YG(c:aK):cW c=.tup ((cK c).map wK):=rfl
theorem IG:∀ a b:aK,cK a=cK b->a=b:=fun a b h=>by
 unfold cK at h
 simp only[Cs,Ke,and_true] at h
 exact Lz h.1 h.2
def f9(cut:List Int):W:=.tup (cut.map W.int)
def j0(x:Nat×List Int):W:=.tup [.int x.1,f9 x.2]
section
variable {α:Type}
theorem uE{κ β:Type}[DecidableEq κ]{t:List (κ×β)}{k:κ}(h:∀ e∈t,e.1≠k):aG t k=none:=by
 induction t with
 | nil=>rfl
 | cons e t ih=>rw[cQ,if_neg (h e Bd)];exact ih fun x hx=>h x (Au _ hx)
theorem uF{a b:aK}(h:cI a b=true):a≠b:=fun e=>by subst e;exact rA h
theorem II(c:aK)(x:α)(d:aK):∀ {q:List (aK×List α)},gV q->aG (dO c x q) d=if c=d then some ((aG q c).getD [] ++ [x]) else aG q d
 | [],_=>by rw[dO,cQ];rfl
 | (e,xs) :: r,h=>by
  obtain⟨_,h2,h3⟩:=h
  rw[dO]
  by_cases h1:cI c e=true
  ·rw[if_pos h1,cQ,II c x d h3,cQ,cQ,if_neg (Bf (uF h1))]
   by_cases hd:e=d
   ·rw[if_pos hd,if_pos hd,if_neg (fun z=>uF h1 (z.trans hd.symm))]
   ·rw[if_neg hd,if_neg hd]
  ·rw[if_neg h1]
   by_cases h4:e=c
   ·subst h4
    rw[if_pos rfl,cQ,cQ,cQ,if_pos rfl]
    by_cases hd:e=d
    ·rw[if_pos hd,if_pos hd];rfl
    ·rw[if_neg hd,if_neg hd,if_neg hd]
   ·rw[if_neg h4,cQ]
    have hn:aG ((e,xs) :: r) c=none:=uE fun z hz=>by
     rcases Ar.mp hz with y | y
     ·rw[y];exact h4
     ·intro e1
      have:=h2 z y
      rw[e1] at this
      exact h1 this
    rw[hn];rfl
def pos(c:aK):List aK->Nat
 | []=>0
 | d :: r=>if cI c d=true then pos c r + 1 else 0
theorem IJ(c:aK):∀ cs:List aK,pos c cs<=cs.length
 | []=>Ai _
 | d :: r=>by
  rw[pos]
  split
  ·have:=IJ c r;simp;lia
  ·simp
theorem yL(c:aK)(x:α):∀ {q:List (aK×List α)},gV q->(aG q c).isSome=false->(dO c x q).map (·.1)=(q.map (·.1)).take (pos c (q.map (·.1))) ++ c :: (q.map (·.1)).drop (pos c (q.map (·.1)))
 | [],_,_=>rfl
 | (e,xs) :: r,h,hn=>by
  obtain⟨_,h2,h3⟩:=h
  rw[cQ] at hn
  by_cases h4:e=c
  ·rw[if_pos h4] at hn;cases hn
  ·rw[if_neg h4] at hn
   rw[dO,Ay,pos]
   by_cases h1:cI c e=true
   ·rw[if_pos h1,if_pos h1,Ay,yL c x h3 hn];rfl
   ·rw[if_neg h1,if_neg h1,if_neg h4];rfl
theorem IK(c:aK)(x:α):∀ {q:List (aK×List α)},gV q->(aG q c).isSome=true->(dO c x q).map (·.1)=q.map (·.1)
 | [],_,h=>by cases h
 | (e,xs) :: r,h,hn=>by
  obtain⟨_,h2,h3⟩:=h
  rw[cQ] at hn
  rw[dO]
  by_cases h1:cI c e=true
  ·rw[if_neg (Bf (uF h1))] at hn
   rw[if_pos h1,Ay,IK c x h3 hn];rfl
  ·rw[if_neg h1]
   by_cases h4:e=c
   ·rw[if_pos h4];rfl
   ·rw[if_neg h4] at hn
    obtain⟨ys,hy⟩:=Ej.mp hn
    have:∃ z∈r,z.1=c:=by
     have:∀ {t:List (aK×List α)},aG t c=some ys->∃ z∈t,z.1=c:=by
      intro t
      induction t with
      | nil=>intro e;cases e
      | cons b t ih=>
       intro e
       rw[cQ] at e
       by_cases hb:b.1=c
       ·exact⟨b,Bd,hb⟩
       ·rw[if_neg hb] at e
        obtain⟨z,h1,h2⟩:=ih e
        exact⟨z,Au _ h1,h2⟩
     exact this hy
    obtain⟨z,hz,e1⟩:=this
    have:=h2 z hz
    rw[e1] at this
    exact absurd this h1
theorem yM:∀ {q:List (aK×List α)},gV q->q.length<=(a8 q).length
 | [],_=>Ai _
 | (e,xs) :: r,h=>by
  obtain⟨h1,_,h3⟩:=h
  have:=yM h3
  have:=Ft.mpr h1
  rw[a8,Ak,Ab,Bs];lia
theorem IL:∀ {q:List (aK×List α)} {c:aK},((aG q c).getD []).length<=(a8 q).length
 | [],_=>Ai _
 | (e,xs) :: r,c=>by
  rw[cQ,a8,Ak,Ab]
  split
  ·show xs.length<=_;lia
  ·have:=IL (q:=r) (c:=c);lia
theorem IM:∀ {q q':List (aK×List α)} {c:aK} {x:α},gV q->iD q=some (c,x,q')->∃ r ys,q=r ++ [(c,ys ++ [x])]/\q'=(if ys.isEmpty then r else r ++ [(c,ys)])
 | [],q',c,x,_,h=>by cases h
 | [(d,xs)],q',c,x,hf,h=>by
  obtain⟨h1,_,_⟩:=hf
  rcases Dh xs with z | ⟨ys,y,z⟩
  ·exact absurd z h1
  ·rw[Dj] at z
   subst z
   simp[iD] at h
   obtain⟨rfl,rfl,rfl⟩:=h
   refine⟨[],ys,rfl,?_⟩
   cases ys <;> simp
 | e :: e2 :: r,q',c,x,hf,h=>by
  obtain⟨_,_,h3⟩:=hf
  rw[iD] at h
  split at h
  ·cases h
  ·rename_i d1 x1 q1 e1
   simp only[Gb,Dl] at h
   obtain⟨rfl,rfl,rfl⟩:=h
   obtain⟨r',ys,z1,z2⟩:=IM h3 e1
   refine⟨e :: r',ys,by rw[z1];rfl,?_⟩
   rw[z2]
   split <;> rfl
theorem uG{κ β:Type}[DecidableEq κ]{t:List (κ×β)}{k:κ}{v:β}(h:∀ e∈t,e.1≠k)(j:κ):aG (t ++ [(k,v)]) j=if k=j then some v else aG t j:=by
 rw[yC]
 by_cases hj:k=j
 ·subst hj;rw[if_pos rfl,if_pos rfl,uE h];rfl
 ·rw[if_neg hj,if_neg hj,Option.or_none]
theorem IP:∀ {r:List (aK×List α)} {c:aK} {ys:List α},gV (r ++ [(c,ys)])->∀ e∈r,e.1≠c
 | [],_,_,_,e,h=>nomatch h
 | b :: r,c,ys,h,e,he=>by
  obtain⟨_,h2,h3⟩:=h
  rcases Ar.mp he with z | z
  ·rw[z];exact Bf (uF (h2 (c,ys) (by simp)))
  ·exact IP h3 e z
theorem IS:∀ {q:List (aK×List α)},gV q->(q.map (·.1)).Pairwise fun a b=>cI b a=true
 | [],_=>.nil
 | (e,xs) :: r,h=>by
  obtain⟨_,h2,h3⟩:=h
  rw[Ay,List.pairwise_cons]
  refine⟨fun a ha=>?_,IS h3⟩
  obtain⟨z,hz,rfl⟩:=Ba.mp ha
  exact h2 z hz
end
theorem IT{c:aK}:∀ {cs:List aK} {k:Nat},k<=cs.length->(∀ i d,i < k->cs[i]? = some d->cI c d=true)->(∀ i d,k<=i->cs[i]? = some d->cI c d=false)->pos c cs=k
 | [],k,h,_,_=>by simp at h;subst h;rfl
 | d :: r,k,h,h1,h2=>by
  rw[pos]
  cases k with
  | zero=>rw[if_neg (by rw[h2 0 d (Ai _) rfl];decide)]
  | succ k=>
   rw[if_pos (h1 0 d (by lia) rfl),IT (k:=k) (by simpa using h) (fun i e hi he=>h1 (i + 1) e (by lia) (by simpa using he)) fun i e hi he=>h2 (i + 1) e (by lia) (by simpa using he)]
structure Aq where
 o:Addr
 d:Addr
 c:Addr
 w:Addr
def qf(A:Aq):List (Str×W):=[("costs",.ref A.c),("waiting",.ref A.w)]
theorem pO{A:Aq}:Cf ("costs" : Str) (qf A)=some (W.ref A.c):=by kernel_rfl
theorem pP{A:Aq}:Cf ("waiting" : Str) (qf A)=some (W.ref A.w):=by kernel_rfl
theorem YH{A:Aq}:Cf ("place_of" : Str) (qf A)=none:=by kernel_rfl
theorem YI{A:Aq}:Cf ("put" : Str) (qf A)=none:=by kernel_rfl
theorem YJ{A:Aq}:Cf ("take" : Str) (qf A)=none:=by kernel_rfl
theorem YK{A:Aq}:Cf ("is_done" : Str) (qf A)=none:=by kernel_rfl
structure Qm(C:Cc)(M0 M:Mm)(A:Aq)(cs:List aK):Prop where
 sub:L3.Sub M0 M
 no:M0 A.o=none
 nc:M0 A.c=none
 ne:A.o≠A.c
 ob:M A.o=some (.ins C.q A.d (qf A))
 co:M A.c=some (.lst (cs.map cW))
abbrev Qu:=List (aK×List (Nat×List Int))
abbrev wG(q:Qu):aK->Option (List W):=fun c=>(aG q c).map fun xs=>xs.map j0
structure QR(C:Cc)(M0 M:Mm)(A:Aq)(q:Qu):Prop where
 fall:gV q
 ex:∃ M1 kvs,Qm C M0 M1 A (q.map (·.1))/\eD cK M1 M A.w kvs (wG q)/\kvs.length<=q.length
theorem Qm.lift{C:Cc}{M0 M:Mm}{A:Aq}{cs:List aK}{p:Addr}{o:MO}(h:Qm C M0 M A cs)(hp:M p=none\/∃ u,M0 p=some u):Qm C (put M0 p o) (put M p o) A cs:=by
 have ne:∀ {b:Addr},M0 b=none->(∃ u,M b=some u)->b≠p:=fun {b} h0 ⟨u,h1⟩ e=>by
  subst e
  rcases hp with z | ⟨v,z⟩
  ·rw[h1] at z;cases z
  ·rw[h0] at z;cases z
 have n1:=ne h.no ⟨_,h.ob⟩
 have n2:=ne h.nc ⟨_,h.co⟩
 exact⟨Sub.put h.sub,by rw[aN n1];exact h.no,by rw[aN n2];exact h.nc,h.ne,by rw[aN n1];exact h.ob,by rw[aN n2];exact h.co⟩
theorem Qm.costs{C:Cc}{M0 M:Mm}{A:Aq}{cs cs':List aK}(h:Qm C M0 M A cs):Qm C M0 (put M A.c (.lst (cs'.map cW))) A cs':=
 ⟨fI h.sub h.nc,h.no,h.nc,h.ne,by rw[aN h.ne];exact h.ob,aT⟩
theorem QR.lift{C:Cc}{M0 M:Mm}{A:Aq}{q:Qu}{p:Addr}{o:MO}(h:QR C M0 M A q)(hp:M p=none\/∃ u,M0 p=some u):QR C (put M0 p o) (put M p o) A q:=by
 obtain⟨M1,kvs,h1,h2,h3⟩:=h.ex
 refine⟨h.fall,put M1 p o,kvs,h1.lift ?_,h2.lift ?_,h3⟩
 ·rcases hp with z | z
  ·exact .inl (h2.sub.non z)
  ·exact .inr z
 ·rcases hp with z | ⟨u,z⟩
  ·exact .inl z
  ·exact .inr ⟨u,h1.sub _ _ z⟩
theorem QR.more{C:Cc}{M0 M:Mm}{A:Aq}{q:Qu}{p:Addr}{o:MO}(h:QR C M0 M A q)(hp:M p=none):QR C M0 (put M p o) A q:=by
 obtain⟨M1,kvs,h1,h2,h3⟩:=h.ex
 exact⟨h.fall,M1,kvs,h1,h2.more hp,h3⟩
theorem QR.sub{C:Cc}{M0 M:Mm}{A:Aq}{q:Qu}(h:QR C M0 M A q):L3.Sub M0 M:=by
 obtain⟨M1,kvs,h1,h2,h3⟩:=h.ex
 exact h1.sub.trans h2.sub
theorem QR.ob{C:Cc}{M0 M:Mm}{A:Aq}{q:Qu}(h:QR C M0 M A q):M A.o=some (.ins C.q A.d (qf A)):=by
 obtain⟨M1,kvs,h1,h2,h3⟩:=h.ex
 exact h2.sub _ _ h1.ob
theorem QR.co{C:Cc}{M0 M:Mm}{A:Aq}{q:Qu}(h:QR C M0 M A q):M A.c=some (.lst ((q.map (·.1)).map cW)):=by
 obtain⟨M1,kvs,h1,h2,h3⟩:=h.ex
 exact h2.sub _ _ h1.co
def yN(C:Cc):bJ:=fun ws M R=>∃ M0 a dx,ws=[.ref a]/\M=put M0 a (.ins C.q dx [])/\M0 a=none/\∀ M' (A:Aq),A.o=a->QR C M0 M' A []->R .non M'
def yO(C:Cc):bJ:=fun ws M R=>∃ M0 A q,ws=[.ref A.o]/\QR C M0 M A q/\R (.bl (decide (q=[]))) M
def yP(C:Cc):bJ:=fun ws M R=>∃ (A:Aq) (cs:List aK) (c:aK),ws=[.ref A.o,cW c]/\M A.o=some (.ins C.q A.d (qf A))/\M A.c=some (.lst (cs.map cW))/\cs.Pairwise (fun a b=>cI b a=true)/\cs.length < 10000000/\R (.int (pos c cs:Nat)) M
def uH(C:Cc):bJ:=fun ws M R=>∃ M0 A q c x,ws=[.ref A.o,cW c,j0 x]/\QR C M0 M A q/\(a8 (dO c x q)).length < 10000000/\∀ M',QR C M0 M' A (dO c x q)->R .non M'
def yQ(C:Cc):bJ:=fun ws M R=>∃ M0 A q c x q',ws=[.ref A.o]/\QR C M0 M A q/\iD q=some (c,x,q')/\∀ M',QR C M0 M' A q'->R (.tup [cW c,j0 x]) M'
abbrev YL:List Str:=["self"]
def YM(C:Cc):aJ:=
   (aL (jX C.q (aA 0) "costs" (fZ aF))
   (jX C.q (aA 0) "waiting" mI))
abbrev YN:List Str:=["self"]
def YO(C:Cc):aJ:=
   (b5 (aE (rEq false) (bS dD (aB (cZ C.q (aA 0) "costs") aF)) (vC (.int 0))))
abbrev YQ:List Str:=["self","cost","thing"]
def YR(C:Cc):aJ:=
   (aL (cB (bK (aE (rIn true) (aA 1) (cZ C.q (aA 0) "waiting")))
    (aL (fQ (fZ aF) (gD (cZ C.q (aA 0) "waiting") (aA 1)))
   (eF (dG "list" HU (cZ C.q (aA 0) "costs") (aB (iC C.q "place_of" (yP C) (aA 0) (aB (aA 1) aF)) (aB (aA 1) aF)))))
    cU)
   (eF (dG "list" fF (aE aQ (cZ C.q (aA 0) "waiting") (aA 1)) (aB (aA 2) aF))))
abbrev YS:List Str:=["self","cost","low","high","middle"]
def YT(C:Cc):aJ:=
   (a0 2 (vC (.int 0)))
def YU(C:Cc):aJ:=
   (a0 3 (bS dD (aB (cZ C.q (aA 0) "costs") aF)))
def YV(C:Cc):aJ:=
   (aL (a0 4 (aE wY (aE cP (aA 2) (aA 3)) (vC (.int 2))))
   (cB (bK (aE HR (aE aQ (cZ C.q (aA 0) "costs") (aA 4)) (aA 1)))
    (a0 2 (aE cP (aA 4) (vC (.int 1))))
    (a0 3 (aA 4))))
def YW(C:Cc):aJ:=
   (qU (bK (aE iL (aA 2) (aA 3))) (YV C))
def YX(C:Cc):aJ:=
   (b5 (aA 2))
def YY(C:Cc):aJ:=(aL (YT C) (aL (YU C) (aL (YW C) (YX C))))
abbrev YZ:List Str:=["self","cost","things","thing"]
def Y0(C:Cc):aJ:=
   (a0 1 (aE aQ (cZ C.q (aA 0) "costs") (lE lJ (vC (.int 1)))))
def Y1(C:Cc):aJ:=
   (a0 2 (aE aQ (cZ C.q (aA 0) "waiting") (aA 1)))
def Y2(C:Cc):aJ:=
   (a0 3 (oV "list" rPop (aA 2)))
def Y3(C:Cc):aJ:=
   (cB (bK (aE (rEq false) (bS dD (aB (aA 2) aF)) (vC (.int 0))))
    (aL (eF (oV "list" rPop (cZ C.q (aA 0) "costs")))
   (eF (dG "dict" HM (cZ C.q (aA 0) "waiting") (aB (aA 1) aF))))
    cU)
def Y4(C:Cc):aJ:=
   (b5 (cC (aB (aA 1) (aB (aA 3) aF))))
def Y5(C:Cc):aJ:=(aL (Y0 C) (aL (Y1 C) (aL (Y2 C) (aL (Y3 C) (Y4 C)))))
theorem Y6{C:Cc}:∀ ws M R,yN C ws M R->ws.length=1:=by rintro ws M R ⟨_,_,_,rfl,_⟩;rfl
theorem Y7{C:Cc}:∀ ws M R,yO C ws M R->ws.length=1:=by rintro ws M R ⟨_,_,_,rfl,_⟩;rfl
theorem Y8{C:Cc}:∀ ws M R,yP C ws M R->ws.length=2:=by rintro ws M R ⟨_,_,_,rfl,_⟩;rfl
theorem Y9{C:Cc}:∀ ws M R,uH C ws M R->ws.length=3:=by rintro ws M R ⟨_,_,_,_,_,rfl,_⟩;rfl
theorem ZA{C:Cc}:∀ ws M R,yQ C ws M R->ws.length=1:=by rintro ws M R ⟨_,_,_,_,_,_,rfl,_⟩;rfl
theorem z1:1<=Am:=by decide
theorem z2:2<=Am:=by decide
theorem z3:3<=Am:=by decide
theorem z4:4<=Am:=by decide
theorem b9{b:Bool}{P Q:Prop}(h1:b=true->P)(h2:b=false->Q):if b=true then P else Q:=by cases b;exact h2 rfl;exact h1 rfl
theorem uI{w:W}{ws:List W}{M:Mm}{R:List W->(Mm->Prop)->Mm->Prop}(e:w=.rl ws)(h:R ws (fun _=>True) M):L3.jU w M R:=by rw[e];exact h
theorem nU{M:Mm}{a:Addr}{kvs:List (List aD×W)}{k:List aD}{w:W}{R:K3}(h:M a=some (.dT kvs))(hl:a9 kvs k=some w)(r:R w M):L3.aQ (.ref a) (.tup (k.map wK)) M R:=⟨w,.inr ⟨kvs,k,h,rfl,hl.symm⟩,r⟩
theorem fD{M:Mm}{a:Addr}{ws:List W}(h:M a=some (.lst ws)):lG "list" (.ref a) M:=.inl ⟨rfl,_,h⟩
theorem nV{M:Mm}{a:Addr}{kvs:List (List aD×W)}(h:M a=some (.dT kvs)):lG "dict" (.ref a) M:=.inr ⟨rfl,.inr ⟨_,h⟩⟩
theorem ZC{C:Cc}{ws:List W}{M:Mm}{R:K3}(h:yO C ws M R):YO C (bT R) (b8 YN ws) M:=by
 obtain⟨M0,A,q,rfl,hq,r⟩:=h
 refine⟨_,rfl,A.o,A.d,qf A,_,rfl,hq.ob,pO,.inl ⟨_,hq.co,M,Sub.refl _,?_⟩⟩
 show R (.bl (decide (((Ku cW (q.map fun x=>x.1)).length:Int)=0))) M
 have e:decide (((Ku cW (q.map fun x=>x.1)).length:Int)=0)=decide (q=[]):=by
  cases q <;> simp
  lia
 rw[e];exact r
theorem ZD{C:Cc}{ws:List W}{M:Mm}{R:K3}(h:yN C ws M R):YM C (bT R) (b8 YL ws) M:=by
 obtain⟨M0,a,dx,rfl,rfl,ha,r⟩:=h
 refine⟨Bv _,fun p hp=>?_⟩
 have hpa:p≠a:=fun e=>by rw[e,aT] at hp;cases hp
 have hp0:M0 p=none:=by rw[aN hpa] at hp;exact hp
 refine⟨_,rfl,a,dx,[],rfl,by rw[aN (Bf hpa),aT],by decide,fun w hw=>?_⟩
 have hwa:w≠a:=fun e=>by rw[e,aT] at hw;cases hw
 have hwp:w≠p:=fun e=>by rw[e,aN hpa,aT] at hw;cases hw
 have hw0:M0 w=none:=by rw[aN hwa,aN hwp,aN hwa] at hw;exact hw
 refine⟨_,rfl,a,dx,bX "costs" (.ref p) [],rfl,by rw[aN (Bf hwa),aT],(show(1:Nat) < 1000 by decide),_,Sub.refl _,r _ ⟨a,dx,p,w⟩ rfl ⟨trivial,put (put M0 p (.lst [])) a (.ins C.q dx (qf ⟨a,dx,p,w⟩)),[],⟨fI (fI (Sub.refl _) hp0) ha,ha,hp0,Bf hpa,aT,by rw[aN hpa,aT];rfl⟩,?_,Ai _⟩⟩
 have e:put (put (put (put (put M0 a (.ins C.q dx [])) p (.lst [])) a (.ins C.q dx (bX "costs" (.ref p) []))) w (.dT [])) a (.ins C.q dx (bX "waiting" (.ref w) (bX "costs" (.ref p) [])))=put (put (put M0 p (.lst [])) a (.ins C.q dx (qf ⟨a,dx,p,w⟩))) w (.dT []):=by
  have eq:bX "waiting" (.ref w) (bX "costs" (.ref p) [])=qf ⟨a,dx,p,w⟩:=by
   show(if (("costs" : Str)=("waiting" : Str)) then _ else _)=_
   rw[if_neg (by decide +kernel)];rfl
  rw[eq]
  funext b
  unfold put
  by_cases h1:b=a <;> by_cases h2:b=w <;> by_cases h3:b=p <;> simp_all
 rw[e]
 exact⟨fI (Sub.refl _) (by rw[aN hwa,aN hwp];exact hw0),by rw[aN hwa,aN hwp];exact hw0,aT,(fun _ _=>rfl),(fun k ws e=>nomatch e),(fun k j p e=>nomatch e)⟩
theorem ZE{C:Cc}{ws:List W}{M:Mm}{R:K3}(h:yP C ws M R):YY C (bT R) (b8 YS ws) M:=by
 obtain⟨A,cs,c,rfl,ho,hc,pw,hl,r⟩:=h
 refine⟨_,rfl,A.o,A.d,qf A,_,rfl,ho,pO,.inl ⟨_,hc,?_⟩⟩
 refine⟨fun m τ M'=>∃ lo hi:Nat,∃ o,τ=[some (.ref A.o),some (cW c),some (.int lo),some (.int hi),o]/\M'=M/\lo<=hi/\hi<=cs.length/\(∀ i d,i < lo->cs[i]? = some d->cI c d=true)/\(∀ i d,hi<=i->cs[i]? = some d->cI c d=false)/\m=hi - lo,⟨_,0,cs.length,none,by rw[Ab];rfl,rfl,Bv _,Ai _,(fun i d hi=>absurd hi (Nat.not_lt_zero _)),(fun i d hi e=>by rw[Em hi] at e;cases e),rfl⟩,?_⟩
 rintro m τ M' ⟨lo,hi,o,rfl,rfl,h1,h2,h3,h4,rfl⟩
 refine⟨_,rfl,_,rfl,_,rfl,b9 (fun hb=>?_) fun hb=>?_⟩
 ·have hlt:=of_decide_eq_true hb
  refine⟨_,rfl,_,rfl,⟨by decide,by decide⟩,?_⟩
  obtain⟨mid,hm⟩:∃ mid,mid=(lo + hi) / 2:=⟨_,rfl⟩
  have em:((lo:Int) + (hi:Int)) / 2=(mid:Nat):=by lia
  dsimp only
  rw[em]
  obtain⟨d,hd⟩:∃ d,cs[mid]? = some d:=⟨_,An (by lia)⟩
  refine⟨_,rfl,A.o,A.d,qf A,_,rfl,ho,pO,_,rfl,.inl ⟨_,cW d,hc,eN (by rw[Av,hd];rfl),_,rfl,d.1,d.2,c.1,c.2,rfl,rfl,_,rfl,?_⟩⟩
  have pg:∀ i j a b,i < j->cs[i]? = some a->cs[j]? = some b->cI b a=true:=fun i j a b hij hi' hj'=>by
   obtain⟨q1,e1⟩:=Aj.mp hi'
   obtain⟨q2,e2⟩:=Aj.mp hj'
   rw[<-e1,<-e2]
   exact Kh.mp pw i j q1 q2 hij
  show if cI c d=true then _ else _
  by_cases hcd:cI c d=true
  ·rw[if_pos hcd]
   refine⟨_,rfl,_,_,?_,Sub.refl _,mid + 1,hi,_,rfl,rfl,by lia,h2,fun i e hi' he=>?_,h4,rfl⟩
   ·lia
   ·by_cases hi2:i < mid
    ·exact rB hcd (Le.of_lt (pg i mid e d hi2 he hd))
    ·have:i=mid:=by lia
     rw[this,hd] at he;cases he;exact hcd
  ·rw[if_neg hcd]
   refine⟨_,rfl,_,_,?_,Sub.refl _,lo,mid,_,rfl,rfl,by lia,by lia,h3,fun i e hi' he=>?_,rfl⟩
   ·lia
   ·by_cases hi2:mid < i
    ·have h5:=pg mid i d e hi2 hd he
     cases h6:cI c e with
     | false=>rfl
     | true=>exact absurd (rB h6 (Le.of_lt h5)) hcd
    ·have:i=mid:=by lia
     rw[this,hd] at he;cases he
     simpa using hcd
 ·have hlt:=of_decide_eq_false hb
  have:lo=hi:=by lia
  subst this
  refine⟨_,rfl,_,Sub.refl _,?_⟩
  rw[<-IT (c:=c) (cs:=cs) (k:=lo) h2 h3 h4];exact r
theorem ZF{C:Cc}{ws:List W}{M:Mm}{R:K3}(h:uH C ws M R):YR C (bT R) (b8 YQ ws) M:=by
 obtain⟨M0,A,q,c,x,rfl,hq,hl,r⟩:=h
 have hle:=t9 c x q
 have hf:=hq.fall
 have hql:=yM hf
 have hil:=IL (q:=q) (c:=c)
 have hfp:=yD c x hf
 obtain⟨M1,kvs,m1,t1,l1⟩:=hq.ex
 refine⟨_,rfl,_,rfl,A.o,A.d,qf A,_,rfl,hq.ob,pP,.inr ⟨_,.inr ⟨kvs,cK c,t1.at_,YG c,rfl⟩,_,rfl,?_⟩⟩
 rw[t1.look c]
 have wgp:∀ j,wG (dO c x q) j=if c=j then some (((aG q c).getD []).map j0 ++ [j0 x]) else wG q j:=fun j=>by
  show(aG (dO c x q) j).map _=_
  rw[II c x j hf]
  by_cases hj:c=j
  ·rw[if_pos hj,if_pos hj,Ky,Ax];rfl
  ·rw[if_neg hj,if_neg hj]
 cases hg:aG q c with
 | some xs=>
  have hgw:wG q c=some (xs.map j0):=by show(aG q c).map _=_;rw[hg];rfl
  rw[hgw]
  rw[hg] at hil wgp
  have hil:xs.length<=(a8 q).length:=hil
  refine b9 (fun h=>nomatch (show false=true from h)) fun _=>?_
  obtain⟨p,hp1,hp2⟩:=t1.has hgw
  have hold:=IK c x hf (by rw[hg];rfl)
  refine⟨_,rfl,A.o,A.d,qf A,_,rfl,hq.ob,pP,_,rfl,nU t1.at_ hp1 ⟨fD hp2,_,rfl,_,hp2,eC (by rw[Ab];lia),_,Sub.refl _,r _ ⟨hfp,M1,kvs,?_,(t1.wr hp1).same wgp,?_⟩⟩⟩
  ·rw[hold];exact m1
  ·have:=congrArg Eb hold
   rw[Ab,Ab] at this
   rw[this];exact l1
 | none=>
  have hgw:wG q c=none:=by show(aG q c).map _=_;rw[hg];rfl
  rw[hgw]
  rw[hg] at wgp
  refine b9 (fun _=>⟨Bv _,fun p hp=>?_⟩) fun h=>nomatch (show true=false from h)
  have t2:=t1.add IG (ws:=[]) hgw hp
  have hpo:A.o≠p:=fun e=>by rw[<-e,hq.ob] at hp;cases hp
  have hll:((q.map (·.1)).map cW).length=q.length:=by rw[Ab,Ab]
  have hpl:=IJ c (q.map (·.1))
  rw[Ab] at hpl
  refine⟨_,rfl,A.o,A.d,qf A,_,rfl,by rw[aN hpo];exact hq.ob,pP,_,rfl,qX (k:=cK c) (kvs:=kvs) (by rw[aN (fun e=>by rw[<-e,t1.at_] at hp;cases hp)];exact t1.at_) (eC (by lia)) ?_⟩
  refine⟨_,rfl,A.o,A.d,qf A,_,rfl,t2.sub _ _ m1.ob,pO,fD (t2.sub _ _ m1.co),?_⟩
  have t3:=t2.lift (p:=A.c) (o:=.lst ((((q.map (·.1)).take (pos c (q.map (·.1))) ++ c :: (q.map (·.1)).drop (pos c (q.map (·.1)))).map cW))) (.inr ⟨_,m1.co⟩)
  have m3:=m1.costs (cs':=(q.map (·.1)).take (pos c (q.map (·.1))) ++ c :: (q.map (·.1)).drop (pos c (q.map (·.1))))
  refine⟨_,rfl,A.o,A.d,qf A,rfl,t2.sub _ _ m1.ob,YH,_,rfl,A,q.map (·.1),c,rfl,t2.sub _ _ m1.ob,t2.sub _ _ m1.co,IS hf,by rw[Ab];lia,_,rfl,_,t2.sub _ _ m1.co,eC (by rw[hll];lia),by lia,by rw[hll];lia,?_⟩
  have ew:((q.map (·.1)).map cW).take (Int.toNat (pos c (q.map (·.1)):Nat)) ++ cW c :: ((q.map (·.1)).map cW).drop (Int.toNat (pos c (q.map (·.1)):Nat))=(((q.map (·.1)).take (pos c (q.map (·.1))) ++ c :: (q.map (·.1)).drop (pos c (q.map (·.1)))).map cW):=by
   rw[Dy,Ax,Ay,Kn,Mv]
  rw[ew]
  obtain⟨p',hp1,hp2⟩:=t3.has (k:=c) (ws:=[]) (by rw[if_pos rfl])
  refine⟨_,rfl,A.o,A.d,qf A,_,rfl,t3.sub _ _ m3.ob,pP,_,rfl,nU t3.at_ hp1 ⟨fD hp2,_,rfl,_,hp2,eC (by simp),_,Sub.refl _,r _ ⟨hfp,_,_,?_,(t3.wr hp1).same (fun j=>?_),?_⟩⟩⟩
  ·rw[yL c x hf (by rw[hg];rfl)];exact m3
  ·rw[wgp j]
   by_cases hj:c=j
   ·rw[if_pos hj,if_pos hj];rfl
   ·rw[if_neg hj,if_neg hj,if_neg hj]
  ·have h1:=congrArg Eb (yL c x hf (by rw[hg];rfl))
   have h2:=yK kvs (cK c) (W.ref p)
   rw[Ab,Ak,Bs,Cb,Ga,Ab] at h1
   lia
theorem ZG{C:Cc}{ws:List W}{M:Mm}{R:K3}(h:yQ C ws M R):Y5 C (bT R) (b8 YZ ws) M:=by
 obtain⟨M0,A,q,c,x,q',rfl,hq,ht,r⟩:=h
 have hf:=hq.fall
 have ⟨_,_,_,e0,hf',_,_,_,_⟩:=nR hf (fun e=>by rw[e] at ht;cases ht)
 rw[ht] at e0
 cases e0
 obtain⟨M1,kvs,m1,t1,l1⟩:=hq.ex
 obtain⟨r0,ys,e1,e2⟩:=IM hf ht
 have hnl:∀ e∈r0,e.1≠c:=by rw[e1] at hf;exact IP hf
 have hgw:wG q c=some (ys.map j0 ++ [j0 x]):=by
  show(aG q c).map _=_
  rw[e1,uG hnl,if_pos rfl,Ky,Ax];rfl
 obtain⟨p,hp1,hp2⟩:=t1.has hgw
 have hc:M A.c=some (.lst (((r0.map (·.1)).map cW) ++ [cW c])):=by rw[hq.co,e1];simp
 refine⟨_,rfl,A.o,A.d,qf A,_,rfl,hq.ob,pO,.inl ⟨_,_,hc,EC _ _,_,rfl,A.o,A.d,qf A,_,rfl,hq.ob,pP,_,rfl,nU t1.at_ hp1 ⟨_,rfl,fD hp2,⟨_,_,hp2,_,rfl,.inl ⟨_,aT,_,rfl,?_⟩⟩⟩⟩⟩
 have t2:=t1.wr (ws:=ys.map j0) hp1
 cases ys with
 | nil=>
  refine b9 (fun _=>?_) fun h=>nomatch (show true=false from h)
  have hm1:M1 A.c=some (.lst (((r0.map (·.1)).map cW) ++ [cW c])):=by rw[m1.co,e1];simp
  have m2:=m1.costs (cs':=r0.map (·.1))
  have t3:=t2.lift (p:=A.c) (o:=.lst ((r0.map (·.1)).map cW)) (.inr ⟨_,hm1⟩)
  have t4:=t3.del (k:=c) IG
  refine⟨_,rfl,A.o,A.d,qf A,_,rfl,t2.sub _ _ m1.ob,pO,fD (t2.sub _ _ hm1),_,_,t2.sub _ _ hm1,_,rfl,A.o,A.d,qf A,_,rfl,t3.sub _ _ m2.ob,pP,nV t3.at_,_,rfl,_,cK c,_,t3.at_,rfl,hp1,?_⟩
  refine⟨_,rfl,_,rfl,z2,_,Sub.refl _,r _ ⟨hf',_,_,?_,t4.same (fun j=>?_),?_⟩⟩
  ·rw[e2];exact m2
  ·show(aG q' j).map _=_
   rw[e2,if_pos (by rfl:([]:List (Nat×List Int)).isEmpty=true)]
   by_cases hj:c=j
   ·subst hj;rw[if_pos rfl,uE hnl];rfl
   ·rw[if_neg hj,if_neg hj]
    show _=(aG q j).map _
    rw[e1,uG hnl,if_neg hj]
  ·have h1:=IF (kvs:=kvs) (k:=cK c) (by rw[hp1];rfl)
   rw[e1,Ak,Bk] at l1
   rw[e2,if_pos (by rfl:([]:List (Nat×List Int)).isEmpty=true)];lia
 | cons y ys=>
  refine b9 (fun h=>?_) fun _=>?_
  ·have h:=of_decide_eq_true (show decide (((Ku j0 (y :: ys)).length:Int)=0)=true from h)
   rw[Ay,Bs] at h
   lia
  refine⟨_,rfl,_,rfl,z2,_,Sub.refl _,r _ ⟨hf',_,_,?_,t2.same (fun j=>?_),?_⟩⟩
  ·rw[e2,if_neg (by simp)];rw[e1] at m1;simpa using m1
  ·show(aG q' j).map _=_
   rw[e2,if_neg (by simp),uG hnl]
   by_cases hj:c=j
   ·rw[if_pos hj,if_pos hj];rfl
   ·rw[if_neg hj,if_neg hj]
    show _=(aG q j).map _
    rw[e1,uG hnl,if_neg hj]
  ·rw[e1] at l1;rw[e2,if_neg (by simp)];simpa using l1
def rH:bJ:=fun ws M R=>∃ rs:List aX,ws=[.rl (rs.map eP)]/\rs.length<=400/\bC ((namesOf rs).map W.str) M R
def yR:bJ:=fun ws M R=>∃ (r:aX) (rs:List aX),ws=[.rl ((r :: rs).map eP)]/\R (.str r.name) M
abbrev ZH:List Str:=["grammar","found","rule"]
def ZI:aJ:=
   (a0 1 nK)
def ZJ:aJ:=
   (fQ (vC (.bl true)) (gD (aA 1) (aE aQ (aA 2) (vC (.int 0)))))
def ZK:aJ:=
   (eI (dJ gS (aA 0)) (bH 2) ZJ)
def ZL:aJ:=
   (b5 (bS xD (aB (aA 1) aF)))
def ZM:aJ:=(aL ZI (aL ZK ZL))
abbrev ZN:List Str:=["grammar"]
def ZO:aJ:=
   (b5 (aE aQ (aE aQ (aA 0) (vC (.int 0))) (vC (.int 0))))
end Rg
namespace L3
open PySem PySem.Spec PyProof.Rows L2
theorem zfu{n:Bool}{i j:Str}{M:Mm}{R:K3}:L3.rIn n (.str i) (.str j) M R=R (.bl (if n then !occ i j else occ i j)) M:=rfl
theorem zfv{n:Bool}{i:Str}{ws:List W}{M:Mm}{R:K3}:L3.rIn n (.str i) (.rl ws) M R=(fB (.str i)=true/\ws.all fB=true/\R (.bl (if n then !inW (.str i) ws else inW (.str i) ws)) M):=rfl
end L3
namespace Rg
open PySem PySem.Spec PyProof.Rows L2 L3
theorem ZP:∀ ws M R,rH ws M R->ws.length=1:=by rintro ws M R ⟨_,rfl,_⟩;rfl
theorem ZQ:∀ ws M R,yR ws M R->ws.length=1:=by rintro ws M R ⟨_,_,rfl,_⟩;rfl
theorem ZR{P Q:Prop}(h:P):if true=true then P else Q:=h
def fT(t:Str):aD×W:=(Sum.inr t,.bl true)
theorem IU(acc:List Str)(t:Str):bZ (acc.map fT) (Sum.inr t:aD) (.bl true)=(iO acc t).map fT:=by
 unfold bZ iO
 have e:((acc.map fT).any fun kv=>decide (kv.1=Sum.inr t))=decide (t∈acc):=by
  rw[List.any_map,Eu]
  simp[fT,Gh]
 rw[e]
 by_cases h:t∈acc
 ·rw[if_pos (decide_eq_true h),if_pos h,Bp]
  refine Ee fun u hu=>?_
  simp[fT,Gh]
 ·rw[if_neg (by simpa using h),if_neg h,Ax];rfl
theorem nW{ws:List W}{M:Mm}{R:List W->(Mm->Prop)->Mm->Prop}(h:R ws (fun _=>True) M):gS (.rl ws) M R:=h
theorem ZS{ws:List W}{M:Mm}{R:K3}(h:rH ws M R):ZM (bT R) (b8 ZH ws) M:=by
 obtain⟨rs,rfl,hl,r⟩:=h
 refine fun p hp=>⟨_,rfl,nW (eO (fun i τ M'=>∃ o,τ=[some (.rl (rs.map eP)),some (.ref p),o]/\M'=put M p (.dK ((namesOf (rs.take i)).map fT))) ⟨_,rfl,rfl⟩ (fun _ _ _ _ _=>trivial) ?_ ?_)⟩
 ·rintro i w τ M' hw ⟨o,rfl,rfl⟩
  rw[Av] at hw
  obtain⟨q,hq,rfl⟩:=Bj.mp hw
  have hi:i < rs.length:=(Aj.mp hq).1
  have e:namesOf (rs.take (i + 1))=iO (namesOf (rs.take i)) q.name:=by
   rw[Bx,hq]
   unfold namesOf qY
   simp
  have hlen:(namesOf (rs.take i)).length<=i:=by
   have:=tY ((rs.take i).map aX.name) []
   unfold namesOf qY
   simp at this
   simp;lia
  refine⟨_,rfl,_,rfl,_,rfl,WM aT (by rw[Ab];exact eC (by lia)) ⟨_,Sub.refl _,_,rfl,?_⟩⟩
  rw[gP,IU,e]
 ·rintro τ M' ⟨o,rfl,rfl⟩
  rw[Ab,Bz]
  refine⟨_,rfl,.inr ⟨_,aT,fun q hq=>?_⟩⟩
  have hpq:q≠p:=fun e=>by subst e;rw[aT] at hq;cases hq
  rw[aN hpq] at hq
  refine⟨_,?_,r q hq⟩
  rw[Bp]
  exact Sub.put (Sub.new hp)
theorem ZT{ws:List W}{M:Mm}{R:K3}(h:yR ws M R):ZO (bT R) (b8 ZN ws) M:=by
 obtain⟨q,rs,rfl,r⟩:=h
 exact⟨_,rfl,_,eN (j:=0) rfl,_,rfl,_,Sub.refl _,r⟩
theorem uJ{t:Str}{ts:List Str}:inW (.str t) (ts.map W.str)=decide (t∈ts):=by
 unfold inW
 rw[List.any_map,Eu,List.any_eq_true,decide_eq_true_eq]
 exact⟨fun⟨x,h,e⟩=>eq_of_beq (show(x == t)=true from e) ▸ h,fun h=>⟨t,h,beq_self_eq_true t⟩⟩
theorem uK(ts:List Str):(ts.map W.str).all fB=true:=by
 rw[List.all_map,Kw];intro t _;rfl
def eK(k:Str×Int):List aD:=[Sum.inr k.1,Sum.inl k.2]
def jI(z:Int×aK):W:=.tup [.int z.1,cW z.2]
def jJ(y:bY):W:=.tup [.int y.1,f9 y.2.1,cW y.2.2]
def kQ(k:K4):List aD:=[Sum.inl k.1,Sum.inl k.2.1,Sum.inl k.2.2.1,Sum.inl k.2.2.2]
def fK(f:bA):List aD:=[Sum.inr f.1,Sum.inl f.2.1,Sum.inl f.2.2]
def fU(e:aK×Nat×List Int):W:=.tup [cW e.1,.int e.2.1,f9 e.2.2]
theorem nX:∀ a b:Str×Int,eK a=eK b->a=b:=fun a b h=>by
 unfold eK at h
 simp only[Cs,Ke,Sum.inr.injEq,and_true] at h
 exact Lz h.1 h.2
theorem uL:∀ a b:K4,kQ a=kQ b->a=b:=fun a b h=>by
 unfold kQ at h
 simp only[Cs,Ke,and_true,Int.natCast_inj] at h
 obtain⟨a1,a2,a3,a4⟩:=a
 obtain⟨b1,b2,b3,b4⟩:=b
 simp only at h
 obtain⟨h1,h2,h3,h4⟩:=h
 rw[h1,h2,h3,h4]
theorem mV:∀ a b:bA,fK a=fK b->a=b:=fun a b h=>by
 unfold fK at h
 simp only[Cs,Ke,Sum.inr.injEq,and_true] at h
 obtain⟨a1,a2,a3⟩:=a
 obtain⟨b1,b2,b3⟩:=b
 simp only at h
 obtain⟨h1,h2,h3⟩:=h
 rw[h1,h2,h3]
section
variable {κ β:Type}[DecidableEq κ]{kk:κ->List aD}{f:β->W}
abbrev dC(kk:κ->List aD)(f:β->W)(t:List (κ×β)):List (List aD×W):=t.map fun e=>(kk e.1,f e.2)
theorem j5(hkk:∀ a b,kk a=kk b->a=b)(t:List (κ×β))(k:κ):a9 (dC kk f t) (kk k)=(aG t k).map f:=by
 induction t with
 | nil=>rfl
 | cons e t ih=>
  show a9 ((kk e.1,f e.2) :: dC kk f t) (kk k)=_
  rw[mU,cQ,ih]
  by_cases h:e.1=k
  ·rw[if_pos (by rw[h]),if_pos h];rfl
  ·rw[if_neg (fun z=>h (hkk _ _ z)),if_neg h]
theorem rJ(hkk:∀ a b,kk a=kk b->a=b)(t:List (κ×β))(k:κ)(v:β):bZ (dC kk f t) (kk k) (f v)=dC kk f (bE t k v):=by
 unfold bZ bE
 rw[show((dC kk f t).any fun kv=>decide (kv.1=kk k))=(a9 (dC kk f t) (kk k)).isSome from f7 _ _,j5 hkk,f7]
 cases aG t k with
 | none=>simp
 | some w=>
  simp only[Ky,Option.isSome_some,if_true,Bp]
  apply Ee
  intro e _
  simp only[Gh]
  by_cases h:e.1=k
  ·rw[if_pos (by rw[h]),if_pos h]
  ·rw[if_neg (fun z=>h (hkk _ _ z)),if_neg h]
end
structure Env where
 rs:List aX
 own:List (aD×W)
 stp:List (List aD×W)
structure Ad where
 s:Addr
 d:Addr
 Q:Aq
 r:Addr
 b:Addr
 e:Addr
 g:Addr
def sf(E:Env)(A:Ad):List (Str×W):=[("grammar",(bR E.rs)),("own",(.dk E.own)),("steps",(.dt E.stp)),("queue",(.ref A.Q.o)),("reached",(.ref A.r)),("best",(.ref A.b)),("ends",(.ref A.e)),("begun",(.ref A.g))]
theorem IV{E:Env}{A:Ad}:Cf ("grammar" : Str) (sf E A)=some (bR E.rs):=by kernel_rfl
theorem ZU{E:Env}{A:Ad}:Cf ("own" : Str) (sf E A)=some (W.dk E.own):=by kernel_rfl
theorem ZV{E:Env}{A:Ad}:Cf ("steps" : Str) (sf E A)=some (W.dt E.stp):=by kernel_rfl
theorem yS{E:Env}{A:Ad}:Cf ("queue" : Str) (sf E A)=some (W.ref A.Q.o):=by kernel_rfl
theorem uM{E:Env}{A:Ad}:Cf ("reached" : Str) (sf E A)=some (W.ref A.r):=by kernel_rfl
theorem yT{E:Env}{A:Ad}:Cf ("best" : Str) (sf E A)=some (W.ref A.b):=by kernel_rfl
theorem IW{E:Env}{A:Ad}:Cf ("ends" : Str) (sf E A)=some (W.ref A.e):=by kernel_rfl
theorem IX{E:Env}{A:Ad}:Cf ("begun" : Str) (sf E A)=some (W.ref A.g):=by kernel_rfl
theorem uN{E:Env}{A:Ad}:Cf ("reach" : Str) (sf E A)=none:=by kernel_rfl
theorem ZW{E:Env}{A:Ad}:Cf ("take_next" : Str) (sf E A)=none:=by kernel_rfl
theorem ZX{E:Env}{A:Ad}:Cf ("step_by_name" : Str) (sf E A)=none:=by kernel_rfl
theorem ZY{E:Env}{A:Ad}:Cf ("settle" : Str) (sf E A)=none:=by kernel_rfl
structure Mn(C:Cc)(E:Env)(M0 M:Mm)(A:Ad)(rc:List (K4×aK))(bs:bV):Prop where
 sub:L3.Sub M0 M
 ns:M0 A.s=none
 nr:M0 A.r=none
 nb:M0 A.b=none
 sr:A.s≠A.r
 sb:A.s≠A.b
 rb:A.r≠A.b
 os:M A.s=some (.ins C.s A.d (sf E A))
 or:M A.r=some (.dT (dC kQ cW rc))
 ob:M A.b=some (.dT (dC fK fU bs))
abbrev eG(t:List ((Str×Int)×List (Int×aK))):Str×Int->Option (List W):=fun k=>(aG t k).map fun xs=>xs.map jI
abbrev gG(t:List ((Str×Int)×List bY)):Str×Int->Option (List W):=fun k=>(aG t k).map fun xs=>xs.map jJ
def Kept(M:Mm):Option (Addr×List W)->Prop
 | none=>True
 | some x=>M x.1=some (.lst x.2)
structure SK(C:Cc)(E:Env)(M0 M:Mm)(A:Ad)(st:SS)(kp:Option (Addr×List W)):Prop where
 ex:∃ M1 M2 M3 e g,Mn C E M0 M1 A st.reached st.best/\eD eK M1 M2 A.e e (eG st.ends)/\eD eK M2 M3 A.g g (gG st.begun)/\QR C M3 M A.Q st.q/\e.length<=st.ends.length/\g.length<=st.begun.length/\Kept M3 kp
abbrev SR(C:Cc)(E:Env)(M0 M:Mm)(A:Ad)(st:SS):Prop:=SK C E M0 M A st none
section
variable {C:Cc}{E:Env}{M0 M:Mm}{A:Ad}{st:SS}{kp:Option (Addr×List W)}
theorem SK.os(h:SK C E M0 M A st kp):M A.s=some (.ins C.s A.d (sf E A)):=by
 obtain⟨M1,M2,M3,e,g,h1,h2,h3,h4,_⟩:=h.ex
 exact h4.sub _ _ (h3.sub _ _ (h2.sub _ _ h1.os))
theorem SK.or(h:SK C E M0 M A st kp):M A.r=some (.dT (dC kQ cW st.reached)):=by
 obtain⟨M1,M2,M3,e,g,h1,h2,h3,h4,_⟩:=h.ex
 exact h4.sub _ _ (h3.sub _ _ (h2.sub _ _ h1.or))
theorem SK.ob(h:SK C E M0 M A st kp):M A.b=some (.dT (dC fK fU st.best)):=by
 obtain⟨M1,M2,M3,e,g,h1,h2,h3,h4,_⟩:=h.ex
 exact h4.sub _ _ (h3.sub _ _ (h2.sub _ _ h1.ob))
theorem SK.fall(h:SK C E M0 M A st kp):gV st.q:=by
 obtain⟨M1,M2,M3,e,g,h1,h2,h3,h4,_⟩:=h.ex
 exact h4.fall
theorem SK.free(h:SK C E M0 M A st kp):SR C E M0 M A st:=by
 obtain⟨M1,M2,M3,e,g,h1,h2,h3,h4,h5,h6,_⟩:=h.ex
 exact⟨M1,M2,M3,e,g,h1,h2,h3,h4,h5,h6,trivial⟩
theorem SK.kept{p:Addr}{ws:List W}(h:SK C E M0 M A st (some (p,ws))):M p=some (.lst ws):=by
 obtain⟨M1,M2,M3,e,g,h1,h2,h3,h4,h5,h6,h7⟩:=h.ex
 exact h4.sub _ _ h7
theorem Mn.rput{M1:Mm}{rc:List (K4×aK)}{bs:bV}(h:Mn C E M0 M1 A rc bs)(rc':List (K4×aK)):Mn C E M0 (put M1 A.r (.dT (dC kQ cW rc'))) A rc' bs:=
 ⟨fI h.sub h.nr,h.ns,h.nr,h.nb,h.sr,h.sb,h.rb,by rw[aN h.sr];exact h.os,aT,by rw[aN (Bf h.rb)];exact h.ob⟩
theorem Mn.bput{M1:Mm}{rc:List (K4×aK)}{bs:bV}(h:Mn C E M0 M1 A rc bs)(bs':bV):Mn C E M0 (put M1 A.b (.dT (dC fK fU bs'))) A rc bs':=
 ⟨fI h.sub h.nb,h.ns,h.nr,h.nb,h.sr,h.sb,h.rb,by rw[aN h.sb];exact h.os,by rw[aN h.rb];exact h.or,aT⟩
theorem SK.rput(h:SK C E M0 M A st kp)(rc':List (K4×aK)):SK C E M0 (put M A.r (.dT (dC kQ cW rc'))) A {st with reached:=rc'} kp:=by
 obtain⟨M1,M2,M3,e,g,h1,h2,h3,h4,h5,h6,h7⟩:=h.ex
 have k2:=h2.sub _ _ h1.or
 have k3:=h3.sub _ _ k2
 refine⟨_,_,_,e,g,h1.rput rc',h2.lift (.inr ⟨_,h1.or⟩),h3.lift (.inr ⟨_,k2⟩),h4.lift (.inr ⟨_,k3⟩),h5,h6,?_⟩
 cases kp with
 | none=>trivial
 | some x=>
  have h7:M3 x.1=some (.lst x.2):=h7
  show put M3 A.r _ x.1=some (.lst x.2)
  rw[aN (fun z=>by rw[z,k3] at h7;cases h7)];exact h7
theorem SK.bput(h:SR C E M0 M A st)(bs':bV):SR C E M0 (put M A.b (.dT (dC fK fU bs'))) A {st with best:=bs'}:=by
 obtain⟨M1,M2,M3,e,g,h1,h2,h3,h4,h5,h6,h7⟩:=h.ex
 have k2:=h2.sub _ _ h1.ob
 have k3:=h3.sub _ _ k2
 exact⟨_,_,_,e,g,h1.bput bs',h2.lift (.inr ⟨_,h1.ob⟩),h3.lift (.inr ⟨_,k2⟩),h4.lift (.inr ⟨_,k3⟩),h5,h6,trivial⟩
theorem SK.que(h:SK C E M0 M A st kp):∃ M3,QR C M3 M A.Q st.q/\∀ M' q',QR C M3 M' A.Q q'->SK C E M0 M' A {st with q:=q'} kp:=by
 obtain⟨M1,M2,M3,e,g,h1,h2,h3,h4,h5,h6,h7⟩:=h.ex
 exact⟨M3,h4,fun M' q' hq=>⟨M1,M2,M3,e,g,h1,h2,h3,hq,h5,h6,h7⟩⟩
theorem IY{κ β:Type}[DecidableEq κ]{t:List (κ×β)}{k:κ}{v:β}(h:(aG t k).isSome=true):(bE t k v).length=t.length:=by
 unfold bE
 rw[f7,if_pos h,Ab]
theorem rK{κ β:Type}[DecidableEq κ]{t:List (κ×β)}{k:κ}{v:β}(h:aG t k=none):bE t k v=t ++ [(k,v)]:=by
 unfold bE
 rw[f7,h,if_neg (by simp)]
theorem uO{γ:Type}(f:γ->W)(t:List ((Str×Int)×List γ))(k:Str×Int)(z:γ)(j:Str×Int):((aG (eV t k z) j).map fun xs=>xs.map f)=if k=j then some (((aG t k).getD []).map f ++ [f z]) else(aG t j).map fun xs=>xs.map f:=by
 unfold eV
 rw[gF]
 by_cases h:k=j
 ·rw[if_pos h,if_pos h,Ky,Ax];rfl
 ·rw[if_neg h,if_neg h]
theorem SK.epush(h:SR C E M0 M A st){k:Str×Int}{z:Int×aK}{R:K3}(hn:st.ends.length < 10000000)(hl:((aG st.ends k).getD []).length < 10000000)(r:∀ M',SR C E M0 M' A {st with ends:=eV st.ends k z}->R .non M') :
  ∃ kvs,M A.e=some (.dT kvs)/\kvs.length < Am/\∀ p,M p=none->put M p (.lst []) A.e=some (.dT kvs)/\(∀ w,a9 kvs (eK k)=some w->lG "list" w (put M p (.lst []))/\fF w [jI z] (put M p (.lst [])) R)/\
   (a9 kvs (eK k)=none->lG "list" (.ref p) (put (put M p (.lst [])) A.e (.dT (bZ kvs (eK k) (.ref p))))/\fF (.ref p) [jI z] (put (put M p (.lst [])) A.e (.dT (bZ kvs (eK k) (.ref p)))) R):=by
 obtain⟨M1,M2,M3,e,g,h1,h2,h3,h4,h5,h6,h7⟩:=h.ex
 have ha:M A.e=some (.dT e):=h4.sub _ _ (h3.sub _ _ h2.at_)
 refine⟨e,ha,eC (by lia),fun p hp=>⟨by rw[aN (fun z=>by rw[<-z,ha] at hp;cases hp)];exact ha,fun w hw=>?_,fun hw=>?_⟩⟩
 ·obtain⟨xs,hx⟩:∃ xs,aG st.ends k=some xs:=by
   cases q:aG st.ends k with
   | none=>have:=h2.non k (by show(aG _ _).map _=_;rw[q];rfl);rw[hw] at this;cases this
   | some xs=>exact⟨_,rfl⟩
  have hxw:eG st.ends k=some (xs.map jI):=by show(aG _ _).map _=_;rw[hx];rfl
  obtain⟨p',hp1,hp2⟩:=h2.has hxw
  rw[hw] at hp1;cases hp1
  have k3:=h3.sub _ _ hp2
  have h4':=h4.more (o:=.lst []) hp
  have k4:=h4'.sub _ _ k3
  rw[hx] at hl
  refine⟨fD k4,_,k4,eC (by rw[Ab];exact hl),r _ ⟨_,_,_,e,g,h1,(h2.wr (ws:=xs.map jI ++ [jI z]) hw).same fun j=>?_,h3.lift (.inr ⟨_,hp2⟩),h4'.lift (.inr ⟨_,k3⟩),?_,h6,trivial⟩⟩
  ·refine(uO _ _ k z j).trans ?_;rw[hx];rfl
  ·show _<=(bE _ _ _).length
   rw[IY (by rw[hx];rfl)];exact h5
 ·have hx:aG st.ends k=none:=by
   cases q:aG st.ends k with
   | none=>rfl
   | some xs=>obtain⟨p',hp1,_⟩:=h2.has (k:=k) (ws:=xs.map jI) (by show(aG _ _).map _=_;rw[q];rfl);rw[hw] at hp1;cases hp1
  have hxw:eG st.ends k=none:=by show(aG _ _).map _=_;rw[hx];rfl
  have p3:=h4.sub.non hp
  have p2:=h3.sub.non p3
  have t2:=h2.add nX (ws:=[]) hxw p2
  have hpa:p≠A.e:=fun z=>by rw[z,ha] at hp;cases hp
  have t3:=(h3.lift (o:=.lst []) (.inl p3)).lift (p:=A.e) (o:=.dT (bZ e (eK k) (.ref p))) (.inr ⟨.dT e,by rw[aN (Bf hpa)];exact h2.at_⟩)
  have t4:=(h4.lift (o:=.lst []) (.inl hp)).lift (p:=A.e) (o:=.dT (bZ e (eK k) (.ref p))) (.inr ⟨.dT e,by rw[aN (Bf hpa)];exact h3.sub _ _ h2.at_⟩)
  have lp:a9 (bZ e (eK k) (.ref p)) (eK k)=some (.ref p):=by rw[pN,if_pos rfl]
  have g2:put (put M2 p (.lst [])) A.e (.dT (bZ e (eK k) (.ref p))) p=some (.lst []):=by rw[aN hpa,aT]
  have k3:=t3.sub _ _ g2
  have k4:=t4.sub _ _ k3
  refine⟨fD k4,_,k4,eC (by simp),r _ ⟨_,_,_,_,g,h1,(t2.wr (ws:=[jI z]) lp).same fun j=>?_,t3.lift (.inr ⟨_,g2⟩),t4.lift (.inr ⟨_,k3⟩),?_,h6,trivial⟩⟩
  ·refine(uO _ _ k z j).trans ?_
   rw[hx]
   by_cases hj:k=j
   ·rw[if_pos hj,if_pos hj];rfl
   ·rw[if_neg hj,if_neg hj,if_neg hj]
  ·show _<=(bE _ _ _).length
   rw[rK hx,Ak,Bk]
   have:=yK e (eK k) (W.ref p)
   lia
theorem SK.gpush(h:SR C E M0 M A st){k:Str×Int}{z:bY}{R:K3}(hn:st.begun.length < 10000000)(hl:((aG st.begun k).getD []).length < 10000000)(r:∀ M',SR C E M0 M' A {st with begun:=eV st.begun k z}->R .non M') :
  ∃ kvs,M A.g=some (.dT kvs)/\kvs.length < Am/\∀ p,M p=none->put M p (.lst []) A.g=some (.dT kvs)/\(∀ w,a9 kvs (eK k)=some w->lG "list" w (put M p (.lst []))/\fF w [jJ z] (put M p (.lst [])) R)/\
   (a9 kvs (eK k)=none->lG "list" (.ref p) (put (put M p (.lst [])) A.g (.dT (bZ kvs (eK k) (.ref p))))/\fF (.ref p) [jJ z] (put (put M p (.lst [])) A.g (.dT (bZ kvs (eK k) (.ref p)))) R):=by
 obtain⟨M1,M2,M3,e,g,h1,h2,h3,h4,h5,h6,h7⟩:=h.ex
 have ha:M A.g=some (.dT g):=h4.sub _ _ h3.at_
 refine⟨g,ha,eC (by lia),fun p hp=>⟨by rw[aN (fun z=>by rw[<-z,ha] at hp;cases hp)];exact ha,fun w hw=>?_,fun hw=>?_⟩⟩
 ·obtain⟨xs,hx⟩:∃ xs,aG st.begun k=some xs:=by
   cases q:aG st.begun k with
   | none=>have:=h3.non k (by show(aG _ _).map _=_;rw[q];rfl);rw[hw] at this;cases this
   | some xs=>exact⟨_,rfl⟩
  have hxw:gG st.begun k=some (xs.map jJ):=by show(aG _ _).map _=_;rw[hx];rfl
  obtain⟨p',hp1,hp2⟩:=h3.has hxw
  rw[hw] at hp1;cases hp1
  have h4':=h4.more (o:=.lst []) hp
  have k4:=h4'.sub _ _ hp2
  rw[hx] at hl
  refine⟨fD k4,_,k4,eC (by rw[Ab];exact hl),r _ ⟨_,_,_,e,g,h1,h2,(h3.wr (ws:=xs.map jJ ++ [jJ z]) hw).same fun j=>?_,h4'.lift (.inr ⟨_,hp2⟩),h5,?_,trivial⟩⟩
  ·refine(uO _ _ k z j).trans ?_;rw[hx];rfl
  ·show _<=(bE _ _ _).length
   rw[IY (by rw[hx];rfl)];exact h6
 ·have hx:aG st.begun k=none:=by
   cases q:aG st.begun k with
   | none=>rfl
   | some xs=>obtain⟨p',hp1,_⟩:=h3.has (k:=k) (ws:=xs.map jJ) (by show(aG _ _).map _=_;rw[q];rfl);rw[hw] at hp1;cases hp1
  have hxw:gG st.begun k=none:=by show(aG _ _).map _=_;rw[hx];rfl
  have p3:=h4.sub.non hp
  have t3:=h3.add nX (ws:=[]) hxw p3
  have hpa:p≠A.g:=fun z=>by rw[z,ha] at hp;cases hp
  have t4:=(h4.lift (o:=.lst []) (.inl hp)).lift (p:=A.g) (o:=.dT (bZ g (eK k) (.ref p))) (.inr ⟨.dT g,by rw[aN (Bf hpa)];exact h3.at_⟩)
  have lp:a9 (bZ g (eK k) (.ref p)) (eK k)=some (.ref p):=by rw[pN,if_pos rfl]
  have g2:put (put M3 p (.lst [])) A.g (.dT (bZ g (eK k) (.ref p))) p=some (.lst []):=by rw[aN hpa,aT]
  have k4:=t4.sub _ _ g2
  refine⟨fD k4,_,k4,eC (by simp),r _ ⟨_,_,_,e,_,h1,h2,(t3.wr (ws:=[jJ z]) lp).same fun j=>?_,t4.lift (.inr ⟨_,g2⟩),h5,?_,trivial⟩⟩
  ·refine(uO _ _ k z j).trans ?_
   rw[hx]
   by_cases hj:k=j
   ·rw[if_pos hj,if_pos hj];rfl
   ·rw[if_neg hj,if_neg hj,if_neg hj]
  ·show _<=(bE _ _ _).length
   rw[rK hx,Ak,Bk]
   have:=yK g (eK k) (W.ref p)
   lia
theorem SK.ends_at(h:SR C E M0 M A st)(k:Str×Int):∃ kvs,M A.e=some (.dT kvs)/\((a9 kvs (eK k)=none/\aG st.ends k=none)\/∃ p xs,a9 kvs (eK k)=some (.ref p)/\aG st.ends k=some xs/\SK C E M0 M A st (some (p,xs.map jI))):=by
 obtain⟨M1,M2,M3,e,g,h1,h2,h3,h4,h5,h6,h7⟩:=h.ex
 refine⟨e,h4.sub _ _ (h3.sub _ _ h2.at_),?_⟩
 cases q:aG st.ends k with
 | none=>exact .inl ⟨h2.non k (by show(aG _ _).map _=_;rw[q];rfl),rfl⟩
 | some xs=>
  obtain⟨p,hp1,hp2⟩:=h2.has (k:=k) (ws:=xs.map jI) (by show(aG _ _).map _=_;rw[q];rfl)
  exact .inr ⟨p,xs,hp1,rfl,M1,M2,M3,e,g,h1,h2,h3,h4,h5,h6,h3.sub _ _ hp2⟩
theorem SK.begun_at(h:SR C E M0 M A st)(k:Str×Int):∃ kvs,M A.g=some (.dT kvs)/\((a9 kvs (eK k)=none/\aG st.begun k=none)\/∃ p xs,a9 kvs (eK k)=some (.ref p)/\aG st.begun k=some xs/\SK C E M0 M A st (some (p,xs.map jJ))):=by
 obtain⟨M1,M2,M3,e,g,h1,h2,h3,h4,h5,h6,h7⟩:=h.ex
 refine⟨g,h4.sub _ _ h3.at_,?_⟩
 cases q:aG st.begun k with
 | none=>exact .inl ⟨h3.non k (by show(aG _ _).map _=_;rw[q];rfl),rfl⟩
 | some xs=>
  obtain⟨p,hp1,hp2⟩:=h3.has (k:=k) (ws:=xs.map jJ) (by show(aG _ _).map _=_;rw[q];rfl)
  exact .inr ⟨p,xs,hp1,rfl,M1,M2,M3,e,g,h1,h2,h3,h4,h5,h6,hp2⟩
theorem SK.eput(h:SR C E M0 M A st){nm:Str}{b:Int}{z:Int×aK}{R:K3}{τ:S3}{tk:aY}{t:dA}(e0:τ[0]? = some (some (.ref A.s)))(ek:∀ M1 Q,Q (W.tup [.str nm,.int b]) M1->tk τ M1 Q)(et:∀ M1 Q,Q [jI z] M1->t τ M1 Q)(hn:st.ends.length < 10000000)(hl:((aG st.ends (nm,b)).getD []).length < 10000000)(r:∀ M',SR C E M0 M' A {st with ends:=eV st.ends (nm,b) z}->R .non M') :
  dG "list" fF (dG "dict" pI (cZ C.s (aA 0) "ends") (aB tk (aB (fZ aF) aF))) t τ M R:=by
 obtain⟨kvs,h1,h2,h3⟩:=h.epush hn hl r
 refine⟨_,e0,A.s,A.d,_,_,rfl,h.os,IW,nV h1,ek _ _ ⟨Bv _,fun p hp=>?_⟩⟩
 obtain⟨h4,h5,h6⟩:=h3 p hp
 exact⟨kvs,eK (nm,b),h4,rfl,h2,fun w hw=>⟨(h5 w hw).1,et _ _ (h5 w hw).2⟩,fun hn=>⟨(h6 hn).1,et _ _ (h6 hn).2⟩⟩
theorem SK.gput(h:SR C E M0 M A st){nm:Str}{b:Int}{z:bY}{R:K3}{τ:S3}{tk:aY}{t:dA}(e0:τ[0]? = some (some (.ref A.s)))(ek:∀ M1 Q,Q (W.tup [.str nm,.int b]) M1->tk τ M1 Q)(et:∀ M1 Q,Q [jJ z] M1->t τ M1 Q)(hn:st.begun.length < 10000000)(hl:((aG st.begun (nm,b)).getD []).length < 10000000)(r:∀ M',SR C E M0 M' A {st with begun:=eV st.begun (nm,b) z}->R .non M') :
  dG "list" fF (dG "dict" pI (cZ C.s (aA 0) "begun") (aB tk (aB (fZ aF) aF))) t τ M R:=by
 obtain⟨kvs,h1,h2,h3⟩:=h.gpush hn hl r
 refine⟨_,e0,A.s,A.d,_,_,rfl,h.os,IX,nV h1,ek _ _ ⟨Bv _,fun p hp=>?_⟩⟩
 obtain⟨h4,h5,h6⟩:=h3 p hp
 exact⟨kvs,eK (nm,b),h4,rfl,h2,fun w hw=>⟨(h5 w hw).1,et _ _ (h5 w hw).2⟩,fun hn=>⟨(h6 hn).1,et _ _ (h6 hn).2⟩⟩
end
def rL:bJ:=fun ws M R=>∃ ts:List Str,ws=[.rl (ts.map W.str)]/\ts.length<=400/\R (.dk ((ts.foldl iO []).map fT)) M
def ownOf(rs:List aX):List (aD×W):=((namesOf rs).foldl iO []).map fT
def uP:bJ:=fun ws M R=>∃ a b:aK,ws=[cW a,cW b]/\R (cW (dB a b)) M
structure Sm(st:SS)(k:Nat):Prop where
 q:(a8 st.q).length + k < 10000000
 r:st.reached.length + k < 10000000
def pQ(C:Cc):bJ:=fun ws M R=>∃ (E:Env) (M0:Mm) (A:Ad) (st:SS) (n:Nat) (cut:List Int) (c:aK) (kp:Option (Addr×List W)),ws=[.ref A.s,.int n,f9 cut,cW c]/\SK C E M0 M A st kp/\cut≠[]/\Sm st 1/\∀ M',SK C E M0 M' A (reach st n cut c) kp->R .non M'
def yU(C:Cc):bJ:=fun ws M R=>∃ (E:Env) (M0:Mm) (A:Ad) (st:SS) (n:Nat) (cut:List Int) (c:aK) (part:Str),ws=[.ref A.s,.int n,f9 cut,cW c,.tup [.str part,.int (cut.getLastD 0)]]/\SR C E M0 M A st/\cut≠[]/\cut.length < 1000/\Sm st ((aG st.ends (part,cut.getLastD 0)).getD []).length/\st.begun.length < 10000000/\((aG st.begun (part,cut.getLastD 0)).getD []).length < 10000000/\∀ M',SR C E M0 M' A (fH st n cut c part)->R .non M'
def yV(C:Cc):bJ:=fun ws M R=>∃ (G:Sr) (E:Env) (M0:Mm) (A:Ad) (st:SS) (n:Nat) (cut:List Int) (c:aK),ws=[.ref A.s,.int n,f9 cut,cW c]/\SR C E M0 M A st/\G.rs=E.rs/\n < E.rs.length/\cut≠[]/\(∀ key,∀ y∈(aG st.begun key).getD [],y.2.1.length < 1000/\y.2.1≠[])/\Sm st ((aG st.begun (c7 G n,cut.headD 0)).getD []).length/\st.best.length < 10000000/\st.ends.length < 10000000/\((aG st.ends (c7 G n,cut.headD 0)).getD []).length < 10000000/\∀ M',SR C E M0 M' A (settle G st n cut c)->R .non M'
structure IZ(G:Sr)(E:Env):Prop where
 rs:G.rs=E.rs
 own:∀ t,(a9 E.own (Sum.inr t:aD)).isSome=G.own t
 stp:∀ t p,(a9 E.stp (eK (t,p))=none/\G.steps t p=[])\/a9 E.stp (eK (t,p))=some (.rl ((G.steps t p).map fun z=>.tup [.int z.1,.int z.2]))
structure Rm(G:Sr)(st:SS):Prop where
 item:∀ c n cut q',iD st.q=some (c,(n,cut),q')->cut≠[]/\cut.length < 1000/\n < G.rs.length/\∃ d,aG st.reached (bM n cut)=some d
 bg:∀ key,∀ y∈(aG st.begun key).getD [],y.2.1.length < 1000/\y.2.1≠[]
 b:st.best.length < 10000000
 e:st.ends.length < 10000000
 g:st.begun.length < 10000000
 el:∀ key,((aG st.ends key).getD []).length < 10000000/\Sm st ((aG st.ends key).getD []).length
 gl:∀ key,((aG st.begun key).getD []).length < 10000000/\Sm st ((aG st.begun key).getD []).length
 sl:∀ t p,Sm st (G.steps t p).length
def yW(C:Cc):bJ:=fun ws M R=>∃ (G:Sr) (E:Env) (M0:Mm) (A:Ad) (st:SS),ws=[.ref A.s]/\SR C E M0 M A st/\IZ G E/\st.q≠[]/\Rm G st/\∀ M',SR C E M0 M' A (lP G st)->R .non M'
def yX(C:Cc):bJ:=fun ws M R=>∃ (M0:Mm) (s dx:Addr) (rs:List aX) (stp:List (List aD×W)),ws=[.ref s,bR rs,.dt stp]/\rs.length<=100/\M=put M0 s (.ins C.s dx [])/\M0 s=none/\∀ M' (A:Ad),A.s=s->SR C ⟨rs,ownOf rs,stp⟩ M0 M' A gJ->R .non M'
def yY(G:Sr):Nat->SS
 | 0=>kP G
 | n + 1=>lP G (yY G n)
def kR(G:Sr)(B:bV):Prop:=∃ (S I0:Nat) (st:SS) (P:List bY) (cur:aK) (T:Nat),All G S I0 st P cur T/\st.q=[]/\st.best=B/\st=yY G T
def yZ(C:Cc):bJ:=fun ws M R=>∃ (G:Sr) (E:Env) (V:List Int) (L S:Nat),ws=[bR E.rs,.rl (G.places.map W.int),.dt E.stp,.rl ((Cw G.rs.length).map fun n=>.int (G.wt n))]/\E.rs.length<=100/\E.own=ownOf E.rs/\IZ G E/\nS G/\rG G V G.rs.length L/\L < 1000/\G.places.length<=1000/\(∀ t p,(G.steps t p).length<=S)/\
 (jZ G).length + G.rs.length * ((L + 1) * (V.length * V.length)) * (S + V.length) + G.rs.length * ((L + 1) * (V.length * V.length)) + V.length + S + 1 < 10000000/\∀ B,kR G B->kI (dC fK fU B) M R
abbrev ZZ:List Str:=["things"]
def Z0:aJ:=
   (b5 (bS HJ (aB (dS (gE (dJ gS (aA 0)) (bH 0) hZ (cC (aB (aA 0) (aB (vC (.bl true)) aF))) [none])) aF)))
abbrev Z1:List Str:=["cost","other"]
def Z2:aJ:=
   (b5 (cC (aB (aE cP (aE aQ (aA 0) (vC (.int 0))) (aE aQ (aA 1) (vC (.int 0)))) (aB (aE cP (aE aQ (aA 0) (vC (.int 1))) (aE aQ (aA 1) (vC (.int 1)))) aF))))
abbrev Z3:List Str:=["self","grammar","steps"]
def Z4(C:Cc):aJ:=
   (jX C.s (aA 0) "grammar" (aA 1))
def Z5(C:Cc):aJ:=
   (jX C.s (aA 0) "own" (bN rL (aB (dS (bN rH (aB (aA 1) aF))) aF)))
def Z6(C:Cc):aJ:=
   (jX C.s (aA 0) "steps" (aA 2))
def JA(C:Cc):aJ:=
   (jX C.s (aA 0) "queue" (t5 C.q (yN C) aF))
def Z7(C:Cc):aJ:=
   (jX C.s (aA 0) "reached" mI)
def Z8(C:Cc):aJ:=
   (jX C.s (aA 0) "best" mI)
def Z9(C:Cc):aJ:=
   (jX C.s (aA 0) "ends" mI)
def zaa(C:Cc):aJ:=
   (jX C.s (aA 0) "begun" mI)
def zab(C:Cc):aJ:=(aL (Z4 C) (aL (Z5 C) (aL (Z6 C) (aL (JA C) (aL (Z7 C) (aL (Z8 C) (aL (Z9 C) (zaa C))))))))
abbrev zac:List Str:=["self","number","cut","cost","key"]
def zad(C:Cc):aJ:=
   (aL (a0 4 (cC (aB (aA 1) (aB (bS dD (aB (aA 2) aF)) (aB (aE aQ (aA 2) (vC (.int 0))) (aB (aE aQ (aA 2) (lE lJ (vC (.int 1)))) aF))))))
   (cB (fP (bK (aE (rIn true) (aA 4) (cZ C.s (aA 0) "reached"))) (bK (aE yA (aA 3) (aE aQ (cZ C.s (aA 0) "reached") (aA 4)))))
    (aL (fQ (aA 3) (gD (cZ C.s (aA 0) "reached") (aA 4)))
   (eF (iC C.q "put" (uH C) (cZ C.s (aA 0) "queue") (aB (aA 3) (aB (cC (aB (aA 1) (aB (aA 2) aF))) aF)))))
    cU))
abbrev zae:List Str:=["self","taken","cost","number","cut","parts","end","price"]
def zaf(C:Cc):aJ:=
   (a0 1 (iC C.q "take" (yQ C) (cZ C.s (aA 0) "queue") aF))
def zag(C:Cc):aJ:=
   (a0 2 (aE aQ (aA 1) (vC (.int 0))))
def zah(C:Cc):aJ:=
   (a0 3 (aE aQ (aE aQ (aA 1) (vC (.int 1))) (vC (.int 0))))
def zai(C:Cc):aJ:=
   (a0 4 (aE aQ (aE aQ (aA 1) (vC (.int 1))) (vC (.int 1))))
def zaj(C:Cc):aJ:=
   (cB (bK (aE yA (aE aQ (cZ C.s (aA 0) "reached") (cC (aB (aA 3) (aB (bS dD (aB (aA 4) aF)) (aB (aE aQ (aA 4) (vC (.int 0))) (aB (aE aQ (aA 4) (lE lJ (vC (.int 1)))) aF)))))) (aA 2)))
    xF
    cU)
def zak(C:Cc):aJ:=
   (a0 5 (aE aQ (aE aQ (cZ C.s (aA 0) "grammar") (aA 3)) (vC (.int 1))))
def zal(C:Cc):aJ:=
   (cB (bK (aE qP (bS dD (aB (aA 4) aF)) (bS dD (aB (aA 5) aF))))
    (eF (iC C.s "settle" (yV C) (aA 0) (aB (aA 3) (aB (aA 4) (aB (aA 2) aF)))))
    (cB (bK (aE (rIn false) (aE aQ (aA 5) (aE tJ (bS dD (aB (aA 4) aF)) (vC (.int 1)))) (cZ C.s (aA 0) "own")))
    (eF (iC C.s "step_by_name" (yU C) (aA 0) (aB (aA 3) (aB (aA 4) (aB (aA 2) (aB (cC (aB (aE aQ (aA 5) (aE tJ (bS dD (aB (aA 4) aF)) (vC (.int 1)))) (aB (aE aQ (aA 4) (lE lJ (vC (.int 1)))) aF))) aF))))))
    (eI (dJ jU (dG "dict" mS (cZ C.s (aA 0) "steps") (aB (cC (aB (aE aQ (aA 5) (aE tJ (bS dD (aB (aA 4) aF)) (vC (.int 1)))) (aB (aE aQ (aA 4) (lE lJ (vC (.int 1)))) aF))) (aB (fR aF) aF)))) (hW 2 (cR (bH 6) (cR (bH 7) hV)))
    (eF (iC C.s "reach" (pQ C) (aA 0) (aB (aA 3) (aB (aE cP (aA 4) (cC (aB (aA 6) aF))) (aB (cC (aB (aE cP (aE aQ (aA 2) (vC (.int 0))) (aA 7)) (aB (aE aQ (aA 2) (vC (.int 1))) aF))) aF))))))))
def zam(C:Cc):aJ:=(aL (zaf C) (aL (zag C) (aL (zah C) (aL (zai C) (aL (zaj C) (aL (zak C) (zal C)))))))
abbrev zan:List Str:=["self","number","cut","cost","key","end","more"]
def zao(C:Cc):aJ:=
   (aL (eF (dG "list" fF (dG "dict" pI (cZ C.s (aA 0) "begun") (aB (aA 4) (aB (fZ aF) aF))) (aB (cC (aB (aA 1) (aB (aA 2) (aB (aA 3) aF)))) aF)))
   (eI (dJ jU (dG "dict" mS (cZ C.s (aA 0) "ends") (aB (aA 4) (aB (fR aF) aF)))) (hW 2 (cR (bH 5) (cR (bH 6) hV)))
    (eF (iC C.s "reach" (pQ C) (aA 0) (aB (aA 1) (aB (aE cP (aA 2) (cC (aB (aA 5) aF))) (aB (bN uP (aB (aA 3) (aB (aA 6) aF))) aF)))))))
abbrev zap:List Str:=["self","number","cut","cost","key","fact","other","before","paid"]
def zaq(C:Cc):aJ:=
   (a0 4 (cC (aB (aE aQ (aE aQ (cZ C.s (aA 0) "grammar") (aA 1)) (vC (.int 0))) (aB (aE aQ (aA 2) (vC (.int 0))) aF))))
def zar(C:Cc):aJ:=
   (a0 5 (aE cP (aA 4) (cC (aB (aE aQ (aA 2) (lE lJ (vC (.int 1)))) aF))))
def zas(C:Cc):aJ:=
   (cB (bK (aE (rIn false) (aA 5) (cZ C.s (aA 0) "best")))
    xF
    cU)
def zat(C:Cc):aJ:=
   (fQ (cC (aB (aA 3) (aB (aA 1) (aB (aA 2) aF)))) (gD (cZ C.s (aA 0) "best") (aA 5)))
def zau(C:Cc):aJ:=
   (eF (dG "list" fF (dG "dict" pI (cZ C.s (aA 0) "ends") (aB (aA 4) (aB (fZ aF) aF))) (aB (cC (aB (aE aQ (aA 2) (lE lJ (vC (.int 1)))) (aB (aA 3) aF))) aF)))
def zav(C:Cc):aJ:=
   (eF (iC C.s "reach" (pQ C) (aA 0) (aB (aA 6) (aB (aE cP (aA 7) (cC (aB (aE aQ (aA 2) (lE lJ (vC (.int 1)))) aF))) (aB (bN uP (aB (aA 8) (aB (aA 3) aF))) aF)))))
def zaw(C:Cc):aJ:=
   (eI (dJ jU (dG "dict" mS (cZ C.s (aA 0) "begun") (aB (aA 4) (aB (fR aF) aF)))) (hW 3 (cR (bH 6) (cR (bH 7) (cR (bH 8) hV)))) (zav C))
def zax(C:Cc):aJ:=(aL (zaq C) (aL (zar C) (aL (zas C) (aL (zat C) (aL (zau C) (zaw C))))))
abbrev zay:List Str:=["grammar","places","steps","weights","search","number","place"]
def zaz(C:Cc):aJ:=
   (a0 4 (t5 C.s (yX C) (aB (aA 0) (aB (aA 2) aF))))
def zaA(C:Cc):aJ:=
   (eI (dJ gS (aA 1)) (bH 6)
    (eF (iC C.s "reach" (pQ C) (aA 4) (aB (aA 5) (aB (cC (aB (aA 6) aF)) (aB (cC (aB (aE aQ (aA 3) (aA 5)) (aB (vC (.int 1)) aF))) aF))))))
def zaB(C:Cc):aJ:=
   (eI (mL (aB (bS dD (aB (aA 0) aF)) aF)) (bH 5) (zaA C))
def zaC(C:Cc):aJ:=
   (eF (iC C.s "take_next" (yW C) (aA 4) aF))
def zaD(C:Cc):aJ:=
   (qU (mD (i9 (iC C.q "is_done" (yO C) (cZ C.s (aA 4) "queue") aF))) (zaC C))
def zaE(C:Cc):aJ:=
   (b5 (cZ C.s (aA 4) "best"))
def zaF(C:Cc):aJ:=(aL (zaz C) (aL (zaB C) (aL (zaD C) (zaE C))))
theorem zaG:∀ ws M R,rL ws M R->ws.length=1:=by rintro ws M R ⟨_,rfl,_⟩;rfl
theorem zaH:∀ ws M R,uP ws M R->ws.length=2:=by rintro ws M R ⟨_,_,rfl,_⟩;rfl
theorem zaI{C:Cc}:∀ ws M R,pQ C ws M R->ws.length=4:=by rintro ws M R ⟨_,_,_,_,_,_,_,_,rfl,_⟩;rfl
theorem zaJ{C:Cc}:∀ ws M R,yU C ws M R->ws.length=5:=by rintro ws M R ⟨_,_,_,_,_,_,_,_,rfl,_⟩;rfl
theorem zaK{C:Cc}:∀ ws M R,yV C ws M R->ws.length=4:=by rintro ws M R ⟨_,_,_,_,_,_,_,_,rfl,_⟩;rfl
theorem zaL{C:Cc}:∀ ws M R,yW C ws M R->ws.length=1:=by rintro ws M R ⟨_,_,_,_,_,rfl,_⟩;rfl
theorem zaM{C:Cc}:∀ ws M R,yX C ws M R->ws.length=3:=by rintro ws M R ⟨_,_,_,_,_,rfl,_⟩;rfl
theorem zaN{C:Cc}:∀ ws M R,yZ C ws M R->ws.length=4:=by rintro ws M R ⟨_,_,_,_,_,rfl,_⟩;rfl
theorem JB:∀ (ts acc:List Str),pF (acc.map fT) (ts.map fT)=(ts.foldl iO acc).map fT
 | [],acc=>rfl
 | t :: r,acc=>by
  show pF (bZ (acc.map fT) (Sum.inr t) (.bl true)) (r.map fT)=_
  rw[IU,JB,Ec]
theorem zaO{ws:List W}{M:Mm}{R:K3}(h:rL ws M R):Z0 (bT R) (b8 ZZ ws) M:=by
 obtain⟨ts,rfl,hl,r⟩:=h
 have l:(ts.map W.str).length<=Am:=iA (by rw[Ab];exact Bh hl (by decide))
 refine⟨_,rfl,nW (WC (rest:=[]) (fun w=>.tup [w,.bl true]) l (fun _ _=>trivial) (fun w hw M' C sb h1=>⟨_,rfl,z2,h1⟩) (bC.frz ⟨ts.map fT,?_,by rw[Ab];exact l,_,Sub.refl _,?_⟩))⟩
 ·unfold pG
  rw[Bp,Bp];rfl
 ·rw[show([]:List (aD×W))=([]:List Str).map fT from rfl,JB]
  exact r
theorem zaP{ws:List W}{M:Mm}{R:K3}(h:uP ws M R):Z2 (bT R) (b8 Z1 ws) M:=by
 obtain⟨a,b,rfl,r⟩:=h
 exact⟨_,rfl,_,rfl,_,rfl,_,rfl,_,rfl,_,rfl,_,rfl,_,rfl,z2,_,Sub.refl _,r⟩
variable {α:Type}
theorem y0{cut:List Int}(h:cut≠[]):cG (cut.map W.int) 0=some (.int (cut.headD 0)):=by
 cases cut with
 | nil=>exact absurd rfl h
 | cons a t=>exact xS _ _
theorem nY{cut:List Int}(h:cut≠[]):cG (cut.map W.int) (-1)=some (.int (cut.getLastD 0)):=by
 rcases Dh cut with z | ⟨a,b,z⟩
 ·exact absurd z h
 ·rw[z,Dj,Ax]
  refine(EC _ _).trans ?_
  simp[Gg]
theorem JC{n:Nat}{cut:List Int}:W.tup [.int n,.int (cut.map W.int).length,.int (cut.headD 0),.int (cut.getLastD 0)]=.tup ((kQ (bM n cut)).map wK):=by
 rw[Ab];rfl
theorem zaQ{M:Mm}{a:Addr}{t:List (K4×aK)}{n:Nat}{cut:List Int}{d:aK}{R:K3}(h:M a=some (.dT (dC kQ cW t)))(hd:aG t (bM n cut)=some d)(r:R (cW d) M):L3.aQ (.ref a) (.tup [.int n,.int (cut.map W.int).length,.int (cut.headD 0),.int (cut.getLastD 0)]) M R:=by rw[JC];exact nU h (by rw[j5 uL,hd];rfl) r
theorem JD{C:Cc}{E:Env}{M0 M:Mm}{A:Ad}{st:SS}{n:Nat}{cut:List Int}{c:aK}{R:K3}{kp:Option (Addr×List W)}(hs:SK C E M0 M A st kp)(sm:Sm st 1)(r:∀ M',SK C E M0 M' A {st with reached:=bE st.reached (bM n cut) c,q:=dO c (n,cut) st.q} kp->R .non M') :
  aL (fQ (aA 3) (gD (cZ C.s (aA 0) "reached") (aA 4))) (eF (iC C.q "put" (uH C) (cZ C.s (aA 0) "queue") (aB (aA 3) (aB (cC (aB (aA 1) (aB (aA 2) aF))) aF)))) (bT R) [some (W.ref A.s),some (W.int n),some (f9 cut),some (cW c),some (W.tup (Ku wK (kQ (bM n cut))))] M:=by
 have h1:=sm.q
 have h2:=sm.r
 refine⟨_,rfl,_,rfl,A.s,A.d,_,_,rfl,hs.os,uM,_,rfl,qX hs.or (eC (by rw[Ab];lia)) ?_⟩
 rw[rJ uL]
 have hs1:=hs.rput (bE st.reached (bM n cut) c)
 obtain⟨M3,hq,back⟩:=hs1.que
 exact⟨_,rfl,A.s,A.d,_,_,rfl,hs1.os,yS,A.Q.o,A.Q.d,qf A.Q,rfl,hq.ob,YI,_,rfl,_,rfl,_,rfl,z2,M3,A.Q,_,c,(n,cut),rfl,hq,(by rw[t9];exact h1),fun M' h'=>⟨M',Sub.refl _,r M' (back M' _ h')⟩⟩
theorem zaR{C:Cc}{ws:List W}{M:Mm}{R:K3}(h:pQ C ws M R):zad C (bT R) (b8 zac ws) M:=by
 obtain⟨E,M0,A,st,n,cut,c,kp,rfl,hs,hcut,sm,r⟩:=h
 refine⟨_,rfl,_,rfl,_,rfl,_,y0 hcut,_,rfl,_,nY hcut,z4,?_⟩
 rw[JC]
 refine⟨_,rfl,_,rfl,A.s,A.d,_,_,rfl,hs.os,uM,.inr ⟨_,.inr ⟨_,_,hs.or,rfl,rfl⟩,_,rfl,?_⟩⟩
 rw[j5 uL]
 cases hr:aG st.reached (bM n cut) with
 | none=>
  refine b9 (fun _=>ZR (JD hs sm fun M' h'=>r M' ?_)) fun h=>nomatch (show true=false from h)
  unfold reach;rw[hr];exact h'
 | some d=>
  refine b9 (fun h=>nomatch (show false=true from h)) fun _=>⟨_,rfl,_,rfl,A.s,A.d,_,_,rfl,hs.os,uM,_,rfl,nU hs.or (by rw[j5 uL,hr];rfl) ⟨c.1,c.2,d.1,d.2,rfl,rfl,_,rfl,b9 (fun hl=>JD hs sm fun M' h'=>r M' ?_) fun hl=>⟨M,Sub.refl _,r M ?_⟩⟩⟩
  ·unfold reach;rw[hr];simp only;rw[if_pos (show cI c d=true from hl)];exact h'
  ·unfold reach;rw[hr];simp only;rw[if_neg (ne_true_of_eq_false (show cI c d=false from hl))];exact hs
theorem Sm.reach{st:SS}{k:Nat}(h:Sm st (k + 1))(n:Nat)(cut:List Int)(c:aK):Sm (Rg.reach st n cut c) k:=by
 obtain⟨j,h1,h2,h3⟩:=IC st n cut c
 have:=h.q
 have:=h.r
 exact⟨by lia,by lia⟩
theorem Sm.le{st:SS}{k j:Nat}(h:Sm st k)(hj:j<=k):Sm st j:=⟨by have:=h.q;lia,by have:=h.r;lia⟩
def eQ(f:α->Nat×List Int×aK)(xs:List α)(st:SS):SS:=xs.foldl (fun st x=>reach st (f x).1 (f x).2.1 (f x).2.2) st
theorem uQ{f:α->Nat×List Int×aK}{xs:List α}{st:SS}{i:Nat}{x:α}(h:xs[i]? = some x):eQ f (xs.take (i + 1)) st=reach (eQ f (xs.take i) st) (f x).1 (f x).2.1 (f x).2.2:=by
 unfold eQ
 rw[Bx,h,Eh];rfl
theorem pR{f:α->Nat×List Int×aK}:∀ {xs:List α} {st:SS} {k:Nat},Sm st (xs.length + k)->Sm (eQ f xs st) k
 | [],st,k,h=>by simp at h;exact h
 | x :: xs,st,k,h=>by
  show Sm (eQ f xs (reach st (f x).1 (f x).2.1 (f x).2.2)) k
  exact pR (Sm.reach (by rw[Bs] at h;exact h.le (by lia)) _ _ _)
theorem rM{f:α->Nat×List Int×aK}:∀ {xs:List α} {st:SS},(eQ f xs st).ends=st.ends/\(eQ f xs st).begun=st.begun/\(eQ f xs st).best=st.best
 | [],st=>⟨rfl,rfl,rfl⟩
 | x :: xs,st=>by
  have h1:=rM (f:=f) (xs:=xs) (st:=reach st (f x).1 (f x).2.1 (f x).2.2)
  have h2:∀ n cut c,(reach st n cut c).ends=st.ends/\(reach st n cut c).begun=st.begun/\(reach st n cut c).best=st.best:=by
   intro n cut c
   unfold reach
   split
   ·split <;> exact⟨rfl,rfl,rfl⟩
   ·exact⟨rfl,rfl,rfl⟩
  obtain⟨a1,a2,a3⟩:=h2 (f x).1 (f x).2.1 (f x).2.2
  exact⟨h1.1.trans a1,h1.2.1.trans a2,h1.2.2.trans a3⟩
theorem zaS{C:Cc}{ws:List W}{M:Mm}{R:K3}(h:yU C ws M R):zao C (bT R) (b8 zan ws) M:=by
 obtain⟨E,M0,A,st,n,cut,c,part,rfl,hs,hcut,hcl,sm,hb,hb2,r⟩:=h
 refine SK.gput hs (z:=(n,cut,c)) rfl (fun M1 Q h=>⟨_,rfl,h⟩) (fun M1 Q h=>⟨_,rfl,_,rfl,_,rfl,z3,h⟩) hb hb2 fun M1 hs1=>?_
 have hf:=hs1.ends_at (part,cut.getLastD 0)
 obtain⟨kvs,he,hc⟩:=hf
 refine⟨_,rfl,A.s,A.d,_,_,rfl,hs1.os,IW,nV he,_,rfl,Bv _,_,.inr ⟨kvs,eK (part,cut.getLastD 0),he,rfl,rfl⟩,?_⟩
 rcases hc with⟨h1,h2⟩ | ⟨p,xs,h1,h2,hk⟩
 ·rw[h1]
  refine uI rfl (eO (fun i τ M'=>M'=M1) rfl (fun _ _ _ _ _=>trivial) (fun i w τ M' hw=>nomatch hw) fun τ M' e=>⟨_,Sub.refl _,r _ ?_⟩)
  rw[e]
  unfold fH
  rw[show aG st.ends (part,cut.getLastD 0)=none from h2]
  exact hs1
 ·rw[h1]
  obtain⟨f,hf⟩:∃ f:Int×aK->Nat×List Int×aK,f=fun z=>(n,cut ++ [z.1],dB c z.2):=⟨_,rfl⟩
  obtain⟨st1,hst1⟩:∃ st1,st1 = {st with begun:=eV st.begun (part,cut.getLastD 0) (n,cut,c)}:=⟨_,rfl⟩
  rw[<-hst1] at hk
  have sm1:Sm st1 xs.length:=by
   rw[show aG st.ends (part,cut.getLastD 0)=some xs from h2] at sm
   rw[hst1];exact⟨sm.q,sm.r⟩
  refine⟨_,hk.kept,eO (fun i τ M'=>∃ o5 o6,τ=[some (.ref A.s),some (.int n),some (f9 cut),some (cW c),some (.tup [.str part,.int (cut.getLastD 0)]),o5,o6]/\SK C E M0 M' A (eQ f (xs.take i) st1) (some (p,xs.map jI))) ⟨_,_,rfl,hk⟩ (fun i τ M' _ ⟨_,_,_,h⟩=>h.kept) ?_ ?_⟩
  ·rintro i w τ M' hw ⟨o5,o6,rfl,hk'⟩
   rw[Av] at hw
   obtain⟨z,hz,rfl⟩:=Bj.mp hw
   have hi:=(Aj.mp hz).1
   have smi:Sm (eQ f (xs.take i) st1) 1:=pR (sm1.le (by rw[Cb];lia))
   have e1:W.tup (Ku W.int cut ++ [W.int z.1])=f9 (cut ++ [z.1]):=by unfold f9;rw[Ax];rfl
   refine⟨rfl,rfl,_,rfl,A.s,A.d,_,rfl,hk'.os,uN,_,rfl,_,rfl,_,rfl,z1,by simpa using hcut,by rw[Ab];exact Bh hcl (iA (by decide)),_,rfl,_,rfl,c,z.2,rfl,E,M0,A,_,n,cut ++ [z.1],dB c z.2,_,by rw[e1],hk',by simp,smi,fun M2 hk2=>⟨M2,Sub.refl _,_,_,rfl,?_⟩⟩
   rw[uQ hz,hf]
   rw[hf] at hk2
   exact hk2
  ·rintro τ M' ⟨o5,o6,rfl,hk'⟩
   rw[Ab,Bz] at hk'
   refine⟨_,Sub.refl _,r _ ?_⟩
   unfold fH
   rw[show aG st.ends (part,cut.getLastD 0)=some xs from h2]
   rw[hst1,hf] at hk'
   exact hk'.free
end Rg
namespace Rg
open PySem PySem.Spec PyProof.Rows L2 L3
theorem rN{rs:List aX}{n:Nat}(h:n < rs.length):∃ r,rs[n]? = some r/\cG (rs.map eP) (n:Int)=some (eP r):=by
 refine⟨rs[n],An h,eN ?_⟩
 rw[Av,An h];rfl
theorem zaT{bs:bV}{k:bA}{v:aK×Nat×List Int}(h:aG bs k=none):bZ (dC fK fU bs) (fK k) (fU v)=dC fK fU (bs ++ [(k,v)]):=by
 rw[rJ mV,rK h]
theorem zaU{C:Cc}{ws:List W}{M:Mm}{R:K3}(h:yV C ws M R):zax C (bT R) (b8 zap ws) M:=by
 obtain⟨G,E,M0,A,st,n,cut,c,rfl,hs,hG,hn,hcut,hbg,sm,hb,he,hel,r⟩:=h
 obtain⟨ru,hr1,hr2⟩:=rN hn
 have hfn:c7 G n=ru.name:=by unfold c7;rw[hG,hr1]
 have hfact:cE G n cut=(ru.name,cut.headD 0,cut.getLastD 0):=by unfold cE;rw[hfn]
 rw[hfn] at sm hel
 refine⟨_,rfl,A.s,A.d,_,_,rfl,hs.os,IV,_,rfl,_,hr2,_,rfl,_,rfl,_,y0 hcut,z2,_,rfl,_,rfl,_,nY hcut,z1,(fun h=>nomatch h),z3,_,rfl,_,rfl,A.s,A.d,_,_,rfl,hs.os,yT,.inr ⟨_,.inr ⟨_,fK (ru.name,cut.headD 0,cut.getLastD 0),hs.ob,rfl,rfl⟩,_,rfl,?_⟩⟩
 rw[j5 mV]
 cases hbst:aG st.best (ru.name,cut.headD 0,cut.getLastD 0) with
 | some v=>
  refine b9 (fun _=>⟨M,Sub.refl _,r M ?_⟩) fun h=>nomatch (show true=false from h)
  unfold settle;rw[hfact,hbst];exact hs
 | none=>
  refine b9 (fun h=>nomatch (show false=true from h)) fun _=>⟨_,rfl,_,rfl,_,rfl,z3,_,rfl,A.s,A.d,_,_,rfl,hs.os,yT,_,rfl,qX (k:=fK (ru.name,cut.headD 0,cut.getLastD 0)) hs.ob (eC (by rw[Ab];exact hb)) ?_⟩
  rw[show bZ (dC fK fU st.best) _ (W.tup [cW c,W.int n,f9 cut])=_ from zaT (v:=(c,n,cut)) hbst]
  have hs1:=hs.bput (st.best ++ [((ru.name,cut.headD 0,cut.getLastD 0),c,n,cut)])
  refine SK.eput hs1 (nm:=ru.name) (b:=cut.headD 0) (z:=(cut.getLastD 0,c)) rfl (fun M1 Q h=>⟨_,rfl,h⟩) (fun M1 Q h=>⟨_,rfl,_,nY hcut,_,rfl,z2,h⟩) he hel fun M1 hs2=>?_
  obtain⟨st1,hst1⟩:∃ st1:SS,st1 = {st with best:=st.best ++ [((ru.name,cut.headD 0,cut.getLastD 0),c,n,cut)],ends:=eV st.ends (ru.name,cut.headD 0) (cut.getLastD 0,c)}:=⟨_,rfl⟩
  have hs2:SR C E M0 M1 A st1:=by rw[hst1];exact hs2
  have hset:∀ xs,(aG st.begun (ru.name,cut.headD 0)).getD []=xs->settle G st n cut c=eQ (fun y:bY=>(y.1,y.2.1 ++ [cut.getLastD 0],dB y.2.2 c)) xs st1:=fun xs hx=>by
   unfold settle
   rw[hfact,hbst,hfn,hx,hst1];rfl
  have hbeg:st1.begun=st.begun:=by rw[hst1]
  obtain⟨kvs,hg,hc⟩:=hs2.begun_at (ru.name,cut.headD 0)
  refine⟨_,rfl,A.s,A.d,_,_,rfl,hs2.os,IX,nV hg,_,rfl,Bv _,_,.inr ⟨kvs,eK (ru.name,cut.headD 0),hg,rfl,rfl⟩,?_⟩
  rcases hc with⟨h1,h2⟩ | ⟨p,xs,h1,h2,hk⟩
  ·rw[h1]
   refine uI rfl (eO (fun i τ M'=>M'=M1) rfl (fun _ _ _ _ _=>trivial) (fun i w τ M' hw=>nomatch hw) fun τ M' e=>⟨_,Sub.refl _,r _ ?_⟩)
   rw[hset [] (by rw[hbeg] at h2;rw[h2];rfl),e]
   exact hs2
  ·rw[h1]
   rw[hbeg] at h2
   obtain⟨f,hf⟩:∃ f:bY->Nat×List Int×aK,f=fun y=>(y.1,y.2.1 ++ [cut.getLastD 0],dB y.2.2 c):=⟨_,rfl⟩
   have sm1:Sm st1 xs.length:=by
    rw[h2] at sm
    rw[hst1];exact⟨sm.q,sm.r⟩
   refine⟨_,hk.kept,eO (fun i τ M'=>∃ o6 o7 o8,τ=[some (.ref A.s),some (.int n),some (f9 cut),some (cW c),some (.tup [.str ru.name,.int (cut.headD 0)]),some (.tup ([.str ru.name,.int (cut.headD 0)] ++ [.int (cut.getLastD 0)])),o6,o7,o8]/\SK C E M0 M' A (eQ f (xs.take i) st1) (some (p,xs.map jJ))) ⟨_,_,_,rfl,hk⟩ (fun i τ M' _ ⟨_,_,_,_,h⟩=>h.kept) ?_ ?_⟩
   ·rintro i w τ M' hw ⟨o6,o7,o8,rfl,hk'⟩
    rw[Av] at hw
    obtain⟨y,hy,rfl⟩:=Bj.mp hw
    have hi:=(Aj.mp hy).1
    obtain⟨hyl,hyn⟩:=hbg (ru.name,cut.headD 0) y (by rw[h2];exact Be hy)
    refine⟨rfl,rfl,_,rfl,A.s,A.d,_,rfl,hk'.os,uN,_,rfl,_,rfl,_,rfl,_,nY hcut,z1,by simpa using hyn,by rw[Ab];exact iA (Bh hyl (by decide)),_,rfl,_,rfl,y.2.2,c,rfl,E,M0,A,_,y.1,y.2.1 ++ [cut.getLastD 0],dB y.2.2 c,_,by rw[f9,Ax];rfl,hk',by simp,pR (sm1.le (by rw[Cb];lia)),fun M2 hk2=>⟨M2,Sub.refl _,_,_,_,rfl,?_⟩⟩
    rw[uQ hy,hf]
    rw[hf] at hk2
    exact hk2
   ·rintro τ M' ⟨o6,o7,o8,rfl,hk'⟩
    rw[Ab,Bz] at hk'
    refine⟨_,Sub.refl _,r _ ?_⟩
    rw[hset xs (by rw[h2];rfl),<-hf]
    exact hk'.free
theorem zaV{C:Cc}{ws:List W}{M:Mm}{R:K3}(h:yW C ws M R):zam C (bT R) (b8 zae ws) M:=by
 obtain⟨G,E,M0,A,st,rfl,hs,ev,hq,rm,r⟩:=h
 obtain⟨c,x,q',e1,f1,m1,l1,_,_⟩:=nR hs.fall hq
 obtain⟨n,cut⟩:=x
 obtain⟨hcut,hcl,hn,d,hd⟩:=rm.item c n cut q' e1
 obtain⟨M3,hQ,back⟩:=hs.que
 refine⟨_,rfl,A.s,A.d,_,_,rfl,hs.os,yS,A.Q.o,A.Q.d,_,rfl,hQ.ob,YJ,M3,A.Q,_,c,(n,cut),q',rfl,hQ,e1,fun M1 hQ1=>?_⟩
 have hs1:=back M1 q' hQ1
 have smq:∀ k,Sm st k->Sm {st with q:=q'} k:=fun k h=>⟨by have:=h.q;show(a8 q').length + k < _;lia,h.r⟩
 have ht:lP G st=if cI d c=true then {st with q:=q'} else process G {st with q:=q'} n cut c:=by
  unfold lP
  simp only[e1,hd]
 obtain⟨st1,hst1⟩:∃ st1:SS,st1 = {st with q:=q'}:=⟨_,rfl⟩
 have b1:st1.begun=st.begun:=by rw[hst1]
 have b2:st1.ends=st.ends:=by rw[hst1]
 have b3:st1.best=st.best:=by rw[hst1]
 have b4:st1.reached=st.reached:=by rw[hst1]
 rw[<-hst1] at hs1 smq ht
 clear hst1
 refine⟨_,rfl,_,rfl,_,rfl,_,rfl,_,rfl,_,rfl,_,rfl,_,rfl,_,rfl,A.s,A.d,_,_,rfl,hs1.os,uM,_,rfl,_,rfl,_,rfl,_,y0 hcut,_,rfl,_,nY hcut,z4,zaQ hs1.or (by rw[b4];exact hd) ⟨_,rfl,d.1,d.2,c.1,c.2,rfl,rfl,_,rfl,b9 (fun hl=>?_) fun hl=>?_⟩⟩
 ·rw[ht,if_pos (show cI d c=true from hl)] at r
  exact⟨M1,Sub.refl _,r M1 hs1⟩
 rw[ht,if_neg (ne_true_of_eq_false (show cI d c=false from hl))] at r
 rw[ev.rs] at hn
 obtain⟨ru,hr1,hr2⟩:=rN hn
 have hpart:dP G n cut=ru.parts[cut.length - 1]?:=by unfold dP;rw[ev.rs,hr1]
 have hpos:=Ft.mpr hcut
 have hlm:(Ku W.int cut).length=cut.length:=Ab _
 have hlp:(Ku W.str ru.parts).length=ru.parts.length:=Ab _
 refine⟨_,rfl,A.s,A.d,_,_,rfl,hs1.os,IV,_,rfl,_,hr2,_,rfl,_,rfl,_,rfl,_,rfl,b9 (fun hlen=>?_) fun hlen=>?_⟩
 ·have hlen:=of_decide_eq_true hlen
  rw[hlm,hlp] at hlen
  have hp:dP G n cut=none:=by rw[hpart];exact Em (by lia)
  refine⟨_,rfl,A.s,A.d,_,rfl,hs1.os,ZY,_,rfl,_,rfl,_,rfl,G,E,M0,A,st1,n,cut,c,rfl,hs1,ev.rs,hn,hcut,by rw[b1];exact rm.bg,by rw[b1];exact smq _ (rm.gl _).2,by rw[b3];exact rm.b,by rw[b2];exact rm.e,by rw[b2];exact(rm.el _).1,fun M2 hs2=>⟨M2,Sub.refl _,r M2 ?_⟩⟩
  unfold process;rw[hp];exact hs2
 have hlen:=of_decide_eq_false hlen
 rw[hlm,hlp] at hlen
 obtain⟨part,hp⟩:∃ part,ru.parts[cut.length - 1]? = some part:=⟨_,An (by lia)⟩
 rw[hp] at hpart
 have hat:cG (ru.parts.map W.str) ((Ku W.int cut).length - 1)=some (.str part):=by
  rw[hlm,show((cut.length:Int) - 1)=((cut.length - 1:Nat):Int) by lia]
  exact eN (by rw[Av,hp];rfl)
 have hpr:process G st1 n cut c=if G.own part=true then fH st1 n cut c part else eQ (fun z:Int×Int=>(n,cut ++ [z.1],(c.1 + z.2,c.2))) (G.steps part (cut.getLastD 0)) st1:=by
  unfold process;rw[hpart];rfl
 rw[hpr] at r
 refine⟨_,rfl,_,rfl,_,hat,_,rfl,A.s,A.d,_,_,rfl,hs1.os,ZU,_,⟨Sum.inr part,rfl,rfl⟩,_,rfl,b9 (fun ho=>?_) fun ho=>?_⟩
 ·rw[if_pos ((ev.own part).symm.trans ho)] at r
  exact⟨_,rfl,A.s,A.d,_,rfl,hs1.os,ZX,_,rfl,_,rfl,_,rfl,_,rfl,_,rfl,_,hat,_,rfl,_,nY hcut,z2,E,M0,A,st1,n,cut,c,part,rfl,hs1,hcut,hcl,by rw[b2];exact smq _ (rm.el _).2,by rw[b1];exact rm.g,by rw[b1];exact(rm.gl _).1,fun M2 hs2=>⟨M2,Sub.refl _,r M2 hs2⟩⟩
 rw[if_neg (ne_true_of_eq_false ((ev.own part).symm.trans ho))] at r
 obtain⟨xs,hxs⟩:∃ xs,xs=G.steps part (cut.getLastD 0):=⟨_,rfl⟩
 have sm1:Sm st1 xs.length:=by rw[hxs];exact smq _ (rm.sl _ _)
 have hval:(a9 E.stp (eK (part,cut.getLastD 0))).getD (.rl [])=.rl (xs.map fun z=>.tup [.int z.1,.int z.2]):=by
  rw[hxs]
  rcases ev.stp part (cut.getLastD 0) with⟨h1,h2⟩ | h1
  ·rw[h1,h2];rfl
  ·rw[h1];rfl
 rw[<-hxs] at r
 refine⟨_,rfl,A.s,A.d,_,_,rfl,hs1.os,ZV,rfl,_,rfl,_,rfl,_,hat,_,rfl,_,nY hcut,z2,Bv _,_,⟨eK (part,cut.getLastD 0),rfl,rfl⟩,uI hval (eO (fun i τ M'=>∃ o6 o7,τ=[some (.ref A.s),some (.tup [cW c,j0 (n,cut)]),some (cW c),some (.int n),some (f9 cut),some (.tup (ru.parts.map W.str)),o6,o7]/\SR C E M0 M' A (eQ (fun z:Int×Int=>(n,cut ++ [z.1],(c.1 + z.2,c.2))) (xs.take i) st1)) ⟨_,_,rfl,hs1⟩ (fun _ _ _ _ _=>trivial) ?_ ?_)⟩
 ·rintro i w τ M' hw ⟨o6,o7,rfl,hk⟩
  rw[Av] at hw
  obtain⟨z,hz,rfl⟩:=Bj.mp hw
  have hi:=(Aj.mp hz).1
  exact⟨rfl,rfl,_,rfl,A.s,A.d,_,rfl,hk.os,uN,_,rfl,_,rfl,_,rfl,z1,by simpa using hcut,by rw[hlm];exact Bh hcl (iA (by decide)),_,rfl,_,rfl,_,rfl,_,rfl,_,rfl,z2,E,M0,A,_,n,cut ++ [z.1],(c.1 + z.2,c.2),_,by rw[f9,Ax];rfl,hk,by simp,pR (sm1.le (by rw[Cb];lia)),fun M2 hk2=>⟨M2,Sub.refl _,_,_,rfl,by rw[uQ hz];exact hk2⟩⟩
 ·rintro τ M' ⟨o6,o7,rfl,hk⟩
  rw[Ab,Bz] at hk
  exact⟨_,Sub.refl _,r _ hk⟩
theorem zaW{E:Env}{A:Ad}:bX "begun" (.ref A.g) (bX "ends" (.ref A.e) (bX "best" (.ref A.b) (bX "reached" (.ref A.r) (bX "queue" (.ref A.Q.o) ([("grammar",(bR E.rs)),("own",(W.dk E.own)),("steps",(W.dt E.stp))]:List (Str×W))))))=sf E A:=by kernel_rfl
theorem uR{C:Cc}{B Mt:Mm}{A:Aq}{q:Qu}{s dx p:Addr}{fs fs':List (Str×W)}(hQ:QR C B Mt A q)(hB:B s=some (.ins C.s dx fs))(hp:Mt p=none):p≠s/\B p=none/\put Mt p (.dT []) s=some (.ins C.s dx fs)/\QR C (put (put B p (.dT [])) s (.ins C.s dx fs')) (put (put Mt p (.dT [])) s (.ins C.s dx fs')) A q:=by
 have hs:=hQ.sub _ _ hB
 have ne:p≠s:=fun e=>by rw[e,hs] at hp;cases hp
 exact⟨ne,hQ.sub.non hp,by rw[aN (Bf ne)];exact hs,(hQ.lift (.inl hp)).lift (.inr ⟨_,by rw[aN (Bf ne)];exact hB⟩)⟩
theorem rO(f:Str)(w:W):∀ fs:List (Str×W),(bX f w fs).length<=fs.length + 1
 | []=>Ai _
 | (k,x) :: r=>by
  rw[bX]
  split
  ·simp
  ·have:=rO f w r
   simp only[Bs];lia
theorem zaX{C:Cc}{ws:List W}{M:Mm}{R:K3}(h:yX C ws M R):zab C (bT R) (b8 Z3 ws) M:=by
 obtain⟨M0,s,dx,rs,stp,rfl,hl,rfl,h0,r⟩:=h
 refine⟨_,rfl,_,rfl,s,dx,_,rfl,aT,by decide,?_⟩
 rw[gP]
 have e2:∀ w:W,bX "own" w (bX "grammar" (bR rs) [])=([("grammar",bR rs),("own",w)]:List (Str×W)):=fun w=>by kernel_rfl
 have e3:∀ w:W,bX "steps" w ([("grammar",bR rs),("own",.dk (ownOf rs))]:List (Str×W))=([("grammar",bR rs),("own",.dk (ownOf rs)),("steps",w)]:List (Str×W)):=fun w=>by kernel_rfl
 refine⟨_,rfl,rs,rfl,Bh hl (by decide),bC.frz ⟨namesOf rs,rfl,?_,_,rfl,s,dx,_,rfl,aT,(show(1:Nat) < 1000 by decide),_,rfl,_,rfl,s,dx,_,rfl,aT,?_,?_⟩⟩
 ·have:=tY (rs.map aX.name) []
  rw[Ab] at this
  unfold namesOf qY
  simp at this
  simp;lia
 ·rw[e2];exact(show(2:Nat) < 1000 by decide)
 rw[gP,gP,e2]
 show JA C _ _ (put M0 s (.ins C.s dx (bX "steps" (.dt stp) [("grammar",bR rs),("own",.dk (ownOf rs))])))
 rw[e3]
 refine fun a da ha hda hne=>?_
 have hsa:s≠a:=fun e=>by rw[<-e,aT] at ha;cases ha
 obtain⟨F3,hF3⟩:∃ F:List (Str×W),F=([("grammar",bR rs),("own",.dk (ownOf rs)),("steps",.dt stp)]:List (Str×W)):=⟨_,rfl⟩
 rw[<-hF3] at ha hda ⊢
 refine⟨_,a,da,rfl,rfl,ha,fun M1 Aq hAq hQ=>⟨rfl,_,rfl,s,dx,F3,rfl,hQ.sub _ _ aT,by rw[hF3];exact(show(3:Nat) < 1000 by decide),?_⟩⟩
 have hQ1:=hQ.lift (p:=s) (o:=.ins C.s dx (bX "queue" (.ref a) F3)) (.inr ⟨_,aT⟩)
 rw[gP] at hQ1
 obtain⟨F4,hF4⟩:∃ F:List (Str×W),F=bX "queue" (.ref a) F3:=⟨_,rfl⟩
 have l4:F4.length<=4:=by rw[hF4];have:=rO "queue" (.ref a) F3;rw[hF3] at this ⊢;exact this
 rw[<-hF4] at hQ1 ⊢
 obtain⟨Mt,hMt⟩:∃ m,m=put M1 s (.ins C.s dx F4):=⟨_,rfl⟩
 rw[<-hMt] at hQ1 ⊢
 refine fun p1 hp1=>?_
 obtain⟨n1,b1,o1,hQ2⟩:=uR (fs':=bX "reached" (.ref p1) F4) hQ1 aT hp1
 refine⟨_,rfl,s,dx,F4,rfl,o1,by lia,fun p2 hp2=>?_⟩
 obtain⟨n2,b2,o2,hQ3⟩:=uR (fs':=bX "best" (.ref p2) (bX "reached" (.ref p1) F4)) hQ2 aT hp2
 have l5:=rO "reached" (.ref p1) F4
 refine⟨_,rfl,s,dx,_,rfl,o2,by lia,fun p3 hp3=>?_⟩
 obtain⟨n3,b3,o3,hQ4⟩:=uR (fs':=bX "ends" (.ref p3) (bX "best" (.ref p2) (bX "reached" (.ref p1) F4))) hQ3 aT hp3
 have l6:=rO "best" (.ref p2) (bX "reached" (.ref p1) F4)
 refine⟨_,rfl,s,dx,_,rfl,o3,by lia,fun p4 hp4=>?_⟩
 obtain⟨n4,b4,o4,hQ5⟩:=uR (fs':=bX "begun" (.ref p4) (bX "ends" (.ref p3) (bX "best" (.ref p2) (bX "reached" (.ref p1) F4)))) hQ4 aT hp4
 have l7:=rO "ends" (.ref p3) (bX "best" (.ref p2) (bX "reached" (.ref p1) F4))
 refine⟨_,rfl,s,dx,_,rfl,o4,by lia,_,Sub.refl _,r _ ⟨s,dx,Aq,p1,p2,p3,p4⟩ rfl ?_⟩
 obtain⟨A,hA⟩:∃ A:Ad,A=⟨s,dx,Aq,p1,p2,p3,p4⟩:=⟨_,rfl⟩
 obtain⟨E,hE⟩:∃ E:Env,E=⟨rs,ownOf rs,stp⟩:=⟨_,rfl⟩
 have hsf:bX "begun" (.ref p4) (bX "ends" (.ref p3) (bX "best" (.ref p2) (bX "reached" (.ref p1) F4)))=sf E A:=by
  rw[<-zaW,hF4,hF3,hA,hE,<-hAq]
 rw[hsf] at hQ5 ⊢
 rw[<-hA,<-hE]
 have c21:p2≠p1:=fun e=>by rw[e,aN n1,aT] at b2;cases b2
 have c31:p3≠p1:=fun e=>by rw[e,aN n1,aN (Bf c21),aN n1,aT] at b3;cases b3
 have c32:p3≠p2:=fun e=>by rw[e,aN n2,aT] at b3;cases b3
 have c41:p4≠p1:=fun e=>by rw[e,aN n1,aN (Bf c31),aN n1,aN (Bf c21),aN n1,aT] at b4;cases b4
 have c42:p4≠p2:=fun e=>by rw[e,aN n2,aN (Bf c32),aN n2,aT] at b4;cases b4
 have c43:p4≠p3:=fun e=>by rw[e,aN n3,aT] at b4;cases b4
 have z1:M0 p1=none:=by rw[aN n1] at b1;exact b1
 have z2:M0 p2=none:=by rw[aN n2,aN c21,aN n2] at b2;exact b2
 have z3:M0 p3=none:=by rw[aN n3,aN c32,aN n3,aN c31,aN n3] at b3;exact b3
 have z4:M0 p4=none:=by rw[aN n4,aN c43,aN n4,aN c42,aN n4,aN c41,aN n4] at b4;exact b4
 obtain⟨N1,hN1⟩:∃ m,m=put (put (put M0 s (.ins C.s dx (sf E A))) p1 (.dT [])) p2 (.dT []):=⟨_,rfl⟩
 have hB:put (put (put (put (put (put (put (put (put M0 s (.ins C.s dx F4)) p1 (.dT [])) s (.ins C.s dx (bX "reached" (.ref p1) F4))) p2 (.dT [])) s (.ins C.s dx (bX "best" (.ref p2) (bX "reached" (.ref p1) F4)))) p3 (.dT [])) s (.ins C.s dx (bX "ends" (.ref p3) (bX "best" (.ref p2) (bX "reached" (.ref p1) F4))))) p4 (.dT [])) s (.ins C.s dx (sf E A))=put (put N1 p3 (.dT [])) p4 (.dT []):=by
  rw[hN1]
  funext b
  unfold put
  by_cases g0:b=s
  ·subst g0;simp[Bf n1,Bf n2,Bf n3,Bf n4]
  ·simp only[if_neg g0]
 rw[hB] at hQ5
 have mn:Mn C E M0 N1 A [] []:=by
  rw[hN1,hA]
  exact⟨fI (fI (fI (Sub.refl _) h0) z1) z2,h0,z1,z2,Bf n1,Bf n2,Bf c21,by rw[aN (Bf n2),aN (Bf n1),aT],by rw[aN (Bf c21),aT];rfl,by rw[aT];rfl⟩
 have y3:N1 p3=none:=by rw[hN1,aN c32,aN c31,aN n3];exact z3
 have y4:N1 p4=none:=by rw[hN1,aN c42,aN c41,aN n4];exact z4
 have t1:eD eK N1 (put N1 p3 (.dT [])) A.e [] (eG []):=by rw[hA];exact⟨Sub.new y3,y3,aT,(fun _ _=>rfl),(fun k ws e=>nomatch e),(fun k j p e=>nomatch e)⟩
 have x4:put N1 p3 (.dT []) p4=none:=by rw[aN c43];exact y4
 have t2:eD eK (put N1 p3 (.dT [])) (put (put N1 p3 (.dT [])) p4 (.dT [])) A.g [] (gG []):=by rw[hA];exact⟨Sub.new x4,x4,aT,(fun _ _=>rfl),(fun k ws e=>nomatch e),(fun k j p e=>nomatch e)⟩
 have hAQ:A.Q=Aq:=by rw[hA]
 rw[<-hAQ] at hQ5
 exact⟨N1,_,_,[],[],mn,t1,t2,hQ5,Ai _,Ai _,trivial⟩
structure Ln(st:SS)(T:Nat):Prop where
 b:st.best.length<=T
 e:st.ends.length<=T
 g:st.begun.length<=T
theorem Ln.process{G:Sr}{st:SS}{T:Nat}(h:Ln st T)(n:Nat)(cut:List Int)(c:aK):Ln (Rg.process G st n cut c) (T + 1):=by
 have h1:=h.b
 have h2:=h.e
 have h3:=h.g
 have keep:Ln st (T + 1):=⟨by lia,by lia,by lia⟩
 unfold Rg.process
 split
 ·unfold settle
  split
  ·exact keep
  ·obtain⟨a1,a2,a3⟩:=rM (f:=fun y:bY=>(y.1,y.2.1 ++ [cut.getLastD 0],dB y.2.2 c)) (xs:=(aG st.begun (c7 G n,cut.headD 0)).getD []) (st:={st with best:=st.best ++ [(cE G n cut,c,n,cut)],ends:=eV st.ends (c7 G n,cut.headD 0) (cut.getLastD 0,c)})
   refine⟨?_,?_,?_⟩
   ·refine Bh (Fy (congrArg Eb a3)) ?_
    show(st.best ++ [_]).length<=_
    rw[Ak,Bk];lia
   ·refine Bh (Fy (congrArg Eb a1)) ?_
    have:=t7 st.ends (c7 G n,cut.headD 0) ((aG st.ends (c7 G n,cut.headD 0)).getD [] ++ [(cut.getLastD 0,c)])
    show(bE _ _ _).length<=_
    lia
   ·refine Bh (Fy (congrArg Eb a2)) ?_
    exact keep.g
 ·rename_i part _
  split
  ·unfold fH
   obtain⟨a1,a2,a3⟩:=rM (f:=fun z:Int×aK=>(n,cut ++ [z.1],dB c z.2)) (xs:=(aG st.ends (part,cut.getLastD 0)).getD []) (st:={st with begun:=eV st.begun (part,cut.getLastD 0) (n,cut,c)})
   refine⟨?_,?_,?_⟩
   ·exact Bh (Fy (congrArg Eb a3)) keep.b
   ·exact Bh (Fy (congrArg Eb a1)) keep.e
   ·refine Bh (Fy (congrArg Eb a2)) ?_
    have:=t7 st.begun (part,cut.getLastD 0) ((aG st.begun (part,cut.getLastD 0)).getD [] ++ [(n,cut,c)])
    show(bE _ _ _).length<=_
    lia
  ·unfold fS
   obtain⟨a1,a2,a3⟩:=rM (f:=fun z:Int×Int=>(n,cut ++ [z.1],(c.1 + z.2,c.2))) (xs:=G.steps part (cut.getLastD 0)) (st:=st)
   exact⟨Bh (Fy (congrArg Eb a3)) keep.b,Bh (Fy (congrArg Eb a1)) keep.e,Bh (Fy (congrArg Eb a2)) keep.g⟩
theorem Ln.next{G:Sr}{st:SS}{T:Nat}(h:Ln st T):Ln (lP G st) (T + 1):=by
 have h1:=h.b
 have h2:=h.e
 have h3:=h.g
 have keep:Ln st (T + 1):=⟨by lia,by lia,by lia⟩
 have hq:∀ q',Ln {st with q:=q'} T:=fun q'=>⟨h1,h2,h3⟩
 unfold lP
 split
 ·exact keep
 ·split
  ·split
   ·exact⟨keep.b,keep.e,keep.g⟩
   ·exact(hq _).process _ _ _
  ·exact⟨keep.b,keep.e,keep.g⟩
theorem zaY{G:Sr}{V:List Int}{L S I0 T:Nat}{st:SS}{P:List bY}{cur:aK}(v:rG G V G.rs.length L)(hL:L < 1000)(A:All G S I0 st P cur T)(hS:∀ t p,(G.steps t p).length<=S)(ln:Ln st T)
  (hb:I0 + G.rs.length * ((L + 1) * (V.length * V.length)) * (S + V.length) + G.rs.length * ((L + 1) * (V.length * V.length)) + V.length + S + 1 < 10000000):Rm G st:=by
 obtain⟨f1,f2,f3⟩:=IE v A
 have hin:∀ {n cut c},GI G st.best n cut c->DI G n cut c:=fun {n cut c} g=>yG (B:=st.best) (fun f m n' cut' h=>rE A.ob h) g
 have hr:=A.cn.rch
 generalize G.rs.length * ((L + 1) * (V.length * V.length))=X at *
 generalize X * (S + V.length)=Y at *
 have h1:=ln.b
 have h2:=ln.e
 have h3:=ln.g
 have hg:∀ key,((aG st.begun key).getD []).length<=X:=fun key=>by
  have:=len_sub (b:=P) (A.cn.bnd key) fun y hy=>(A.ob.bgn key y hy).1
  lia
 refine⟨fun c n cut q' e=>?_,fun key y hy=>?_,by lia,by lia,by lia,fun key=>?_,fun key=>?_,fun t p=>?_⟩
 ·have hne:st.q≠[]:=fun z=>by rw[z] at e;cases e
  obtain⟨_,_,_,e1,_,m1,_⟩:=nR A.inv.fall hne
  rw[e] at e1
  cases e1
  have hm:(c,(n,cut))∈a8 st.q:=(m1 _).mpr (.inl rfl)
  have hd:=hin (A.inv.item _ hm)
  obtain⟨_,g2,g3⟩:=pM v hd
  obtain⟨d,g4,_⟩:=A.inv.ge _ hm
  exact⟨hd.ne,by have g3:cut.length<=L:=g3;lia,g2,d,g4⟩
 ·have hd:=hin (A.inv.pr y (A.ob.bgn key y hy).1).2.2
  obtain⟨_,g2,g3⟩:=pM v hd
  exact⟨by lia,hd.ne⟩
 ·have:=f2 key
  exact⟨by lia,⟨by lia,by lia⟩⟩
 ·have:=hg key
  exact⟨by lia,⟨by lia,by lia⟩⟩
 ·have:=hS t p
  exact⟨by lia,by lia⟩
def kS(G:Sr)(i:Nat):List (Nat×Int):=(Cw i).flatMap fun n=>G.places.map fun p=>(n,p)
theorem zaZ(G:Sr)(i:Nat):kS G (i + 1)=kS G i ++ G.places.map fun p=>(i,p):=by
 unfold kS
 rw[List.range_succ,List.flatMap_append];simp
theorem y6(G:Sr)(i:Nat):(kS G i).length=i * G.places.length:=by
 unfold kS
 rw[mT (k:=G.places.length) fun n _=>by rw[Ab],Eg]
abbrev nZ(G:Sr):Nat×Int->Nat×List Int×aK:=fun x=>(x.1,[x.2],(G.wt x.1,1))
theorem za0{α:Type}{f:α->Nat×List Int×aK}{xs ys:List α}{st:SS}:eQ f (xs ++ ys) st=eQ f ys (eQ f xs st):=by
 unfold eQ;rw[Eh]
theorem SK.told{C:Cc}{E:Env}{M0 M:Mm}{A:Ad}{st:SS}{kp:Option (Addr×List W)}(h:SK C E M0 M A st kp):M0 A.b=none/\L3.Sub (put M0 A.b (.dT (dC fK fU st.best))) M:=by
 obtain⟨M1,M2,M3,e,g,h1,h2,h3,h4,h5,h6,h7⟩:=h.ex
 refine⟨h1.nb,fun b u e=>?_⟩
 by_cases hb:b=A.b
 ·subst hb;rw[aT] at e;cases e;exact h.ob
 ·rw[aN hb] at e;exact h4.sub _ _ (h3.sub _ _ (h2.sub _ _ (h1.sub _ _ e)))
theorem za1{n i:Nat}{w:W}(h:(jV 0 n)[i]? = some w):i < n/\w=.int (i:Nat):=by
 unfold jV at h
 rw[Av] at h
 obtain⟨j,hj,rfl⟩:=Bj.mp h
 obtain⟨h1,h2⟩:=Aj.mp hj
 rw[List.getElem_range] at h2
 rw[Eg] at h1
 exact⟨h1,by rw[<-h2,Int.zero_add]⟩
theorem za2{lo:Int}{n:Nat}:(jV lo n).length=n:=by unfold jV;simp
theorem za3{C:Cc}{ws:List W}{M:Mm}{R:K3}(h:yZ C ws M R):zaF C (bT R) (b8 zay ws) M:=by
 obtain⟨G,E,V,L,S,rfl,hrs,hown,ev,ok,v,hL,hpl,hS,hb,r⟩:=h
 refine⟨_,rfl,_,rfl,fun a dx ha hdx hne=>⟨M,a,dx,E.rs,E.stp,rfl,hrs,rfl,ha,fun M1 A hA hs=>⟨rfl,?_⟩⟩⟩
 rw[<-hown] at hs
 have hs:SR C E M M1 A gJ:=hs
 subst hA
 have hil:(jZ G).length=G.rs.length * G.places.length:=y6 G G.rs.length
 obtain⟨N,hN⟩:∃ N,N=G.rs.length:=⟨_,rfl⟩
 have hNE:E.rs.length=N:=by rw[hN,ev.rs]
 refine⟨_,rfl,(N:Int),by rw[Ab,hNE],by lia,by lia,?_⟩
 rw[Dy]
 have sm0:Sm gJ ((jZ G).length + 1):=⟨by show 0 + _ < _;lia,by show 0 + _ < _;lia⟩
 refine eO (fun i τ M'=>∃ o5 o6,τ=[some (bR E.rs),some (.rl (G.places.map W.int)),some (.dt E.stp),some (.rl ((Cw G.rs.length).map fun n=>.int (G.wt n))),some (.ref A.s),o5,o6]/\SR C E M M' A (eQ (nZ G) (kS G i) gJ)) ⟨_,_,rfl,hs⟩ (fun _ _ _ _ _=>trivial) ?_ ?_
 ·rintro i w τ M2 hw ⟨o5,o6,rfl,hs2⟩
  obtain⟨hi,rfl⟩:=za1 hw
  have hmul:(i + 1) * G.places.length<=N * G.places.length:=Nat.mul_le_mul_right _ hi
  rw[<-hN] at hil
  refine⟨_,rfl,nW (eO (fun j τ M'=>∃ o6,τ=[some (bR E.rs),some (.rl (G.places.map W.int)),some (.dt E.stp),some (.rl ((Cw G.rs.length).map fun n=>.int (G.wt n))),some (.ref A.s),some (.int i),o6]/\SR C E M M' A (eQ (nZ G) ((G.places.map fun p=>(i,p)).take j) (eQ (nZ G) (kS G i) gJ))) ⟨_,rfl,hs2⟩ (fun _ _ _ _ _=>trivial) ?_ ?_)⟩
  ·rintro j w τ M3 hw ⟨o6,rfl,hs3⟩
   rw[Av] at hw
   obtain⟨pl,hpl',rfl⟩:=Bj.mp hw
   have hj:=(Aj.mp hpl').1
   have hx:(G.places.map fun p=>(i,p))[j]? = some (i,pl):=by rw[Av,hpl'];rfl
   have hwt:cG ((Cw G.rs.length).map fun n=>W.int (G.wt n)) (i:Int)=some (.int (G.wt i)):=eN (by rw[Av,Ii (by lia)];rfl)
   have smj:Sm (eQ (nZ G) ((G.places.map fun p=>(i,p)).take j) (eQ (nZ G) (kS G i) gJ)) 1:=by
    refine pR (pR (sm0.le ?_))
    rw[y6,Cb,Ab,hil,Nat.succ_mul] at *
    lia
   refine⟨_,rfl,A.s,A.d,_,rfl,hs3.os,uN,_,rfl,_,rfl,z1,_,rfl,_,rfl,_,hwt,z2,E,M,A,_,i,[pl],(G.wt i,1),none,rfl,hs3,by simp,smj,fun M4 hs4=>⟨M4,Sub.refl _,_,rfl,?_⟩⟩
   rw[uQ hx]
   exact hs4
  ·rintro τ M3 ⟨o6,rfl,hs3⟩
   refine⟨M3,Sub.refl _,_,_,rfl,?_⟩
   rw[zaZ,za0]
   rw[Ab,Fd (by rw[Ab];exact Ai _)] at hs3
   exact hs3
 ·rintro τ M2 ⟨o5,o6,rfl,hs2⟩
  rw[za2] at hs2
  have hst:eQ (nZ G) (kS G N) gJ=kP G:=by rw[hN];rfl
  rw[hst] at hs2
  have ln0:Ln (kP G) 0:=by
   obtain⟨a1,a2,a3⟩:=rM (f:=nZ G) (xs:=kS G N) (st:=gJ)
   rw[hst] at a1 a2 a3
   exact⟨by rw[a3];exact Ai _,by rw[a1];exact Ai _,by rw[a2];exact Ai _⟩
  obtain⟨Bm,hBm⟩:∃ Bm,Bm=(jZ G).length + G.rs.length * ((L + 1) * (V.length * V.length)) * (S + V.length):=⟨_,rfl⟩
  refine⟨fun m τ M'=>∃ st P cur T o5 o6,τ=[some (bR E.rs),some (.rl (G.places.map W.int)),some (.dt E.stp),some (.rl ((Cw G.rs.length).map fun n=>.int (G.wt n))),some (.ref A.s),o5,o6]/\SR C E M M' A st/\All G S (jZ G).length st P cur T/\Ln st T/\m=Bm - T/\st=yY G T,⟨_,_,_,_,_,_,_,rfl,hs2,YE ok S,ln0,rfl,rfl⟩,?_⟩
  rintro m τ M3 ⟨st,P,cur,T,o5,o6,rfl,hs3,A3,ln3,rfl,hst3⟩
  obtain⟨M4,hQ,back⟩:=hs3.que
  refine⟨_,rfl,A.s,A.d,_,_,rfl,hs3.os,yS,A.Q.o,A.Q.d,_,rfl,hQ.ob,YK,M4,A.Q,st.q,rfl,hQ,b9 (b:=!decide (st.q=[])) (fun h=>?_) fun h=>?_⟩
  ·have hq:¬ st.q=[]:=of_decide_eq_false (by rw[<-Ld (decide _),h];rfl)
   have rm:=zaY v hL A3 hS ln3 hb
   obtain⟨_,_,f3⟩:=IE v A3
   rw[<-hBm] at f3
   have hpos:=Ft.mpr hq
   have hql:=yM hs3.fall
   obtain⟨P',cur',A4⟩:=YD ok A3 hS hq
   exact⟨_,rfl,A.s,A.d,_,rfl,hs3.os,ZW,G,E,M,A,st,rfl,hs3,ev,hq,rm,fun M5 hs5=>⟨_,M5,(by lia:Bm - (T + 1) < Bm - T),Sub.refl _,_,P',cur',T + 1,_,_,rfl,hs5,A4,ln3.next,rfl,congrArg (lP G) hst3⟩⟩
  ·have hq:st.q=[]:=of_decide_eq_true (by rw[<-Ld (decide _),h];rfl)
   obtain⟨y1,y2⟩:=hs3.told
   exact⟨_,rfl,A.s,A.d,_,_,rfl,hs3.os,yT,_,y2,r st.best ⟨S,_,st,P,cur,T,A3,hq,rfl,hst3⟩ A.b y1⟩
end Rg
namespace L2
open PySem PySem.Spec PyProof.Rows
section
variable {X:Cx}{pins:List (Addr×Obj)}{σ:St}{H:Hp}{s:Ag}{a:Addr}{u:HO}
def IsDict(u:HO):Prop:=(∃ ks,u=.dK ks)\/∃ ks,u=.dT ks
theorem Inv.frzD(I:Inv X pins σ H s)(e:H a=some u)(hd:IsDict u):∃ o,Inv X pins σ (aS H a (.frz o u)) s:=by
 obtain⟨o,ho⟩:∃ o,s.heap.get? a=some o:=by
  have:=I.hok a u e
  rcases hd with⟨ks,rfl⟩ | ⟨ks,rfl⟩
  ·obtain⟨_,_,_,_,o,_,_,e,_⟩:=this;exact⟨o,e⟩
  ·obtain⟨_,_,_,_,o,_,_,e,_⟩:=this;exact⟨o,e⟩
 refine⟨o,?_⟩
 have ne:∀ {b:Addr} {v:HO},H b=some v->v≠u->b≠a:=fun {b v} e1 h z=>by subst z;rw[e] at e1;exact h (Ci e1).symm
 have nn:∀ {b:Addr},H b=none->b≠a:=fun {b} e1 z=>by subst z;rw[e] at e1;cases e1
 have kt:∀ b xs,H b=some (.tup xs)->aS H a (.frz o u) b=some (.tup xs):=fun b xs eb=>by
  rw[bF (ne eb (fun z=>by rcases hd with⟨ks,rfl⟩ | ⟨ks,rfl⟩ <;> cases z))];exact eb
 have ko:∀ b y,H b=some (.own y)->aS H a (.frz o u) b=some (.own y):=fun b y eb=>by
  rw[bF (ne eb (fun z=>by rcases hd with⟨ks,rfl⟩ | ⟨ks,rfl⟩ <;> cases z))];exact eb
 refine I.step (h':=s.heap) (g':=s.gens) (d':=s.drawn) (t':=s.toks) (ch:=[]) (fun _ z=>nomatch z) (fun b o _ _ _ e1 _=>e1) (fun b o _ _ _ e1 _=>⟨o.slots,e1⟩) (fun b o _ _ n=>by rw[bF (nn n)];exact n) (fun b o _ e1=>⟨o,e1⟩) kt
  (fun b ob v eb=>?_) (fun b ps eb=>⟨#[],?_⟩) (fun m hm=>hm) (fun b v eb=>?_) I.bare
 ·rw[bF (ne eb (fun z=>by rcases hd with⟨ks,rfl⟩ | ⟨ks,rfl⟩ <;> cases z))];exact eb
 ·rw[bF (ne eb (fun z=>by rcases hd with⟨ks,rfl⟩ | ⟨ks,rfl⟩ <;> cases z)),eb];simp
 ·by_cases hb:b=a
  ·subst hb
   rw[cJ] at eb
   cases eb
   exact⟨ho,(I.hok b u e).stay (fun _ _ _ q=>q) (fun c q=>ko c b q) kt⟩
  ·rw[bF hb] at eb
   exact(I.hok b v eb).stay (fun _ _ _ q=>q) (fun c q=>ko c b q) kt
def za4(Q:VK):VK:=fun v H=>∃ a u,v=.ref a/\H a=some u/\IsDict u/\∀ o,Q v (aS H a (.frz o u))
theorem za5{e:Expr}{t:TE}(h:PE X e t):PE X e (fun σ H Q=>t σ H (za4 Q)):=fun pins s σ H Q I q=>
 a7 (h pins s σ H _ I q) fun v s1 ⟨x,H1,I1,r1,a,u,e1,e2,e3,q1⟩=>by
  obtain⟨o,I2⟩:=I1.frzD e2 e3
  exact⟨x,_,I2,r1,q1 o⟩
def uS(a:Addr)(o:Obj)(u:HO)(xs:List V):It:=
 ⟨fun i H=>H a=some (.frz o u)/\i < xs.length,fun i H x H'=>H'=H/\xs[i]? = some x,fun i H=>H a=some (.frz o u)/\xs.length<=i⟩
theorem JE{P:Bq}{w:Cj}{K:Ac}{tg:Expr}(a it:Addr)(o:Obj)(u:HO)(xs:List V)(es:Array Hu)(ep:Nat)(hd:o.data=.dict es ep)(hn:es.size=xs.length)(hx:∀ (i:Nat) (e:Hu),es[i]? = some e->∃ x,xs[i]? = some x/\RelV x e.key) :
  i0 P w K tg (uS a o u xs) [it] it (fun i h=>h.IsKeyIter it a i es.size ep) where
 mem:=by simp
 obj:=fun i h st b hb=>by
  have e:b=it:=by simpa using hb
  subst e
  obtain⟨o,e,c,d⟩:=st
  exact⟨o,e,fun v z=>by rw[d] at z;cases z⟩
 keep:=fun i h h' st k=>st.at fun o e=>k it (by simp) o e
 item:=by
  intro X hP hw hK hc i pins s σ H E I hf st hg
  subst hP hw hK
  obtain⟨e1,hi⟩:=hg
  have ho:s.heap.get? a=some o:=(show cT X.prog X.w H s.heap a (.frz o u) from I.hok a _ e1).1
  have hi2:i < es.size:=by omega
  obtain⟨x,hx1,rx⟩:=hx i es[i] (by simp[hi2])
  obtain⟨f0,f1,f2,f3,f4,f5⟩:=hf it (by simp)
  refine TQ st ho hd hi2 fun h' st' sb=>?_
  have I1:Inv X pins σ H {s with heap:=h'}:=I.turned (t':=s.toks) (fun b o hb e=>(sb.2 b hb).trans e) f0 f1 f3 f4 f5
  obtain⟨o',e,c,d⟩:=id st'
  exact⟨_,rfl,p9 (s:={s with heap:=h'}) e c d (by decide) ⟨x,H,I1,rx,⟨rfl,hx1⟩,st',fun b hb=>(hf b hb).1⟩⟩
 done:=by
  intro X hP hw hK hc i pins s σ H E I hf st hg
  subst hP hw hK
  obtain⟨e1,hi⟩:=hg
  have ho:s.heap.get? a=some o:=(show cT X.prog X.w H s.heap a (.frz o u) from I.hok a _ e1).1
  refine TR (I.ok.hd hc) st ho hd (by omega) fun h' hk=>⟨rfl,?_⟩
  exact I.turnedT (tk:=s.toks) hf fun q o hq eq=>hk q o (fun z=>hq (by simp[z])) eq
 self:=fun _ _ _ _ _ st h=>wpAny_pyIter_keyiter st h
end
end L2
namespace L3
open PySem PySem.Spec PyProof.Rows L2
section
variable {X:Cx}{e:Expr}{te:aY}
def pT(t:aY):aY:=fun τ M R=>t τ M fun w M'=>∃ p,w=.ref p/\((∃ kvs,M' p=some (.dK kvs)/\R (.fk kvs) (del M' p))\/∃ kvs,M' p=some (.dT kvs)/\R (.ft kvs) (del M' p))
theorem y7{K:Ac}{H:Hp}{M:Mm}{p:Addr}{o:Obj}{u:HO}{x:MO}(am:AM K H M)(e:M p=some x)(hd:IsDict u)(hu:H p=some u):Go H M (aS H p (.frz o u)) (del M p)/\AM K (aS H p (.frz o u)) (del M p)/\Kp H M (aS H p (.frz o u)) (del M p):=by
 have nn:∀ {b:Addr},M b=none->b≠p:=fun {b} h z=>by subst z;rw[e] at h;cases h
 have go:Go H M (aS H p (.frz o u)) (del M p):=by
  refine⟨fun b xs eb=>?_,fun b ob v eb=>?_,fun b v n eb=>?_⟩
  ·rw[bF (nn (am.noTup eb))];exact eb
  ·rw[bF (nn (am.noFrz eb))];exact eb
  ·rw[bF (nn n),l8 (nn n)];exact⟨eb,n⟩
 refine⟨go,fun a o2 ea=>?_,fun a v n ea=>?_,fun a v ea=>?_⟩
 ·have ne:a≠p:=fun z=>by rw[z,oR] at ea;cases ea
  rw[l8 ne] at ea
  exact(am a o2 ea).go go (bF ne)
 ·rw[bF (nn n),l8 (nn n)];exact⟨ea,n⟩
 ·by_cases ha:a=p
  ·subst ha;exact⟨_,cJ⟩
  ·obtain⟨y,q⟩:=(am a v ea).has
   exact⟨y,by rw[bF ha];exact q⟩
theorem y8(h:E3 X e te):E3 X e (pT te):=
 (za5 h).weak fun σ H Q z0=>z0.el fun τ M R as am h k=>⟨τ,M,_,as,am,h,fun v H' w M' k' am' av ⟨p,hw,r⟩=>by
  subst hw
  obtain rfl:=av.inv
  rcases r with⟨kvs,e,r⟩ | ⟨kvs,e,r⟩
  ·obtain⟨ks,f,q⟩:=am' _ _ e
   refine⟨p,.dK ks,rfl,f,.inl ⟨_,rfl⟩,fun o=>?_⟩
   obtain⟨g,am2,k2⟩:=y7 (o:=o) am' e (.inl ⟨_,rfl⟩) f
   exact k _ _ _ _ (k'.trans k2) am2 (.fk cJ q.keys (q.vals.go g)) r
  ·obtain⟨ks,f,q⟩:=am' _ _ e
   refine⟨p,.dT ks,rfl,f,.inr ⟨_,rfl⟩,fun o=>?_⟩
   obtain⟨g,am2,k2⟩:=y7 (o:=o) am' e (.inr ⟨_,rfl⟩) f
   exact k _ _ _ _ (k'.trans k2) am2 (.ft cJ q.keys (q.vals.go g)) r⟩
theorem lD.frzD{M:Mm}{kvs:List (aD×W)}{R:K3}(r:R (.fk kvs) M):lD kvs M fun w M'=>∃ p,w=.ref p/\((∃ kvs,M' p=some (.dK kvs)/\R (.fk kvs) (del M' p))\/∃ kvs,M' p=some (.dT kvs)/\R (.ft kvs) (del M' p)):=fun p hp=>⟨p,rfl,.inl ⟨kvs,aT,by rw[i7 hp];exact r⟩⟩
def kT:W->Mm->(List W->(Mm->Prop)->Mm->Prop)->Prop
 | .fk kvs,M1,R=>R (kvs.map fun p=>wK p.1) (fun _=>True) M1
 | .ft kvs,M1,R=>R (kvs.map fun p=>.tup (p.1.map wK)) (fun _=>True) M1
 | _,_,_=>False
theorem JF{K:Ac}{H0:Hp}{M0:Mm}{a:Addr}{o:Obj}{u:HO}{xs:List V}{ws:List W}(am0:AM K H0 M0)(e:H0 a=some (.frz o u))(q0:aM K H0 M0 xs ws):iM K H0 M0 (uS a o u xs) ws fun _=>True:=by
 have st:∀ H M,Kp H0 M0 H M->H a=some (.frz o u):=fun H M k=>(k.fr _ _ (am0.noFrz e) e).1
 refine⟨fun i H M k am _ hi=>⟨st H M k,by rw[q0.length];exact hi⟩,fun H M k am _=>⟨st H M k,by rw[q0.length];exact Ai _⟩,fun i H M x H' k am _ hi y=>?_⟩
 obtain⟨rfl,y⟩:=y
 obtain⟨w,hw,av⟩:=(q0.kp am0 k).getV y
 exact⟨w,hw,Kp.refl am,am,av⟩
theorem za6{K:Ac}{H:Hp}{M:Mm}:∀ k:aD,AV K H M (kV k) (wK k)
 | .inl i=>.int i
 | .inr x=>.str x
theorem za7{P:Bq}{w:Cj}{H:Hp}{h:Heap}{a:Addr}{ks:List (aD×V)}{o:Obj}(ok:cX P w H h)(e:H a=some (.frz o (.dK ks))) :
  ∃ es ep,qI h a es ep/\o.data=.dict es ep/\(a == Fx)=false/\es.size=ks.length/\∀ (i:Nat) (en:Hu),es[i]? = some en->∃ p,ks[i]? = some p/\RelV (kV p.1) en.key/\RelV p.2 en.val:=by
 obtain⟨ho,hz,hne,vs,rkv,o2,es,ep,h1,h2,h3,h4,h5,h6⟩:=(show cT P w H h a (.frz o (.dK ks)) from ok a _ e)
 rw[ho] at h1
 cases h1
 have l1:=rkv.length
 have l2:=h5.length
 rw[Gp] at l2
 refine⟨es,ep,⟨o,ho,h2,h3⟩,h3,hne,by omega,fun i en hen=>?_⟩
 have hi:=(Hn.mp hen).1
 obtain⟨⟨k,x⟩,hv⟩:∃ v,vs[i]? = some v:=⟨_,An (by omega)⟩
 obtain⟨z1,z2⟩:=h5.get? (by rw[Hg];exact hen) hv
 have:∀ {ks:List (aD×V)} {vs:List (aD×Ae)} {i:Nat},KV ks vs->vs[i]? = some (k,x)->∃ v,ks[i]? = some (k,v)/\RelV v x:=by
  intro ks vs i r
  induction r generalizing i with
  | nil=>intro h;simp at h
  | @cons p q ps qs hq t ih=>
   intro h
   cases i with
   | zero=>simp at h;subst h;obtain⟨p1,p2⟩:=p;cases hq.1;exact⟨p2,rfl,hq.2⟩
   | succ i=>rw[Fo] at h ⊢;exact ih h
 obtain⟨v,q1,q2⟩:=this rkv hv
 exact⟨(k,v),q1,E9 z1,by rw[z2];exact q2⟩
theorem za8{P:Bq}{w:Cj}{H:Hp}{h:Heap}{a:Addr}{ks:List (List aD×V)}{o:Obj}(ok:cX P w H h)(e:H a=some (.frz o (.dT ks))) :
  ∃ es ep,qI h a es ep/\o.data=.dict es ep/\(a == Fx)=false/\es.size=ks.length/\∃ as:List Addr,as.length=ks.length/\(∀ (i:Nat) (p:List aD×V) (b:Addr),ks[i]? = some p->as[i]? = some b->H b=some (.tup (p.1.map kV)))/\
   ∀ (i:Nat) (en:Hu),es[i]? = some en->∃ p b,ks[i]? = some p/\as[i]? = some b/\en.key=.ref b/\RelV p.2 en.val:=by
 obtain⟨ho,hz,hne,xs,rel,o2,es,ep,h1,h2,h3,h4,h5⟩:=(show cT P w H h a (.frz o (.dT ks)) from ok a _ e)
 rw[ho] at h1
 cases h1
 have l1:=Mr h4
 have l2:=Ei rel
 refine⟨es,ep,⟨o,ho,h2,h3⟩,h3,hne,by omega,xs.map fun x=>x.2.1,by rw[Ab];omega,fun i p b hp hb=>?_,fun i en hen=>?_⟩
 ·rw[Av] at hb
  obtain⟨x,hx,rfl⟩:=Bj.mp hb
  have:∀ {ks:List (List aD×V)} {xs:List (List aD×Addr×Ae)} {i:Nat},Ha (fun(p:List aD×V) (q:List aD×Addr×Ae)=>p.1=q.1/\H q.2.1=some (.tup (p.1.map kV))/\RelV p.2 q.2.2) ks xs->ks[i]? = some p->xs[i]? = some x->H x.2.1=some (.tup (p.1.map kV)):=by
   intro ks xs i r
   induction r generalizing i with
   | nil=>intro h;simp at h
   | @cons p q ps qs hq t ih=>
    intro h g
    cases i with
    | zero=>simp at h g;subst h;subst g;exact hq.2.1
    | succ i=>rw[Fo] at h g;exact ih h g
  exact this rel hp hx
 ·rw[entry_at h4 i] at hen
  obtain⟨x,hx,rfl⟩:=Bj.mp hen
  have:∀ {ks:List (List aD×V)} {xs:List (List aD×Addr×Ae)} {i:Nat},Ha (fun(p:List aD×V) (q:List aD×Addr×Ae)=>p.1=q.1/\H q.2.1=some (.tup (p.1.map kV))/\RelV p.2 q.2.2) ks xs->xs[i]? = some x->∃ p,ks[i]? = some p/\RelV p.2 x.2.2:=by
   intro ks xs i r
   induction r generalizing i with
   | nil=>intro h;simp at h
   | @cons p q ps qs hq t ih=>
    intro h
    cases i with
    | zero=>simp at h;subst h;exact⟨p,rfl,hq.2.2⟩
    | succ i=>rw[Fo] at h ⊢;exact ih h
  obtain⟨p,q1,q2⟩:=this rel hx
  exact⟨p,x.2.1,q1,by rw[Av,hx];rfl,rfl,q2⟩
theorem za9{tg:Expr}:mK X tg (tS X.K kT):=by
 rintro pins s σ H x u R' I r1 ⟨wx,M,R,ax,am,h,k⟩
 cases ax <;> first | exact(show False from h).elim | skip
 case fk a o ks kvs e ke q=>
  cases (show u=Value.ref a from r1)
  obtain⟨es,ep,hr,hd,hne,hsz,hen⟩:=za7 I.hok e
  have fp:∀ b∈[s.heap.objs.size],gX X pins H b:=fun b hb=>by
   have e:b=s.heap.objs.size:=by simpa using hb
   subst e
   exact I.fpOk (Ai _) (I.hok.fresh (Ai _))
  refine FD hne hr ⟨s.heap.objs.size,[s.heap.objs.size],_,uS a o (.dK ks) (ks.map fun p=>kV p.1),H,rfl,I.kept (t':=s.toks) fun b o e=>Af _ e,JE a _ o _ _ es ep hd (by rw[Ab];exact hsz) (fun i en he=>?_),⟨_,Az _ rfl,rfl,rfl⟩,fp,k _ _ _ _ _ (Kp.refl am) am (JF am e ?_) h⟩
  ·obtain⟨p,h1,h2,_⟩:=hen i en he
   exact⟨kV p.1,by rw[Av,h1];rfl,h2⟩
  ·have hk:(ks.map fun p=>kV p.1)=(ks.map Fj).map kV:=by rw[Bp];rfl
   have hw:(kvs.map fun p=>wK p.1)=(kvs.map Fj).map wK:=by rw[Bp];rfl
   rw[hk,hw,ke]
   generalize kvs.map Fj=l
   induction l with
   | nil=>exact .nil
   | cons z l ih=>exact .cons (za6 z) ih
 case ft a o ks kvs e ke q=>
  cases (show u=Value.ref a from r1)
  obtain⟨es,ep,hr,hd,hne,hsz,as,hl,hat,hen⟩:=za8 I.hok e
  have fp:∀ b∈[s.heap.objs.size],gX X pins H b:=fun b hb=>by
   have e:b=s.heap.objs.size:=by simpa using hb
   subst e
   exact I.fpOk (Ai _) (I.hok.fresh (Ai _))
  refine FD hne hr ⟨s.heap.objs.size,[s.heap.objs.size],_,uS a o (.dT ks) (as.map V.ref),H,rfl,I.kept (t':=s.toks) fun b o e=>Af _ e,JE a _ o _ _ es ep hd (by rw[Ab];omega) (fun i en he=>?_),⟨_,Az _ rfl,rfl,rfl⟩,fp,k _ _ _ _ _ (Kp.refl am) am (JF am e ?_) h⟩
  ·obtain⟨p,b,h1,h2,h3,_⟩:=hen i en he
   exact⟨.ref b,by rw[Av,h2];rfl,by rw[h3];rfl⟩
  ·have hw:(kvs.map fun p=>W.tup (p.1.map wK))=(ks.map Fj).map fun z=>W.tup (z.map wK):=by rw[ke,Bp];rfl
   rw[hw]
   have:∀ (ks:List (List aD×V)) (as:List Addr),as.length=ks.length->(∀ (i:Nat) (p:List aD×V) (b:Addr),ks[i]? = some p->as[i]? = some b->H b=some (.tup (p.1.map kV)))->aM X.K H M (as.map V.ref) ((ks.map Fj).map fun z=>W.tup (z.map wK)):=by
    intro ks
    induction ks with
    | nil=>intro as hl _;cases as with
     | nil=>exact .nil
     | cons b r=>simp at hl
    | cons p ks ih=>
     intro as hl hat
     cases as with
     | nil=>simp at hl
     | cons b r=>
      refine .cons (.tup (hat 0 p b rfl rfl) (HN p.1)) (ih r (by simpa using hl) fun i p b h1 h2=>hat (i + 1) p b (by simpa using h1) (by simpa using h2))
   exact this ks as hl hat
theorem uU{tg l:Expr}{tl:aY}(hl:E3 X l tl):PI X tg l (gR X.K (dJ kT tl)):=xH hl za9
end
end L3
namespace PySem
namespace Dt
open PyProof.Rows L2 PySem.Spec
open Zd (TK allH HP qZ)
section
variable {prog:Bq}{w:Cj}{A:Co}{E:Ae->Ag->Prop}{s:Ag}
theorem loop{d I l:Addr}{items:Array Ae}{ps:List (List aD×Addr×Ae)}{R:Result->Ag->Prop}(hh:A.handled=none)(hu:(TK prog w).room A.in1)(hdI:d≠I)(hdl:d≠l)(hlI:l≠I)(hn:ps.length=items.size)(hz:items.size<=Am)(hk:∀ p∈ps,p.2.1≠I/\p.2.1≠d) :
  ∀ (k i:Nat) (s:Ag) (es:List (List aD×Addr×Ae)),items.size - i=k->i<=items.size->es.length<=i->s.heap.IsListIter I l i->s.heap.IsList l items->s.heap.DictOfH (TK prog w) d es->(∀ e∈es,e∈ps\/∃ p∈ps,p.2.1=e.2.1)->
  (∀ p∈ps,(TK prog w).is s.heap p.1 p.2.1)->
  (∀ (j:Nat) (p:List aD×Addr×Ae),ps[j]? = some p->∃ (a:Addr),items[j]? = some (.ref a)/\a≠d/\a≠I/\s.heap.IsTuple a #[.ref p.2.1,p.2.2])->
  (∀ h' tk,(∀ b o,b≠d->b≠I->s.heap.get? b=some o->h'.get? b=some o)->h'.DictOfH (TK prog w) d (allH es (ps.drop i))->R (.ok (.ret .none)) {s with heap:=h',toks:=tk})->
  Jm (Bn prog w) A (.builtin "dict.update.loop" ⟨[.ref d,.ref I,Hj (i:Int),.none],[]⟩) R s:=by
 intro k
 have dictAt:∀ {h h':Heap} {es:List (List aD×Addr×Ae)},h.DictOfH (TK prog w) d es->(∀ e∈es,e∈ps\/∃ p∈ps,p.2.1=e.2.1)->(∀ c o,c≠I->h.get? c=some o->h'.get? c=some o)->h'.DictOfH (TK prog w) d es:=by
  rintro h h' es ⟨o,en,ep,ho,hc,hdd,he,his,hn⟩ hes hm
  refine⟨o,en,ep,hm d o hdI ho,hc,hdd,he,fun x hx'=>qZ (his x hx') fun o' e=>?_,hn⟩
  have:x.2.1≠I:=by
   rcases hes x hx' with q | ⟨p,q,e'⟩
   ·exact(hk x q).1
   ·have:=(hk p q).1;rw[e'] at this;exact this
  exact hm _ _ this e
 induction k with
 | zero=>
  intro i s es hm hi hl hit kY hd hes hkeys hp hR
  have hin:i=items.size:=by lia
  refine Mu Dp.entry_loop ?_
  rw[Jj Dp.plain_loop _]
  show Bc _ A.in1 (Gz (.ref I) >>= _) _ _ s
  have W:=Walks.list (prog:=prog) (w:=w) (A:=A.in1) hh I l hlI items
  refine Aa (W.done s _ _ (by rw[<-hin];exact⟨hit,kY⟩) fun h' tk hm=>?_)
  show Bc _ A.in1 (Builtin.Dict.addKeywords d [] >>= _) _ _ _
  refine Aa (Ah (Ah (hR h' tk (fun b o _ hb e=>hm b o (by simp[hb]) e) ?_)))
  rw[Jd (by lia)]
  exact dictAt hd hes fun c o hc e=>hm c o (by simp[hc]) e
 | succ k ih=>
  intro i s es hm hi hl hit kY hd hes hkeys hp hR
  have hlt:i < items.size:=by lia
  refine Mu Dp.entry_loop ?_
  rw[Jj Dp.plain_loop _]
  show Bc _ A.in1 (Gz (.ref I) >>= _) _ _ s
  have W:=Walks.list (prog:=prog) (w:=w) (A:=A.in1) hh I l hlI items
  refine Aa (W.item i s _ _ hlt ⟨hit,kY⟩ fun v h' tk hv hst hm=>?_)
  obtain⟨p,hpi⟩:∃ p,ps[i]? = some p:=⟨_,An (by lia)⟩
  have hpm:p∈ps:=Be hpi
  obtain⟨a,ha,had,haI,hat⟩:=hp i p hpi
  rw[ha] at hv
  cases hv
  have hd':=dictAt hd hes fun c o hc e=>hm c o (by simp[hc]) e
  have hkeys':∀ q∈ps,(TK prog w).is h' q.1 q.2.1:=fun q hq=>qZ (hkeys q hq) fun o e=>hm _ o (by simp[(hk q hq).1]) e
  have hat':h'.IsTuple a #[.ref p.2.1,p.2.2]:=by
   obtain⟨o,ho,rest⟩:=hat
   exact⟨o,hm a o (by simp[haI]) ho,rest⟩
  show Bc _ A.in1 (Hz [Value.ref a] _ >>= _) _ _ _
  refine Aa (Dg (Aa (wpAny_tryCatch ?_)))
  unfold Builtin.Dict.pairItems
  obtain⟨o,ho,hc,n,hd2⟩:=hat'
  refine Aa (Kj (T:="tuple") ⟨o,ho,hc⟩ ?_)
  rw[if_pos (by decide)]
  refine Aa (Fp ho hd2 (Ah ?_))
  show Bc _ _ (Hz [Value.ref p.2.1,p.2.2] (dictSet d (.ref p.2.1) p.2.2)) _ _ _
  refine Dg (wpAny_dictSet_heap (knd:=TK prog w) hu (hkeys' p hpm) hd' (hsz:=by lia) fun h2 hd3 hs2=>?_)
  have e1:ps.drop i=p :: ps.drop (i + 1):=by rw[Fi (by lia)];congr 1;exact(Aj.mp hpi).2
  refine Ah ⟨Jv Dp.plain_loop _,?_⟩
  refine ih (i + 1) _ (Mh es p.1 p.2.1 p.2.2) (by lia) hlt (by have:=HP es p.1 p.2.1 p.2.2;lia) (hst.1.at fun o e=>(hs2.2 I (Bf hdI)).trans e) (hst.2.at fun o e=>(hs2.2 l (Bf hdl)).trans e) hd3 (fun e he=>?_) (fun q hq=>qZ (hkeys' q hq) fun o e=>(hs2.2 _ (hk q hq).2).trans e) (fun j q hq=>?_) fun h3 tk3 hk3 hd4=>?_
  ·unfold Mh at he
   split at he
   ·obtain⟨e0,he0,rfl⟩:=Ba.mp he
    have:(putAt p.1 p.2.2 e0).2.1=e0.2.1:=by unfold putAt;split <;> rfl
    rw[this]
    rcases hes e0 he0 with q | ⟨p',q,e'⟩
    ·exact .inr ⟨e0,q,rfl⟩
    ·exact .inr ⟨p',q,e'⟩
   ·rcases Bo.mp he with q | q
    ·exact hes e q
    ·obtain rfl:=Aw.mp q
     exact .inl hpm
  ·obtain⟨a,g1,g2,g3,⟨o,g4,g5⟩⟩:=hp j q hq
   exact⟨a,g1,g2,g3,⟨o,(hs2.2 a g2).trans (hm a o (by simp[g3]) g4),g5⟩⟩
  ·refine hR h3 tk3 (fun b o h1 h2 e=>hk3 b o h1 h2 ((hs2.2 b h1).trans (hm b o (by simp[h2]) e))) ?_
   rw[e1];exact hd4
theorem call_pairs{l:Addr}{items:Array Ae}{c:Nat}{ps:List (List aD×Addr×Ae)}{Q:Ae->Ag->Prop}(hh:A.handled=none)(hu:A.units + 2 < Fm)(hx:s.heap.get? l=some {cls:=.type "list",data:=.seq items c})(hn:ps.length=items.size)(hz:items.size<=Am)
  (hkeys:∀ p∈ps,(TK prog w).is s.heap p.1 p.2.1)
  (hp:∀ (j:Nat) (p:List aD×Addr×Ae),ps[j]? = some p->∃ (a:Addr),items[j]? = some (.ref a)/\s.heap.IsTuple a #[.ref p.2.1,p.2.2])
  (h:∀ h' tk,(∀ b o,s.heap.get? b=some o->h'.get? b=some o)->h'.DictOfH (TK prog w) s.heap.objs.size (allH [] ps)->Q (.ref s.heap.objs.size) {s with heap:=h',toks:=tk}) :
  Bc (Bn prog w) A (call (.type "dict") [.ref l]) Q E s:=by
 refine callType_codes (Q₁:=fun obj s₁=>obj=.ref s.heap.objs.size/\s₁ = {s with heap:=s.heap.push {cls:=.type "dict",data:=.dict #[]}}) F.kt_called_dict (F.kt_typeCall_dict_1 _) F.entry_dict_init (kt_code_dict_new _ ⟨rfl,rfl⟩) ?_
 rintro obj s₁ ⟨rfl,rfl⟩
 have lt:l < s.heap.objs.size:=Ap hx
 have hnew:(s.heap.push {cls:=.type "dict",data:=.dict #[]}).DictOfH (TK prog w) s.heap.objs.size []:=Heap.DictOfH.new s.heap
 have hx':(s.heap.push {cls:=.type "dict",data:=.dict #[]}).get? l=some {cls:=.type "list",data:=.seq items c}:=Af _ hx
 have hty:({s with heap:=s.heap.push {cls:=.type "dict",data:=.dict #[]}}:Ag).TypeIs (.ref s.heap.objs.size) "dict":=hnew.typeIs
 refine⟨hty,F.args_dict_init_2 _ _,?_⟩
 unfold Gx.«dict.__init__»
 refine Aa ?_
 unfold Builtin.Dict.selfAndRest
 refine Aa (Hv hty ?_)
 show Bc _ _ (pure (s.heap.objs.size,[Value.ref l])) _ _ _
 refine Ah ?_
 show Bc _ _ (Hx "dict.__init__" s.heap.objs.size (.ref l) [] .none) _ _ _
 unfold Hx
 refine Aa (Kj (T:="list") ⟨_,hx',rfl⟩ ?_)
 rw[if_pos (by decide)]
 refine Aa (Dp.keys_miss hx' hh fun h1 tk1 hk1=>?_)
 rw[if_pos (by decide)]
 have hx1:=hk1 _ _ hx'
 have hd1:h1.DictOfH (TK prog w) s.heap.objs.size []:=by
  obtain⟨o,es,ep,ho,r1,r2,r3,r4,r5⟩:=hnew
  exact⟨o,es,ep,hk1 _ o ho,r1,r2,r3,(fun x hx=>nomatch hx),r5⟩
 refine Aa (Fw (Aa (La (items:=items) ⟨_,hx1,rfl,c,rfl⟩ ?_)))
 have gI:(h1.push {cls:=.type "list_iterator",data:=.fields #[.ref l,.int 0 0]}).IsListIter h1.objs.size l 0:=⟨_,Az _ rfl,rfl,rfl⟩
 have up:∀ b o,s.heap.get? b=some o->(h1.push {cls:=.type "list_iterator",data:=.fields #[.ref l,.int 0 0]}).get? b=some o:=fun b o e=>Af _ (hk1 b o (Af _ e))
 have l1:s.heap.objs.size < h1.objs.size:=by
  obtain⟨o,es,ep,ho,rest⟩:=hd1
  exact Ap ho
 have lk:∀ p∈ps,@LT.lt Nat _ p.2.1 s.heap.objs.size:=fun p hp=>by
  obtain⟨o,items,n,e,_⟩:=hkeys p hp
  exact Ap e
 refine Ah ⟨Jv Dp.plain_loop _,?_⟩
 refine loop (A:=A.in1) (d:=s.heap.objs.size) (I:=h1.objs.size) (l:=l) (items:=items) (ps:=ps) hh (Fb (A:=A.in1) (show(A.units + 1) + 1 < Fm from hu)) (Bg l1) (Ct lt) (Bg (Ic lt l1)) hn hz (fun p hp=>⟨Bg (Ic (lk p hp) l1),Bg (lk p hp)⟩) items.size 0 _ [] rfl (Bv _) (Ai _) gI ⟨_,Af _ hx1,rfl,c,rfl⟩ (by
  obtain⟨o,es,ep,ho,r1,r2,r3,r4,r5⟩:=hd1
  exact⟨o,es,ep,Af _ ho,r1,r2,r3,(fun x hx=>nomatch hx),r5⟩) (fun e he=>nomatch he) (fun p hp=>qZ (hkeys p hp) (up _)) (fun j p hj=>?_) fun h2 tk2 hk2 hd2=>?_
 ·obtain⟨a,g1,⟨o,g2,g3⟩⟩:=hp j p hj
  have la:=Ap g2
  exact⟨a,g1,Bg la,Bg (Ic la l1),⟨o,up a o g2,g3⟩⟩
 ·exact⟨rfl,h h2 tk2 (fun b o e=>hk2 b o (Bg (Ap e)) (Bg (Ic (Ap e) l1)) (up b o e)) hd2⟩
end
end Dt
end PySem
namespace L3
open PySem PySem.Spec PyProof.Rows L2
section
variable {X:Cx}
def pU(ps:List (List aD×W)):List W:=ps.map fun p=>.tup [.tup (p.1.map wK),p.2]
theorem JG{pins:List (Addr×Obj)}{σ:L2.St}{H:Hp}{M:Mm}{s:Ag}(I:L2.Inv X pins σ H s):∀ {ps:List (List aD×W)} {vs:List V} {its:List Ae},aM X.K H M vs (pU ps)->aZ vs its->
  ∃ (qs:List (List aD×Addr×V)) (rs:List (List aD×Addr×Ae)),bQ X.K H M (List aD) (qs.map fun q=>(q.1,q.2.2)) ps/\(∀ q∈qs,H q.2.1=some (.tup (q.1.map kV)))/\Ha (fun(q:List aD×Addr×V) (p:List aD×Addr×Ae)=>q.1=p.1/\q.2.1=p.2.1/\RelV q.2.2 p.2.2) qs rs/\rs.length=its.length/\
   (∀ z∈rs,H z.2.1=some (.tup (z.1.map kV)))/\∀ (j:Nat) (p:List aD×Addr×Ae),rs[j]? = some p->∃ (a:Addr),its[j]? = some (.ref a)/\s.heap.IsTuple a #[.ref p.2.1,p.2.2]
 | [],_,_,.nil,.nil=>⟨[],[],.nil,(fun q hq=>nomatch hq),.nil,rfl,(fun q hq=>nomatch hq),fun j p h=>by simp at h⟩
 | (k,w) :: ps,_,_,.cons av avs,.cons rv rvs=>by
  obtain⟨qs,rs,h1,h2,h3,h4,h5,h6⟩:=JG I avs rvs
  obtain⟨a,xs,ev,e,q⟩:=av.inv
  rw[ev] at rv
  obtain⟨u1,u2,ex,a1,a2⟩:=q.two
  obtain⟨b,zs,eu,eb,qb⟩:=a1.inv
  rw[qb.keys] at eb
  obtain⟨its2,r2,pl,_⟩:=I.tuple (bL.of e)
  rw[ex,eu] at r2
  obtain⟨y1,y2,ey,x1,x2⟩:=vals2 r2
  rw[ey,show y1=.ref b from x1] at pl
  refine⟨(k,b,u2) :: qs,(k,b,y2) :: rs,.cons ⟨rfl,a2⟩ h1,List.forall_mem_cons.mpr ⟨eb,h2⟩,.cons ⟨rfl,rfl,x2⟩ h3,congrArg (· + 1) h4,List.forall_mem_cons.mpr ⟨eb,h5⟩,fun j p hj=>?_⟩
  cases j with
  | zero=>rw[<-Ci hj];exact⟨a,congrArg some rv,pl⟩
  | succ j=>exact h6 j p hj
def JH:List W->Mm->K3->Prop
 | [.rl ws],M,R=>∃ ps:List (List aD×W),ws=pU ps/\ws.length<=Am/\kI (pJ [] ps) M R
 | _,_,_=>False
theorem zba(hc:X.calm=true)(hu:X.A.units + 2 < Fm):dE X (.type "dict") (gQ X.K JH):=by
 rintro pins s σ H xs us Q I rs ⟨ws,M,R,am,axs,h,k⟩
 match ws,h with
 | [.rl ws],h=>
  obtain⟨v,rfl,av⟩:=axs.one
  obtain⟨ps,rfl,hz,r⟩:=h
  obtain⟨u,rfl,ru⟩:=vals1 rs
  cases av with
  | rl f n q=>
   cases ru
   obtain⟨z,its,c,rv,hl,e⟩:=I.lstM f
   obtain⟨qs,rs',h1,h2,h3,h4,h5,h6⟩:=JG I q rv
   have hz2:ps.length<=Am:=by simpa [pU] using hz
   have hql:qs.length=ps.length:=by have:=Ei h1;rwa [Ab] at this
   refine Dt.call_pairs (items:=its.toArray) (ps:=rs') (I.ok.hd hc) hu e (by simpa using h4) (by rw[Bb];lia) (fun p hp=>jP I.hok (h5 p hp)) (fun j p hj=>by simpa using h6 j p hj) fun h' tk hk dd=>?_
   have hfr:=I.hok.fresh (Ai _)
   have len:=HQ (qs.map fun q=>(q.1,q.2.2)) []
   rw[Ab] at len
   have puts:∀ {ps:List (List aD×W)} {qs:List (List aD×V)} {ks:List (List aD×V)} {kvs:List (List aD×W)},bQ X.K H M (List aD) qs ps->bQ X.K H M (List aD) ks kvs->bQ X.K H M (List aD) (nQ ks qs) (pJ kvs ps):=by
    intro ps qs ks kvs h
    induction h generalizing ks kvs with
    | nil=>intro h;exact h
    | @cons q p qs ps r t ih=>
     intro h
     obtain⟨q1,q2⟩:=q
     obtain⟨p1,p2⟩:=p
     obtain⟨rfl,r2⟩:=r
     exact ih (tN h q1 r2)
   have g:=puts (ks:=[]) (kvs:=[]) h1 .nil
   refine⟨.ref s.heap.objs.size,aS H s.heap.objs.size (.dT (nQ [] (qs.map fun q=>(q.1,q.2.2)))),I.laid (o:=.dT (nQ [] (qs.map fun q=>(q.1,q.2.2)))) (t':=tk) hk (Ai _) ⟨by simp at len;lia,beq_eq_false_iff_ne.mpr (Bf (Bg I.big)),_,(XJ h3 h2 .nil).keeps fun c ys ec=>?_,?_⟩,rfl,?_⟩
   ·rw[bF (eE ec hfr)];exact ec
   ·obtain⟨o,en,ep,r1,r2,r3,r4,_,r5⟩:=dd
    exact⟨o,en,ep,r1,r2,r3,r4,r5⟩
   ·obtain⟨am2,k2⟩:=am.laid (o:=.dT (pJ [] ps)) (u:=.dT (nQ [] (qs.map fun q=>(q.1,q.2.2)))) hfr ⟨_,cJ,oS g.keys (g.vals.newL hfr)⟩
    exact k _ _ _ _ k2 am2 (.ref _) (r _ (am.nonM hfr))
end
end L3
namespace L2
open PySem PySem.Spec PyProof.Rows
section
variable {X:Cx}{a:Expr}{ta:TA}{p p2 pos pos2:Pos}
def zbb(ta:TA):TE:=fun σ H Q=>ta σ H fun vs H1=>∃ n:Nat,vs=[.int n]/\n<=1000/\∀ q,H1 q=none->Q (.ref q) (aS H1 q (.lst ((Cw n).map fun(i:Nat)=>V.int i)))
theorem zbc(hc:X.calm=true)(hg:Gl X "list")(hm:X.mg "list" = none)(hg2:Gl X "range")(hm2:X.mg "range" = none)(ha:PA X [a] ta)
  (hs1:Bi [.Call (.Name "range" p2) [a] [] pos2] X.env=[(false,eval (.Call (.Name "range" p2) [a] [] pos2) X.env)]:=by rfl) (hs2:Bi [a] X.env=[(false,eval a X.env)]:=by rfl) :
  PE X (.Call (.Name "list" p) [.Call (.Name "range" p2) [a] [] pos2] [] pos) (zbb ta):=by
 intro pins s σ H Q I h
 refine Dv (iY I hg hm (by decide +kernel:Cp "list" = some (.type "list")) (Ck ?_ hs1 rfl))
 rw[hs1]
 refine Calls.spliced_cons (Dv (iY I hg2 hm2 (by decide +kernel:Cp "range" = some (.type "range")) (Ck (a7 (ha pos2 pins s σ H _ I h) fun us s1 ⟨vs,H1,I1,r1,q1⟩=>?_) hs2 rfl)))
 obtain⟨n,rfl,hn,q⟩:=q1
 obtain⟨u,rfl,ru⟩:=vals1 r1
 obtain⟨t,rfl⟩:=ru
 refine call_range_1 (Calls.spliced_nil ?_)
 have sz:Builtin.Range.rangeSize 0 (n:Int) 1=(n:Nat):=by rw[rangeSize_one];split <;> lia
 refine call_list_range (n:=n) (b:=(n:Int)) (I1.ok.hd hc) (IsRange.new _ _ _ _ _ _ _) (PySem.small_one (by decide) (by decide) (by lia) (by lia)) sz (by lia) fun h' tk acc c hk hS hacc=>?_
 have up:∀ b o,s1.heap.get? b=some o->h'.get? b=some o:=fun b o e=>hk b o (Af _ e)
 have ez:(s1.heap.push {cls:=.type "range",data:=.fields #[.int 0 0,.int (n:Int) t,.int 1 0]}).objs.size=s1.heap.objs.size + 1:=Du _ _
 refine⟨.ref _,_,I1.laid (o:=.lst ((Cw n).map fun(i:Nat)=>V.int i)) (t':=tk) up ?_ ⟨by simp[Jz];lia,acc.toList,c,?_,by rw[Lx];exact hS⟩,rfl,q _ (I1.hok.fresh ?_)⟩
 ·first | exact Je (Nat.lt_of_lt_of_eq (Ie _) (Du _ _).symm) | (rw[Du];exact Ml _)
 ·refine sY (by simp[hacc.1]) fun j v hv=>?_
  have hv':acc[j]? = some v:=by simpa using hv
  obtain⟨t',rfl⟩:=hacc.2 j v hv'
  have hj:j < n:=by have:=(Hn.mp hv').1;rw[hacc.1] at this;exact this
  refine⟨.int j,?_,t',by simp⟩
  simp[hj]
 ·first | exact Je (Nat.lt_of_lt_of_eq (Ie _) (Du _ _).symm) | (rw[Du];exact Ml _)
end
end L2
namespace L3
open PySem PySem.Spec PyProof.Rows L2
section
variable {X:Cx}{a:Expr}{ta:aY}
def JI(ta:aY):aY:=fun τ M R=>ta τ M fun w M1=>∃ n:Nat,w=.int n/\n<=1000/\bC ((Cw n).map fun(i:Nat)=>W.int i) M1 R
theorem zbd{p p2 pos pos2:Pos}(hg:Gl X "list")(hm:X.mg "list" = none)(hg2:Gl X "range")(hm2:X.mg "range" = none)(ha:E3 X a ta)(hc:X.calm=true:=by rfl)
  (hs1:Bi [.Call (.Name "range" p2) [a] [] pos2] X.env=[(false,eval (.Call (.Name "range" p2) [a] [] pos2) X.env)]:=by rfl) (hs2:Bi [a] X.env=[(false,eval a X.env)]:=by rfl) :
  E3 X (.Call (.Name "list" p) [.Call (.Name "range" p2) [a] [] pos2] [] pos) (JI ta):=
 (zbc hc hg hm hg2 hm2 (aC ha aH (by rw[hs2];rfl)) hs1 hs2).weak fun σ H Q z0=>z0.el fun τ M R as am h k=>⟨τ,M,fun ws M1=>∃ n:Nat,ws=[.int n]/\n<=1000/\bC ((Cw n).map fun(i:Nat)=>W.int i) M1 R,as,am,(show aB ta aF τ M _ from(show ta τ M _ from by
  refine(id h:ta τ M _) |> fun z=>?_
  exact Eq.mp (congrArg (ta τ M) (funext fun w=>funext fun M1=>propext ⟨fun⟨n,e,r⟩=>⟨n,by rw[e],r⟩,fun⟨n,e,r⟩=>⟨n,(List.cons.inj e).1,r⟩⟩)) z)),fun vs H1 ws M1 k1 am1 ax ⟨n,e,hn,r⟩=>by
  subst e
  obtain⟨v,rfl,av⟩:=ax.one
  obtain rfl:=av.inv
  refine⟨n,rfl,hn,fun q hq=>jB am1 (k.kp k1) hq ?_ r⟩
  have:∀ l:List Nat,aM X.K H1 M1 (l.map fun(i:Nat)=>V.int i) (l.map fun(i:Nat)=>W.int i):=by
   intro l
   induction l with
   | nil=>exact .nil
   | cons i r ih=>exact .cons (.int _) ih
  exact this _⟩
end
end L3
namespace Rg
open PySem PySem.Spec PyProof.Rows L2 L3
def gK(row:List Str)(t:Str)(p:Int):List (Int×Int):=if 0<=p/\row[p.toNat]? = some t then [(p + 1,0)] else []
theorem pV{row:List Str}{t:Str}{p e c:Int}:(e,c)∈gK row t p↔0<=p/\row[p.toNat]? = some t/\e=p + 1/\c=0:=by
 unfold gK
 split
 ·rename_i h;simp[h]
 ·rename_i h
  simp only[Ji,false_iff]
  exact fun z=>h ⟨z.1,z.2.1⟩
theorem n5{n:Nat}{p:Int}:p∈((Cw (n + 1)).map fun(i:Nat)=>(i:Int))↔0<=p/\p<=n:=by
 rw[Ba]
 constructor
 ·rintro⟨i,hi,rfl⟩
  have:=Ht.mp hi
  lia
 ·intro h
  exact⟨p.toNat,Ht.mpr (by lia),by lia⟩
theorem zbe(l:List Int)(z:Int):(l ++ [z]).getLastD 0=z:=by simp[Gg]
theorem y9{G:Sr}{B:bV}(h:kR G B):(B.map (·.1)).Nodup:=by
 obtain⟨S,I0,st,P,cur,T,A,hq,rfl,_⟩:=h
 have o:=A.ob.ord
 generalize st.best=B at o
 rw[Hs,Km]
 refine Kh.mpr fun i j hi hj hij e=>?_
 have sp:B=B.take j ++ B[j] :: B.drop (j + 1):=by rw[<-Fi hj,Lm]
 have hn:=(o _ _ _ sp).2
 have hm:B[i]∈B.take j:=by
  rw[Ma]
  exact⟨i,by rw[Cb];lia,by rw[List.getElem_take]⟩
 unfold aG at hn
 rw[Option.map_eq_none_iff,List.find?_eq_none] at hn
 have:=hn _ hm
 rw[decide_eq_true_eq] at this
 exact this e
theorem j6{l:List Int}{e:Int}{k:Nat}(h:k < l.length):(l ++ [e]).getD k 0=l.getD k 0:=by
 rw[Dn,Dn,Ig h]
theorem zA{l:List Int}{e:Int}:(l ++ [e]).getD l.length 0=e:=by
 rw[Dn,List.getElem?_concat_length];rfl
theorem getD_last{l:List Int}:l.getD (l.length - 1) 0=l.getLastD 0:=by
 rw[Dn,Gg,List.getLast?_eq_getElem?]
theorem zbf{l:List Int}:l.getD 0 0=l.headD 0:=by cases l <;> rfl
abbrev En:=bA×aK×Nat×List Int
structure uV(G:Sr)(pre:bV)(e:En)(r:aX):Prop where
 no:aG pre e.1=none
 ru:G.rs[e.2.2.1]? = some r
 fa:e.1=(r.name,e.2.2.2.headD 0,e.2.2.2.getLastD 0)
 ln:e.2.2.2.length=r.parts.length + 1
 pn:∀ k t,r.parts[k]? = some t->G.own t=true->(aG pre (t,e.2.2.2.getD k 0,e.2.2.2.getD (k + 1) 0)).isSome=true
 pw:∀ k t,r.parts[k]? = some t->G.own t=false->∃ pr,(e.2.2.2.getD (k + 1) 0,pr)∈G.steps t (e.2.2.2.getD k 0)
def uW(G:Sr)(B:bV):Prop:=∀ pre e post,B=pre ++ e :: post->∃ r,uV G pre e r
theorem zbg{G:Sr}{B:bV}{n:Nat}{cut:List Int}{c:aK}(g:GI G B n cut c):∀ r,G.rs[n]? = some r->cut.length<=r.parts.length + 1/\0 < cut.length/\
  ∀ k t,k + 1 < cut.length->r.parts[k]? = some t->(G.own t=true->(aG B (t,cut.getD k 0,cut.getD (k + 1) 0)).isSome=true)/\(G.own t=false->∃ pr,(cut.getD (k + 1) 0,pr)∈G.steps t (cut.getD k 0)):=by
 induction g with
 | start h1 h2=>exact fun r _=>⟨Nat.le_add_left _ _,Nat.zero_lt_one,fun k t h=>by simp at h⟩
 | @word r' cut c part e pr g h1 h2 h3 h4 ih=>
  intro r hr
  rw[h1] at hr;cases hr
  obtain⟨i1,i2,i3⟩:=ih r' h1
  have hl:=(Aj.mp h2).1
  refine⟨by simp;lia,by simp,fun k t hk ht=>?_⟩
  rw[Ak,Bk] at hk
  by_cases z:k + 1 < cut.length
  ·rw[j6 (by lia),j6 z];exact i3 k t z ht
  ·obtain rfl:k=cut.length - 1:=by lia
   rw[h2] at ht;cases ht
   rw[j6 (by lia),getD_last,show cut.length - 1 + 1=cut.length by lia,zA]
   exact⟨fun z=>(by rw[h3] at z;cases z),fun _=>⟨_,h4⟩⟩
 | @name r' cut c m part e k' g h1 h2 h3 h4 ih=>
  intro r hr
  rw[h1] at hr;cases hr
  obtain⟨i1,i2,i3⟩:=ih r' h1
  have hl:=(Aj.mp h2).1
  refine⟨by simp;lia,by simp,fun k t hk ht=>?_⟩
  rw[Ak,Bk] at hk
  by_cases z:k + 1 < cut.length
  ·rw[j6 (by lia),j6 z];exact i3 k t z ht
  ·obtain rfl:k=cut.length - 1:=by lia
   rw[h2] at ht;cases ht
   rw[j6 (by lia),getD_last,show cut.length - 1 + 1=cut.length by lia,zA]
   exact⟨fun _=>(by rw[h4];rfl),fun z=>(by rw[h3] at z;cases z)⟩
theorem uX{κ β:Type}[DecidableEq κ](a b:List (κ×β))(k:κ):aG (a ++ b) k=(aG a k).or (aG b k):=by
 unfold aG
 rw[List.find?_append,Option.map_or]
theorem JJ{G:Sr}{B:bV}(h:kR G B):uW G B:=by
 obtain⟨S,I0,st,P,cur,T,A,hq,rfl,_⟩:=h
 intro pre e post hb
 obtain⟨g,hn⟩:=A.ob.ord pre e post hb
 have hat:aG st.best e.1=some e.2:=by rw[hb,uX,hn,cQ,if_pos rfl];rfl
 obtain⟨p1,p2,_⟩:=A.ob.bst e.1 e.2.1 e.2.2.1 e.2.2.2 hat
 obtain⟨r,hr⟩:=g.rule
 obtain⟨i1,i2,i3⟩:=zbg g r hr
 rw[part_of hr] at p1
 have p1:=Ki.mp p1
 have hl:e.2.2.2.length=r.parts.length + 1:=by lia
 refine⟨r,hn,hr,?_,hl,fun k t ht=>(i3 k t ?_ ht).1,fun k t ht=>(i3 k t ?_ ht).2⟩
 ·rw[p2];unfold cE c7;rw[hr]
 all_goals have:=(Aj.mp ht).1;lia
section
variable (G:Sr)(fw:Str->Int->Int->W)(fr:Nat->List W->W)
def lQ(T:bA->W)(cut:List Int)(ps:List Str):List W:=ps.zipIdx.map fun x=>if G.own x.1=true then T (x.1,cut.getD x.2 0,cut.getD (x.2 + 1) 0) else fw x.1 (cut.getD x.2 0) (cut.getD (x.2 + 1) 0)
def lR(n:Nat):List Str:=((G.rs[n]?).map aX.parts).getD []
def uY(T:List (bA×W))(e:En):bA×W:=(e.1,fr e.2.2.1 (lQ G fw (fun f=>(aG T f).getD .non) e.2.2.2 (lR G e.2.2.1)))
def stepT(T:List (bA×W))(e:En):List (bA×W):=T ++ [uY G fw fr T e]
def kU(B:bV):List (bA×W):=B.foldl (stepT G fw fr) []
def uZ(B:bV)(f:bA):W:=(aG (kU G fw fr B) f).getD .non
end
section
variable {G:Sr}{fw:Str->Int->Int->W}{fr:Nat->List W->W}
theorem JK(B:bV)(T:List (bA×W)):∃ m,B.foldl (stepT G fw fr) T=T ++ m/\m.map Fj=B.map (·.1):=by
 induction B generalizing T with
 | nil=>exact⟨[],by simp,rfl⟩
 | cons e B ih=>
  obtain⟨m,h1,h2⟩:=ih (stepT G fw fr T e)
  refine⟨uY G fw fr T e :: m,?_,congrArg (e.1 :: ·) h2⟩
  rw[Ec,h1,stepT,Gk];rfl
theorem gA{κ β:Type}[DecidableEq κ]{t:List (κ×β)}{k:κ}:(aG t k).isSome=true↔k∈t.map (·.1):=by
 rw[<-f7,List.any_eq_true,Ba]
 exact⟨fun⟨x,h,e⟩=>⟨x,h,of_decide_eq_true e⟩,fun⟨x,h,e⟩=>⟨x,h,decide_eq_true e⟩⟩
theorem JL{B pre post:bV}{e:En}{r:aX}(hb:B=pre ++ e :: post)(E:uV G pre e r):uZ G fw fr B e.1=fr e.2.2.1 (lQ G fw (uZ G fw fr B) e.2.2.2 r.parts):=by
 obtain⟨m0,a1,a2⟩:=JK (G:=G) (fw:=fw) (fr:=fr) pre []
 rw[Jr] at a1
 obtain⟨m,h1,h2⟩:=JK (G:=G) (fw:=fw) (fr:=fr) post (stepT G fw fr (kU G fw fr pre) e)
 have ht:kU G fw fr B=kU G fw fr pre ++ (uY G fw fr (kU G fw fr pre) e :: m):=by
  unfold kU at h1 ⊢
  rw[hb,Eh,Ec,h1,stepT,Gk];rfl
 have hk:(kU G fw fr pre).map Fj=pre.map (·.1):=by unfold kU;rw[a1];exact a2
 have hn:aG (kU G fw fr pre) e.1=none:=by
  rw[<-Option.not_isSome_iff_eq_none,gA,hk,<-gA,E.no];exact Ao
 have hp:lR G e.2.2.1=r.parts:=by unfold lR;rw[E.ru];rfl
 unfold uZ
 rw[ht,uX,hn,cQ,if_pos (show(uY G fw fr (kU G fw fr pre) e).1=e.1 from rfl)]
 show fr e.2.2.1 (lQ G fw _ e.2.2.2 (lR G e.2.2.1))=_
 rw[hp]
 refine congrArg _ (Ee fun x hx=>?_)
 obtain⟨t,k⟩:=x
 have hx:=Hd.mp hx
 by_cases ho:G.own t=true
 ·rw[if_pos ho,if_pos ho]
  dsimp only
  rw[uX]
  have hs:=E.pn k t hx ho
  rw[gA,<-hk,<-gA] at hs
  obtain⟨v,hv⟩:=Ej.mp hs
  rw[hv];rfl
 ·rw[if_neg ho,if_neg ho]
end
abbrev iW(G:Sr)(B:bV)(f:bA):W:=uZ G (fun t _ _=>.str t) (fun n vs=>.tup [.int n,.tup vs]) B f
section
variable {rs:List aX}{row:List Str}{B:bV}
def mW(f:bA)(e:En):Bool:=decide (e.1.2=f.2)
def u0(pre:bV)(f:bA):Nat:=4 * (f.2.2 - f.2.1).toNat + ((pre.filter (mW f)).length + 1)
end
structure GQ(rs:List aX):Prop where
 ne:rs≠[]
 few:rs.length<=10
 fp:∀ r∈rs,r.parts.length<=4
 hd:∃ hs:List Str,hs.length<=4/\∀ r∈rs,r.name∈hs
 lo:∀ r∈rs,0<=r.cost
 sn:∀ r∈rs,fG r.name
 sp:∀ r∈rs,∀ t∈r.parts,fG t
structure RQ(row:List Str):Prop where
 few:row.length<=9
 sok:∀ t∈row,fG t
def b7(n:Nat):List Int:=(Cw (n + 1)).map fun(i:Nat)=>(i:Int)
def mY(rs:List aX)(n:Nat):Int:=((rs[n]?).map aX.cost).getD 0
def cS(rs:List aX)(row:List Str):Sr:=⟨rs,d6 rs,b7 row.length,gK row,mY rs⟩
theorem u3{rs:List aX}{n:Nat}{r:aX}(h:rs[n]? = some r):mY rs n=r.cost:=by unfold mY;rw[h];rfl
theorem JM{rs:List aX}(g:GQ rs){row:List Str}:nS (cS rs row):=by
 refine⟨fun n=>?_,fun t p e c h=>by rw[(pV.mp h).2.2.2];exact Fn _⟩
 show 0<=mY rs n
 unfold mY
 cases h:rs[n]? with
 | none=>exact Fn _
 | some r=>exact g.lo r (Be h)
theorem zB{rs:List aX}(g:GQ rs){row:List Str}:rG (cS rs row) (b7 row.length) rs.length 5:=by
 refine⟨fun p h=>h,fun t p e c h1 h2=>?_,Ai _,fun r hr=>?_⟩
 ·obtain⟨m1,m2,rfl,_⟩:=pV.mp h2
  have:=(Aj.mp m2).1
  exact n5.mpr ⟨by lia,by lia⟩
 ·have:=g.fp r hr;lia
theorem zbh{G:Sr}(ok:nS G){n:Nat}{cut:List Int}{c:aK}(h:DI G n cut c):0<=c.1:=by
 induction h with
 | start _ _=>exact ok.wt _
 | word _ _ _ _ h ih=>have:=ok.pr _ _ _ _ h;simp only;lia
 | name _ _ _ _ _ _ _ _ ih ih'=>unfold dB;simp only;lia
theorem u5{G:Sr}{n:Nat}{cut:List Int}{c:aK}(h:DI G n cut c):∃ r,G.rs[n]? = some r:=by
 cases h with
 | start a _=>exact⟨_,a⟩
 | word _ a _ _ _=>exact⟨_,a⟩
 | name _ a _ _ _ _ _ _=>exact⟨_,a⟩
abbrev Tb:=List (Int×Int)
abbrev Tq:=List ((Str×Int)×Tb)
def iP(t:Tb)(k v:Int):Bool:=match aG t k with
 | none=>true
 | some w=>decide (v < w)
def low(t:Tb)(k v:Int):Tb:=if iP t k v=true then bE t k v else t
theorem JN{t:Tb}{k v j u:Int}(h:aG (low t k v) j=some u):(j,u)=(k,v)\/aG t j=some u:=by
 unfold low at h
 split at h
 ·rw[gF] at h
  split at h
  ·rename_i z;cases h;exact .inl (by rw[z])
  ·exact .inr h
 ·exact .inr h
theorem JO(t:Tb)(k v:Int):∃ u,aG (low t k v) k=some u/\u<=v:=by
 unfold low
 by_cases h:iP t k v=true
 ·rw[if_pos h,gF,if_pos rfl];exact⟨v,rfl,Fn _⟩
 ·rw[if_neg h]
  unfold iP at h
  cases e:aG t k with
  | none=>rw[e] at h;exact absurd rfl h
  | some w=>rw[e] at h;exact⟨w,rfl,Int.not_lt.mp fun z=>h (decide_eq_true z)⟩
theorem zbi{t:Tb}{k v j w:Int}(h:aG t j=some w):∃ u,aG (low t k v) j=some u/\u<=w:=by
 unfold low
 by_cases hb:iP t k v=true
 ·rw[if_pos hb,gF]
  by_cases z:k=j
  ·subst z
   rw[if_pos rfl]
   unfold iP at hb
   rw[h] at hb
   exact⟨v,rfl,Int.le_of_lt (of_decide_eq_true hb)⟩
  ·rw[if_neg z];exact⟨w,h,Fn _⟩
 ·rw[if_neg hb];exact⟨w,h,Fn _⟩
theorem u6{κ β:Type}[DecidableEq κ]{t:List (κ×β)}{k:κ}{v:β}(h:(t.map (·.1)).Nodup):((bE t k v).map (·.1)).Nodup:=by
 unfold bE
 split
 ·rw[Bp]
  rw[show((fun x:κ×β=>x.1) ∘ fun e=>if e.1=k then(e.1,v) else e)=fun x=>x.1 from funext fun e=>by simp only[Gh];split <;> rfl]
  exact h
 ·rename_i z
  rw[Ax,Ef]
  refine⟨h,by simp,fun a ha b hb e=>z ?_⟩
  rw[f7,gA]
  rw[Ay,Fv,Aw] at hb
  rw[show k=b from hb.symm,<-e];exact ha
theorem JP{t:Tb}{k v:Int}(h:(t.map (·.1)).Nodup):((low t k v).map (·.1)).Nodup:=by
 unfold low
 split
 ·exact u6 h
 ·exact h
theorem n6{κ β:Type}[DecidableEq κ]{t:List (κ×β)}{k:κ}{v:β}(h:aG t k=some v):(k,v)∈t:=by
 obtain⟨a,b,e⟩:=nT h
 rw[e];simp
theorem lS{κ β:Type}[DecidableEq κ]{t:List (κ×β)}(nd:(t.map (·.1)).Nodup){k:κ}{v:β}(h:(k,v)∈t):aG t k=some v:=by
 induction t with
 | nil=>cases h
 | cons e t ih=>
  rw[Ay,Cr] at nd
  rw[cQ]
  rcases Ar.mp h with rfl | h
  ·rw[if_pos rfl]
  ·rw[if_neg (fun z=>nd.1 (Ba.mpr ⟨_,h,z.symm⟩))]
   exact ih nd.2 h
def flow(xs:Tb)(t:Tb):Tb:=xs.foldl (fun t g=>low t g.1 g.2) t
theorem JQ{xs:Tb}{j u:Int}:∀ {t:Tb},aG (flow xs t) j=some u->(j,u)∈xs\/aG t j=some u:=by
 induction xs with
 | nil=>intro t h;exact .inr h
 | cons g xs ih=>
  intro t h
  rcases ih (t:=low t g.1 g.2) h with z | z
  ·exact .inl (Au _ z)
  ·rcases JN z with z | z
   ·exact .inl (by rw[z];exact Bd ..)
   ·exact .inr z
theorem zC{xs:Tb}{j:Int}:∀ {t:Tb} {w:Int},aG t j=some w->∃ u,aG (flow xs t) j=some u/\u<=w:=by
 induction xs with
 | nil=>intro t w h;exact⟨w,h,Fn _⟩
 | cons g xs ih=>
  intro t w h
  obtain⟨u,h1,h2⟩:=zbi (k:=g.1) (v:=g.2) h
  obtain⟨u',h3,h4⟩:=ih h1
  exact⟨u',h3,Lj h4 h2⟩
theorem JR{xs:Tb}{k v:Int}:∀ {t:Tb},(k,v)∈xs->∃ u,aG (flow xs t) k=some u/\u<=v:=by
 induction xs with
 | nil=>intro t h;cases h
 | cons g xs ih=>
  intro t h
  rcases Ar.mp h with rfl | h
  ·obtain⟨u,h1,h2⟩:=JO t k v
   obtain⟨u',h3,h4⟩:=zC (xs:=xs) h1
   exact⟨u',h3,Lj h4 h2⟩
  ·exact ih h
theorem JS{xs:Tb}:∀ {t:Tb},(t.map (·.1)).Nodup->((flow xs t).map (·.1)).Nodup:=by
 induction xs with
 | nil=>intro t h;exact h
 | cons g xs ih=>intro t h;exact ih (JP h)
theorem JT{α:Type}(f:α->Tb):∀ (l:List α) (t:Tb),l.foldl (fun t a=>flow (f a) t) t=flow (l.flatMap f) t
 | [],t=>rfl
 | a :: l,t=>by
  rw[Ec,JT f l,List.flatMap_cons]
  unfold flow
  rw[Eh]
section
variable (rs:List aX)(row:List Str)
def inn(T:Tq)(key:Str×Int):Tb:=(aG T key).getD []
def iQ(T:Tq)(part:Str)(p:Int):Tb:=if d6 rs part=true then inn T (part,p) else gK row part p
def jK(T:Tq)(part:Str)(a:Int×Int):Tb:=(iQ rs row T part a.1).map fun g=>(g.1,a.2 + g.2)
def lT(T:Tq)(part:Str)(here:Tb):Tb:=here.foldl (fun t a=>flow (jK rs row T part a) t) []
def d7(T:Tq)(parts:List Str)(b:Int):Tb:=parts.foldl (fun h p=>lT rs row T p h) [(b,0)]
def d8(c:Int)(st:Tb×Bool)(g:Int×Int):Tb×Bool:=if iP st.1 g.1 (c + g.2)=true then(bE st.1 g.1 (c + g.2),true) else st
def gL(r:aX)(st:Tq×Bool)(b:Int):Tq×Bool:=
 (bE st.1 (r.name,b) ((d7 rs row st.1 r.parts b).foldl (d8 r.cost) (inn st.1 (r.name,b),st.2)).1,((d7 rs row st.1 r.parts b).foldl (d8 r.cost) (inn st.1 (r.name,b),st.2)).2)
def kW(st:Tq×Bool)(r:aX):Tq×Bool:=(b7 row.length).foldl (gL rs row r) st
def j7(T:Tq):Tq×Bool:=rs.foldl (kW rs row) (T,false)
def u7:Nat->Tq->Prop
 | 0,_=>False
 | m + 1,T=>(j7 rs row T).2=false\/u7 m (j7 rs row T).1
end
section
variable {rs:List aX}{row:List Str}
theorem zD(T:Tq)(part:Str)(here:Tb):lT rs row T part here=flow (here.flatMap (jK rs row T part)) []:=JT _ _ _
theorem zbj(T:Tq)(part:Str)(here:Tb):((lT rs row T part here).map (·.1)).Nodup:=by rw[zD];exact JS Cy
theorem zbk{T:Tq}{part:Str}{here:Tb}{e d:Int}(h:aG (lT rs row T part here) e=some d):∃ a w u,(a,w)∈here/\(e,u)∈iQ rs row T part a/\d=w + u:=by
 rw[zD] at h
 rcases JQ h with h | h
 ·obtain⟨⟨a,w⟩,ha,h⟩:=Dw.mp h
  obtain⟨⟨g,u⟩,hg,h⟩:=Ba.mp h
  cases h
  exact⟨a,w,u,ha,hg,rfl⟩
 ·cases h
theorem JU{T:Tq}{part:Str}{here:Tb}{a w e u:Int}(ha:(a,w)∈here)(hg:(e,u)∈iQ rs row T part a):∃ d,aG (lT rs row T part here) e=some d/\d<=w + u:=by
 rw[zD]
 exact JR (Dw.mpr ⟨(a,w),ha,Ba.mpr ⟨(e,u),hg,rfl⟩⟩)
theorem rP(T:Tq)(ps:List Str)(p:Str)(b:Int):d7 rs row T (ps ++ [p]) b=lT rs row T p (d7 rs row T ps b):=by unfold d7;rw[Eh];rfl
theorem JV(T:Tq)(ps:List Str)(b:Int):((d7 rs row T ps b).map (·.1)).Nodup:=by
 rcases Dh ps with rfl | ⟨l,p,rfl⟩
 ·simp[d7]
 ·rw[Dj,rP];exact zbj _ _ _
theorem JW{T T':Tq}(h:∀ k,inn T' k=inn T k)(ps:List Str)(b:Int):d7 rs row T' ps b=d7 rs row T ps b:=by
 unfold d7
 congr 1
 funext h' p
 unfold lT
 congr 1
 funext t a
 unfold jK iQ
 rw[h]
def eW(T:Tq)(f:bA):Option Int:=aG (inn T (f.1,f.2.1)) f.2.2
def zE(rs:List aX)(row:List Str)(f:bA)(v:Int):Prop:=∃ n cut k,DI (cS rs row) n cut (v,k)/\dP (cS rs row) n cut=none/\f=cE (cS rs row) n cut
structure IQ(rs:List aX)(row:List Str)(T:Tq):Prop where
 nd:(T.map (·.1)).Nodup
 ni:∀ key,((inn T key).map (·.1)).Nodup
 so:∀ f v,eW T f=some v->zE rs row f v
 ky:∀ key∈T.map (·.1),key∈(rs.map aX.name).flatMap fun X=>(b7 row.length).map fun b=>(X,b)
theorem pW{cut:List Int}{z:Int}(h:cut≠[]):(cut ++ [z]).headD 0=cut.headD 0/\(cut ++ [z]).getLastD 0=z/\(cut ++ [z]).length - 1=(cut.length - 1) + 1:=by
 cases cut with
 | nil=>exact absurd rfl h
 | cons x cut=>exact⟨rfl,zbe _ _,by simp⟩
theorem rQ{n:Nat}{r:aX}(h:rs[n]? = some r):c7 (cS rs row) n=r.name:=by unfold c7;rw[show(cS rs row).rs[n]? = some r from h]
theorem zbl{T:Tq}(I:IQ rs row T){n:Nat}{r:aX}(hr:rs[n]? = some r){b:Int}(hb:b∈b7 row.length):∀ j,j<=r.parts.length->∀ e d,aG (d7 rs row T (r.parts.take j) b) e=some d->
  ∃ cut k,DI (cS rs row) n cut (r.cost + d,k)/\cut.length=j + 1/\cut.headD 0=b/\cut.getLastD 0=e:=by
 intro j
 induction j with
 | zero=>
  intro _ e d h
  rw[List.take_zero] at h
  unfold d7 at h
  rw[List.foldl_nil,cQ] at h
  split at h
  ·rename_i z
   cases h
   exact⟨[b],1,by have:=DI.start (G:=cS rs row) hr hb;rw[show(cS rs row).wt n=r.cost from u3 hr] at this;rw[Int.add_zero];exact this,rfl,rfl,z⟩
  ·cases h
 | succ j ih=>
  intro hj e d h
  obtain⟨p,hp⟩:∃ p,r.parts[j]? = some p:=⟨_,An hj⟩
  rw[Bx,hp] at h
  have h:aG (d7 rs row T (r.parts.take j ++ [p]) b) e=some d:=h
  rw[rP] at h
  obtain⟨a,w,u,ha,hg,rfl⟩:=zbk h
  obtain⟨cut,k,di,l,h1,h2⟩:=ih (by lia) a w (lS (JV _ _ _) ha)
  unfold iQ at hg
  by_cases ho:d6 rs p=true
  ·rw[if_pos ho] at hg
   obtain⟨n',cut',k',di',p',f'⟩:=I.so (p,a,e) u (lS (I.ni _) hg)
   unfold cE at f'
   simp only[Dl] at f'
   obtain⟨f1,f2,f3⟩:=f'
   obtain⟨s1,s2,_⟩:=pW (z:=cut'.getLastD 0) di.ne
   refine⟨cut ++ [cut'.getLastD 0],k + k',?_,by simp[l],by rw[s1,h1],by rw[s2,f3]⟩
   have:=DI.name (G:=cS rs row) di hr (by rw[l];exact hp) ho di' p' f1.symm (by rw[h2,f2])
   unfold dB at this
   rw[show r.cost + (w + u)=r.cost + w + u by lia];exact this
  ·rw[if_neg ho] at hg
   obtain⟨s1,s2,_⟩:=pW (z:=e) di.ne
   refine⟨cut ++ [e],k,?_,by simp[l],by rw[s1,h1],s2⟩
   have:=DI.word (G:=cS rs row) di hr (by rw[l];exact hp) (Bool.eq_false_iff.mpr ho) (e:=e) (pr:=u) (by rw[h2];exact hg)
   rw[show r.cost + (w + u)=r.cost + w + u by lia];exact this
theorem zbm{T:Tq}(I:IQ rs row T){r:aX}(hr:r∈rs){b:Int}(hb:b∈b7 row.length){e d:Int}(h:(e,d)∈d7 rs row T r.parts b):zE rs row (r.name,b,e) (r.cost + d):=by
 obtain⟨n,hn,rfl⟩:=Ma.mp hr
 have hn':rs[n]? = some rs[n]:=An hn
 obtain⟨cut,k,di,l,h1,h2⟩:=zbl I hn' hb _ (Ai _) e d (by rw[Bz];exact lS (JV _ _ _) h)
 refine⟨n,cut,k,di,?_,?_⟩
 ·rw[part_of (G:=cS rs row) hn',l];simp
 ·unfold cE;rw[h1,h2,rQ hn']
theorem u9(g:GQ rs){f:bA}{v:Int}(h:zE rs row f v):f.1∈rs.map aX.name/\f.2.1∈b7 row.length/\f.2.2∈b7 row.length/\0<=v:=by
 obtain⟨n,cut,k,di,p,rfl⟩:=h
 obtain⟨r,hr⟩:=u5 di
 have hr:rs[n]? = some r:=hr
 obtain⟨h1,_,_⟩:=pM (zB g) di
 refine⟨?_,h1 _ (yJ di.ne),h1 _ (pL di.ne),zbh (JM g) di⟩
 unfold cE
 rw[rQ hr]
 exact Dx (Be hr)
theorem zF(c:Int):∀ (xs:Tb) (st:Tb×Bool),(xs.foldl (d8 c) st).1=flow (xs.map fun g=>(g.1,c + g.2)) st.1/\((xs.foldl (d8 c) st).2=false->st.2=false/\(xs.foldl (d8 c) st).1=st.1/\∀ g∈xs,iP st.1 g.1 (c + g.2)=false)/\
  ((xs.foldl (d8 c) st).2=true->st.2=true\/∃ g∈xs,∀ w,aG st.1 g.1=some w->∃ u,aG (xs.foldl (d8 c) st).1 g.1=some u/\u < w)
 | [],st=>⟨rfl,fun h=>⟨h,rfl,fun _ z=>nomatch z⟩,fun h=>.inl h⟩
 | g :: xs,st=>by
  obtain⟨i1,i2,i3⟩:=zF c xs (d8 c st g)
  have e1:(d8 c st g).1=low st.1 g.1 (c + g.2):=by unfold d8 low;split <;> rfl
  rw[Ec]
  refine⟨by rw[i1,e1];rfl,fun h=>?_,fun h=>?_⟩
  ·obtain⟨j1,j2,j3⟩:=i2 h
   by_cases hb:iP st.1 g.1 (c + g.2)=true
   ·unfold d8 at j1;rw[if_pos hb] at j1;cases j1
   ·have e:d8 c st g=st:=by unfold d8;rw[if_neg hb]
    rw[e] at j1 j2 j3 ⊢
    refine⟨j1,j2,fun x hx=>?_⟩
    rcases Ar.mp hx with rfl | hx
    ·exact Bool.eq_false_iff.mpr hb
    ·exact j3 x hx
  ·by_cases hb:iP st.1 g.1 (c + g.2)=true
   ·right
    refine⟨g,Bd ..,fun w hw=>?_⟩
    have hv:c + g.2 < w:=by unfold iP at hb;rw[hw] at hb;exact of_decide_eq_true hb
    rw[i1,e1]
    obtain⟨u,h1,h2⟩:=JO st.1 g.1 (c + g.2)
    obtain⟨u',h3,h4⟩:=zC (xs:=xs.map fun g=>(g.1,c + g.2)) h1
    exact⟨u',h3,by lia⟩
   ·have e:d8 c st g=st:=by unfold d8;rw[if_neg hb]
    rw[e] at i3 h ⊢
    rcases i3 h with z | ⟨x,hx,z⟩
    ·exact .inl z
    ·exact .inr ⟨x,Au _ hx,z⟩
theorem vA(T:Tq)(key k:Str×Int)(t:Tb):inn (bE T key t) k=if key=k then t else inn T k:=by
 unfold inn
 rw[gF]
 split <;> rfl
def kX(T T':Tq):Prop:=∀ f w,eW T f=some w->∃ v,eW T' f=some v/\v<=w
def n8(T T':Tq)(f:bA):Prop:=∃ v,eW T' f=some v/\∀ w,eW T f=some w->v < w
theorem kX.refl(T:Tq):kX T T:=fun f w h=>⟨w,h,Fn _⟩
theorem kX.trans{A B C:Tq}(h:kX A B)(h':kX B C):kX A C:=fun f w e=>by
 obtain⟨v,h1,h2⟩:=h f w e
 obtain⟨u,h3,h4⟩:=h' f v h1
 exact⟨u,h3,Lj h4 h2⟩
theorem n8.le{A B C:Tq}{f:bA}(h:n8 A B f)(h':kX B C):n8 A C f:=by
 obtain⟨v,h1,h2⟩:=h
 obtain⟨u,h3,h4⟩:=h' f v h1
 exact⟨u,h3,fun w e=>Int.lt_of_le_of_lt h4 (h2 w e)⟩
theorem n8.of{A B C:Tq}{f:bA}(h:kX A B)(h':n8 B C f):n8 A C f:=by
 obtain⟨v,h1,h2⟩:=h'
 refine⟨v,h1,fun w e=>?_⟩
 obtain⟨u,h3,h4⟩:=h f w e
 exact Int.lt_of_lt_of_le (h2 u h3) h4
def n9(rs:List aX)(row:List Str)(T:Tq)(r:aX)(b:Int):Prop:=∀ e d,aG (d7 rs row T r.parts b) e=some d->∃ v,aG (inn T (r.name,b)) e=some v/\v<=r.cost + d
structure jL(rs:List aX)(row:List Str)(A B:Tq×Bool):Prop where
 iq:IQ rs row B.1
 le:kX A.1 B.1
 no:B.2=false->A.2=false/\∀ key,inn B.1 key=inn A.1 key
 ye:B.2=true->A.2=true\/∃ f,n8 A.1 B.1 f
theorem jL.trans{A B C:Tq×Bool}(h:jL rs row A B)(h':jL rs row B C):jL rs row A C:=by
 refine⟨h'.iq,h.le.trans h'.le,fun z=>?_,fun z=>?_⟩
 ·obtain⟨a1,a2⟩:=h'.no z
  obtain⟨b1,b2⟩:=h.no a1
  exact⟨b1,fun key=>(a2 key).trans (b2 key)⟩
 ·rcases h'.ye z with z | ⟨f,z⟩
  ·rcases h.ye z with z | ⟨f,z⟩
   ·exact .inl z
   ·exact .inr ⟨f,z.le h'.le⟩
  ·exact .inr ⟨f,z.of h.le⟩
theorem jL.refl{A:Tq×Bool}(I:IQ rs row A.1):jL rs row A A:=⟨I,kX.refl _,fun h=>⟨h,fun _=>rfl⟩,fun h=>.inl h⟩
theorem zbn{r:aX}(hr:r∈rs){b:Int}(hb:b∈b7 row.length){st:Tq×Bool}(I:IQ rs row st.1):jL rs row st (gL rs row r st b)/\((gL rs row r st b).2=false->n9 rs row (gL rs row r st b).1 r b):=by
 obtain⟨E,hE⟩:∃ E,E=(d7 rs row st.1 r.parts b).foldl (d8 r.cost) (inn st.1 (r.name,b),st.2):=⟨_,rfl⟩
 have hv:gL rs row r st b=(bE st.1 (r.name,b) E.1,E.2):=by rw[hE];rfl
 obtain⟨o1,o2,o3⟩:=zF r.cost (d7 rs row st.1 r.parts b) (inn st.1 (r.name,b),st.2)
 rw[<-hE] at o1 o2 o3
 rw[hv]
 have lk:∀ f:bA,eW (bE st.1 (r.name,b) E.1) f=if (r.name,b)=(f.1,f.2.1) then aG E.1 f.2.2 else eW st.1 f:=fun f=>by
  unfold eW;rw[vA];split <;> rfl
 refine⟨⟨⟨u6 I.nd,fun key=>?_,fun f v h=>?_,fun key hk=>?_⟩,fun f w h=>?_,fun h=>?_,fun h=>?_⟩,fun h=>?_⟩
 ·rw[vA]
  split
  ·rw[o1];exact JS (I.ni _)
  ·exact I.ni key
 ·rw[lk] at h
  split at h
  ·rename_i z
   rw[o1] at h
   rcases JQ h with h | h
   ·obtain⟨⟨e,d⟩,hg,he⟩:=Ba.mp h
    obtain⟨X,b',e'⟩:=f
    cases z
    cases he
    exact zbm I hr hb hg
   ·refine I.so f v ?_
    unfold eW
    rw[<-z];exact h
  ·exact I.so f v h
 ·have:key=(r.name,b)\/key∈st.1.map (·.1):=by
   rw[<-gA] at hk ⊢
   rw[gF] at hk
   by_cases z:(r.name,b)=key
   ·exact .inl z.symm
   ·rw[if_neg z] at hk;exact .inr hk
  rcases this with rfl | h
  ·exact Dw.mpr ⟨r.name,Dx hr,Dx hb⟩
  ·exact I.ky key h
 ·rw[lk]
  split
  ·rename_i z
   rw[o1]
   unfold eW at h
   rw[<-z] at h
   exact zC h
  ·exact⟨w,h,Fn _⟩
 ·obtain⟨j1,j2,_⟩:=o2 h
  refine⟨j1,fun key=>?_⟩
  rw[vA]
  split
  ·rename_i z;rw[j2,<-z]
  ·rfl
 ·rcases o3 h with z | ⟨⟨e,d⟩,hg,z⟩
  ·exact .inl z
  ·right
   obtain⟨u,hu,_⟩:=JR (t:=inn st.1 (r.name,b)) (Dx (f:=fun g:Int×Int=>(g.1,r.cost + g.2)) hg)
   rw[<-o1] at hu
   refine⟨(r.name,b,e),u,by rw[lk,if_pos rfl];exact hu,fun w hw=>?_⟩
   obtain⟨u',h1,h2⟩:=z w hw
   rw[hu] at h1;cases h1;exact h2
 ·obtain⟨j1,j2,j3⟩:=o2 h
  have same:∀ key,inn (bE st.1 (r.name,b) E.1) key=inn st.1 key:=fun key=>by
   rw[vA]
   split
   ·rename_i z;rw[j2,<-z]
   ·rfl
  intro e d hd
  simp only at hd ⊢
  rw[JW same] at hd
  rw[same]
  have:=j3 (e,d) (n6 hd)
  unfold iP at this
  simp only at this
  cases q:aG (inn st.1 (r.name,b)) e with
  | none=>rw[q] at this;cases this
  | some w=>
   rw[q] at this
   exact⟨w,rfl,Int.not_lt.mp (of_decide_eq_false this)⟩
theorem n9.congr{T T':Tq}(h:∀ k,inn T' k=inn T k){r:aX}{b:Int}(f:n9 rs row T r b):n9 rs row T' r b:=fun e d hd=>by
 rw[JW h] at hd
 rw[h];exact f e d hd
theorem zG{r:aX}(hr:r∈rs):∀ (l:List Int),(∀ b∈l,b∈b7 row.length)->∀ {st:Tq×Bool},IQ rs row st.1->jL rs row st (l.foldl (gL rs row r) st)/\((l.foldl (gL rs row r) st).2=false->∀ b∈l,n9 rs row (l.foldl (gL rs row r) st).1 r b)
 | [],_,st,I=>⟨jL.refl I,fun _ _ z=>nomatch z⟩
 | b :: l,hl,st,I=>by
  obtain⟨s1,f1⟩:=zbn hr (hl b (Bd ..)) I
  obtain⟨s2,f2⟩:=zG hr l (fun b hb=>hl b (Au _ hb)) (st:=gL rs row r st b) s1.iq
  refine⟨s1.trans s2,fun h c hc=>?_⟩
  rcases Ar.mp hc with rfl | hc
  ·obtain⟨a1,a2⟩:=s2.no h
   exact(f1 a1).congr a2
  ·exact f2 h c hc
theorem zH:∀ (l:List aX),(∀ r∈l,r∈rs)->∀ {st:Tq×Bool},IQ rs row st.1->jL rs row st (l.foldl (kW rs row) st)/\((l.foldl (kW rs row) st).2=false->∀ r∈l,∀ b∈b7 row.length,n9 rs row (l.foldl (kW rs row) st).1 r b)
 | [],_,st,I=>⟨jL.refl I,fun _ _ z=>nomatch z⟩
 | r :: l,hl,st,I=>by
  obtain⟨s1,f1⟩:=zG (hl r (Bd ..)) (b7 row.length) (fun _ h=>h) I
  obtain⟨s2,f2⟩:=zH l (fun r hr=>hl r (Au _ hr)) (st:=kW rs row st r) s1.iq
  refine⟨s1.trans s2,fun h q hq=>?_⟩
  rcases Ar.mp hq with rfl | hq
  ·obtain⟨a1,a2⟩:=s2.no h
   exact fun b hb=>(f1 a1 b hb).congr a2
  ·exact f2 h q hq
def pX(rs:List aX)(row:List Str)(T:Tq):Prop:=∀ r∈rs,∀ b∈b7 row.length,n9 rs row T r b
theorem JX{T:Tq}(I:IQ rs row T):jL rs row (T,false) (j7 rs row T)/\((j7 rs row T).2=false->pX rs row (j7 rs row T).1):=zH rs (fun _ h=>h) I
def iR(a:bA->Option Int):List bA->Nat
 | []=>0
 | f :: U=>(if (a f).isNone=true then 1 else 0) + iR a U
def oA(a:bA->Option Int):List bA->Nat
 | []=>0
 | f :: U=>((a f).getD 0).toNat + oA a U
theorem JY{a b:bA->Option Int}(h:∀ f w,a f=some w->∃ v,b f=some v/\v<=w)(h0:∀ f v,b f=some v->0<=v):∀ U:List bA,iR b U<=iR a U/\(iR b U=iR a U->oA b U<=oA a U)/\
  ((∃ f∈U,∃ v,b f=some v/\∀ w,a f=some w->v < w)->iR b U < iR a U\/iR b U=iR a U/\oA b U < oA a U)
 | []=>⟨Ai _,fun _=>Ai _,fun⟨_,z,_⟩=>nomatch z⟩
 | f :: U=>by
  obtain⟨i1,i2,i3⟩:=JY h h0 U
  unfold iR oA
  cases ea:a f with
  | some w=>
   obtain⟨v,eb,hv⟩:=h f w ea
   have:=h0 f v eb
   rw[eb]
   simp only[Option.isNone_some,Option.getD_some,Ds,if_false,Ib]
   refine⟨i1,fun z=>?_,fun⟨x,hx,u,e1,e2⟩=>?_⟩
   ·have:=i2 z;lia
   ·rcases Ar.mp hx with rfl | hx
    ·rw[eb] at e1;cases e1
     have:=e2 w ea
     by_cases z:iR b U=iR a U
     ·have:=i2 z;right;exact⟨z,by lia⟩
     ·left;lia
    ·rcases i3 ⟨x,hx,u,e1,e2⟩ with z | ⟨z1,z2⟩
     ·exact .inl z
     ·right;exact⟨z1,by lia⟩
  | none=>
   cases eb:b f with
   | none=>
    simp only[Option.isNone_none,if_true,Option.getD_none]
    refine⟨by lia,fun z=>?_,fun⟨x,hx,u,e1,e2⟩=>?_⟩
    ·have:=i2 (by lia);lia
    ·rcases Ar.mp hx with rfl | hx
     ·rw[eb] at e1;cases e1
     ·rcases i3 ⟨x,hx,u,e1,e2⟩ with z | ⟨z1,z2⟩
      ·left;lia
      ·right;exact⟨by lia,by lia⟩
   | some v=>
    simp only[Option.isNone_none,Option.isNone_some,if_true,Ds,if_false]
    refine⟨by lia,fun z=>?_,fun _=>.inl ?_⟩ <;> lia
def vB(rs:List aX)(n:Nat):List bA:=(rs.map aX.name).flatMap fun X=>(b7 n).flatMap fun b=>(b7 n).map fun e=>(X,b,e)
theorem zbo(g:GQ rs):∀ (m t:Nat) {T:Tq},IQ rs row T->iR (eW T) (vB rs row.length)<=m->oA (eW T) (vB rs row.length)<=t->∃ k,u7 rs row k T:=by
 intro m
 induction m using Nat.strongRecOn with
 | _ m ihm=>
  intro t
  induction t using Nat.strongRecOn with
  | _ t iht=>
   intro T I hm ht
   obtain⟨s,_⟩:=JX I
   cases hb:(j7 rs row T).2 with
   | false=>exact⟨1,.inl hb⟩
   | true=>
    have lo:∀ f v,eW (j7 rs row T).1 f=some v->0<=v:=fun f v h=>(u9 g (s.iq.so f v h)).2.2.2
    obtain⟨l1,l2,l3⟩:=JY s.le lo (vB rs row.length)
    have lt:=l3 (by
     rcases s.ye hb with z | ⟨f,v,h1,h2⟩
     ·cases z
     ·obtain⟨c1,c2,c3,_⟩:=u9 g (s.iq.so f v h1)
      exact⟨f,Dw.mpr ⟨f.1,c1,Dw.mpr ⟨f.2.1,c2,Ba.mpr ⟨f.2.2,c3,rfl⟩⟩⟩,v,h1,h2⟩)
    have:∃ k,u7 rs row k (j7 rs row T).1:=by
     by_cases z:iR (eW (j7 rs row T).1) (vB rs row.length) < m
     ·exact ihm _ z _ s.iq (Ai _) (Ai _)
     ·rcases lt with lt | ⟨lt1,lt2⟩
      ·exact absurd (Bw lt hm) z
      ·exact iht _ (Bw lt2 ht) s.iq (by lia) (Ai _)
    obtain⟨k,hk⟩:=this
    exact⟨k + 1,.inr hk⟩
theorem JZ:IQ rs row []:=⟨Cy,fun _=>Cy,fun f v h=>(by cases h),fun _ h=>(by cases h)⟩
theorem zbp{T:Tq}(hf:pX rs row T){n:Nat}{cut:List Int}{c:aK}(h:DI (cS rs row) n cut c):∀ r,rs[n]? = some r->cut.headD 0∈b7 row.length/\cut.length - 1<=r.parts.length/\
  ∃ d,aG (d7 rs row T (r.parts.take (cut.length - 1)) (cut.headD 0)) (cut.getLastD 0)=some d/\r.cost + d<=c.1:=by
 induction h with
 | @start n r' p h1 h2=>
  intro r hr
  refine⟨h2,Bv _,0,?_,?_⟩
  ·show aG (d7 rs row T (r.parts.take 0) p) p=some 0
   rw[List.take_zero];unfold d7;rw[List.foldl_nil,cQ,if_pos rfl]
  ·show r.cost + 0<=mY rs n
   rw[u3 hr];lia
 | @word n r' cut c part e pr di h1 h2 h3 h4 ih=>
  intro r hr
  have h1:rs[n]? = some r':=h1
  rw[h1] at hr;cases hr
  obtain⟨i1,i2,d,i3,i4⟩:=ih r' h1
  obtain⟨s1,s2,s3⟩:=pW (z:=e) di.ne
  have hl:=(Aj.mp h2).1
  rw[s1,s2,s3,Bx,h2]
  refine⟨i1,by lia,?_⟩
  rw[show(some part).toList=[part] from rfl,rP]
  obtain⟨d',h5,h6⟩:=JU (rs:=rs) (row:=row) (T:=T) (part:=part) (n6 i3) (e:=e) (u:=pr) (by unfold iQ;rw[if_neg (by rw[show d6 rs part=false from h3];exact Ao)];exact h4)
  exact⟨d',h5,by simp only;lia⟩
 | @name n n' r' cut cut' c m part di h1 h2 h3 di' h4 h5 h6 ih ih'=>
  intro r hr
  have h1:rs[n]? = some r':=h1
  rw[h1] at hr;cases hr
  obtain⟨i1,i2,d,i3,i4⟩:=ih r' h1
  obtain⟨s1,s2,s3⟩:=pW (z:=cut'.getLastD 0) di.ne
  have hl:=(Aj.mp h2).1
  obtain⟨q,hq⟩:=u5 di'
  have hq:rs[n']? = some q:=hq
  obtain⟨j1,j2,d2,j3,j4⟩:=ih' q hq
  rw[part_of (G:=cS rs row) hq] at h4
  rw[Fd (Ki.mp h4)] at j3
  obtain⟨v,k1,k2⟩:=hf q (Be hq) _ j1 _ _ j3
  rw[rQ hq] at h5
  rw[h5,h6] at k1
  rw[s1,s2,s3,Bx,h2]
  refine⟨i1,by lia,?_⟩
  rw[show(some part).toList=[part] from rfl,rP]
  obtain⟨d',h7,h8⟩:=JU (rs:=rs) (row:=row) (T:=T) (part:=part) (n6 i3) (e:=cut'.getLastD 0) (u:=v) (by unfold iQ;rw[if_pos (show d6 rs part=true from h3)];exact n6 k1)
  exact⟨d',h7,by unfold dB;simp only;lia⟩
theorem J0{T:Tq}(I:IQ rs row T)(hf:pX rs row T){B:bV}(h:kR (cS rs row) B)(f:bA):eW T f=(aG B f).map fun v=>v.1.1:=by
 obtain⟨S,I0,st,P,cur,N,A,hq,rfl,_⟩:=h
 have le1:∀ {a b:aK},Le a b->a.1<=b.1:=fun h=>by unfold Le at h;lia
 cases e:aG st.best f with
 | none=>
  cases e2:eW T f with
  | none=>rfl
  | some v=>
   obtain⟨n,cut,k,di,p,rfl⟩:=I.so f v e2
   obtain⟨m,k',e3,_⟩:=IA A.inv A.ob A.ini hq di p
   rw[e] at e3;cases e3
 | some v=>
  obtain⟨m,n,cut⟩:=v
  obtain⟨di,p,rfl⟩:=rE A.ob e
  obtain⟨r,hr⟩:=u5 di
  have hr:rs[n]? = some r:=hr
  obtain⟨j1,j2,d,j3,j4⟩:=zbp hf di r hr
  rw[part_of (G:=cS rs row) hr] at p
  rw[Fd (Ki.mp p)] at j3
  obtain⟨v,k1,k2⟩:=hf r (Be hr) _ j1 _ _ j3
  have e2:eW T (cE (cS rs row) n cut)=some v:=by unfold eW cE;rw[rQ hr];exact k1
  obtain⟨n',cut',k,di',p',f'⟩:=I.so _ v e2
  obtain⟨m',k',e3,l3⟩:=IA A.inv A.ob A.ini hq di' p'
  rw[<-f',e] at e3
  cases e3
  have:=le1 l3
  rw[e2]
  show some v=some m.1
  congr 1
  simp only at this
  lia
end
def pY(rs:List aX):Nat->W->Str->List Str->Int->Prop
 | 0,_,_,_,_=>False
 | d + 1,w,X,ts,c=>∃ (n:Nat) (r:aX) (kids:List W) (ps:List (List Str×Int)),w=.tup [.int n,.tup kids]/\rs[n]? = some r/\r.name=X/\kids.length=r.parts.length/\ps.length=r.parts.length/\ts=(ps.map (·.1)).flatten/\c=r.cost + (ps.map (·.2)).sum/\
   ∀ (k:Nat) (t:Str) (p:List Str×Int),r.parts[k]? = some t->ps[k]? = some p->(d6 rs t=false->kids[k]? = some (W.str t)/\p=([t],0))/\(d6 rs t=true->∃ w',kids[k]? = some w'/\pY rs d w' t p.1 p.2)
def iE(row:List Str)(b e:Int):List Str:=(row.drop b.toNat).take (e - b).toNat
theorem zbq{row:List Str}{b m e:Int}(h1:0<=b)(h2:b<=m)(h3:m<=e):iE row b m ++ iE row m e=iE row b e:=by
 unfold iE
 rw[show(e - b).toNat=(m - b).toNat + (e - m).toNat by lia,List.take_add,List.drop_drop,show b.toNat + (m - b).toNat=m.toNat by lia]
theorem zbr{row:List Str}{b:Int}{t:Str}(h:row[b.toNat]? = some t)(hb:0<=b):iE row b (b + 1)=[t]:=by
 unfold iE
 rw[show(b + 1 - b).toNat=1 by lia]
 obtain⟨h1,h2⟩:=Aj.mp h
 rw[Fi h1,h2];rfl
theorem zbs{row:List Str}{b:Int}:iE row b b=[]:=by unfold iE;rw[Int.sub_self];rfl
theorem zbt(row:List Str):iE row 0 row.length=row:=by
 unfold iE
 rw[show((row.length:Int) - 0).toNat=row.length by lia]
 show(row.drop 0).take row.length=row
 rw[Mc,Bz]
theorem zbu{G:Sr}(hz:∀ t p e pr,(e,pr)∈G.steps t p->pr=0){B:bV}{n:Nat}{cut:List Int}{c:aK}(g:GI G B n cut c):∀ r,G.rs[n]? = some r->∃ cs:List Int,cs.length=cut.length - 1/\c.1=G.wt n + cs.sum/\
  ∀ k t,k + 1 < cut.length->r.parts[k]? = some t->(G.own t=true->∃ v,aG B (t,cut.getD k 0,cut.getD (k + 1) 0)=some v/\cs[k]? = some v.1.1)/\(G.own t=false->cs[k]? = some 0):=by
 induction g with
 | start h1 h2=>exact fun r _=>⟨[],rfl,by simp,fun k t h=>by simp at h⟩
 | @word r' cut c part e pr g h1 h2 h3 h4 ih=>
  intro r hr
  rw[h1] at hr;cases hr
  obtain⟨cs,i1,i2,i3⟩:=ih r' h1
  have hne:0 < cut.length:=Ft.mpr g.ne
  refine⟨cs ++ [0],by simp[i1];lia,by simp[i2,hz _ _ _ _ h4],fun k t hk ht=>?_⟩
  rw[Ak,Bk] at hk
  by_cases z:k + 1 < cut.length
  ·rw[j6 (by lia),j6 z,Ig (by lia)];exact i3 k t z ht
  ·obtain rfl:k=cut.length - 1:=by lia
   rw[h2] at ht;cases ht
   refine⟨fun z=>(by rw[h3] at z;cases z),fun _=>?_⟩
   rw[<-i1];simp
 | @name r' cut c m part e k' g h1 h2 h3 h4 ih=>
  intro r hr
  rw[h1] at hr;cases hr
  obtain⟨cs,i1,i2,i3⟩:=ih r' h1
  have hne:0 < cut.length:=Ft.mpr g.ne
  refine⟨cs ++ [m.1],by simp[i1];lia,by unfold dB;simp[i2];lia,fun k t hk ht=>?_⟩
  rw[Ak,Bk] at hk
  by_cases z:k + 1 < cut.length
  ·rw[j6 (by lia),j6 z,Ig (by lia)];exact i3 k t z ht
  ·obtain rfl:k=cut.length - 1:=by lia
   rw[h2] at ht;cases ht
   refine⟨fun _=>⟨(m,k'),?_,?_⟩,fun z=>(by rw[h3] at z;cases z)⟩
   ·rw[j6 (by lia),getD_last,show cut.length - 1 + 1=cut.length by lia,zA];exact h4
   ·rw[<-i1];simp
section
variable {rs:List aX}{row:List Str}{B:bV}
theorem zbv{n:Nat}{cut:List Int}{c:aK}(h:DI (cS rs row) n cut c):cut.headD 0<=cut.getLastD 0:=by
 induction h with
 | start _ _=>exact Fn _
 | @word n r cut c part e pr di h1 h2 h3 h4 ih=>
  obtain⟨s1,s2,_⟩:=pW (z:=e) di.ne
  rw[s1,s2,(pV.mp h4).2.2.1];lia
 | @name n n' r cut cut' c m part di h1 h2 h3 di' h4 h5 h6 ih ih'=>
  obtain⟨s1,s2,_⟩:=pW (z:=cut'.getLastD 0) di.ne
  rw[s1,s2];lia
structure rR(hs:List Str)(n:Nat)(f:bA):Prop where
 nm:f.1∈hs
 lo:0<=f.2.1
 le:f.2.1<=f.2.2
 hi:f.2.2<=n
theorem zJ(g:GQ rs){hs:List Str}(hh:∀ r∈rs,r.name∈hs)(h:kR (cS rs row) B){f:bA}(hf:f∈B.map (·.1)):rR hs row.length f:=by
 obtain⟨S,I0,st,P,cur,T,A,hq,rfl,_⟩:=h
 obtain⟨⟨m,n,cut⟩,hv⟩:=Ej.mp (gA.mpr hf)
 obtain⟨di,p,rfl⟩:=rE A.ob hv
 obtain⟨r,hr⟩:=u5 di
 have hr:rs[n]? = some r:=hr
 obtain⟨h1,_,_⟩:=pM (zB g) di
 have a1:=n5.mp (h1 _ (yJ di.ne))
 have a2:=n5.mp (h1 _ (pL di.ne))
 exact⟨by unfold cE;rw[rQ hr];exact hh r (Be hr),a1.1,zbv di,a2.2⟩
theorem J1{hs:List Str}(nd:(B.map (·.1)).Nodup)(hin:∀ f∈B.map (·.1),rR hs row.length f){pre post:bV}{e:En}(hb:B=pre ++ e :: post):(pre.filter (mW e.1)).length + 1<=hs.length:=by
 have h1:(((pre ++ [e]).filter (mW e.1)).map fun e=>e.1.1).Nodup:=by
  have hp:((pre ++ [e]).map (·.1)).Nodup:=by
   rw[hb,List.append_cons,Ax] at nd
   exact(Ef.mp nd).1
  rw[Hs,Km] at hp ⊢
  refine List.Pairwise.imp_of_mem (fun ha hb hne hn=>?_) (hp.filter _)
  have h1:=of_decide_eq_true (Es.mp ha).2
  have h2:=of_decide_eq_true (Es.mp hb).2
  exact hne (Lz hn (h1.trans h2.symm))
 have h2:=len_sub (b:=hs) h1 fun x hx=>by
  obtain⟨y,hy,rfl⟩:=Ba.mp hx
  have:=(Es.mp hy).1
  exact(hin y.1 (Dx (by rw[hb,List.append_cons];exact Bu _ this))).nm
 rw[Ab,List.filter_append,Ak] at h2
 have h3:([e].filter (mW e.1)).length=1:=by rw[Ed,if_pos (show mW e.1 e=true from decide_eq_true rfl)];rfl
 rw[h3] at h2
 exact h2
theorem zbw(g:GQ rs)(hB:kR (cS rs row) B):∀ (m:Nat) (pre post:bV) (e:En),B=pre ++ e :: post->u0 pre e.1<=m->pY rs m (iW (cS rs row) B e.1) e.1.1 (iE row e.1.2.1 e.1.2.2) e.2.1.1:=by
 obtain⟨hs,hl4,hh⟩:=g.hd
 have nd:=y9 hB
 have hin:∀ f∈B.map (·.1),rR hs row.length f:=fun f hf=>zJ g hh hB hf
 intro m
 induction m with
 | zero=>intro pre post e _ hm;unfold u0 at hm;lia
 | succ m ih=>
  intro pre post e hb hm
  obtain⟨r,E⟩:=JJ hB pre e post hb
  have gi:GI (cS rs row) pre e.2.2.1 e.2.2.2 e.2.1:=by
   obtain⟨S,I0,st,P,cur,T,A,hq,rfl,_⟩:=hB
   exact(A.ob.ord pre e post hb).1
  have hru:rs[e.2.2.1]? = some r:=E.ru
  have hrm:=Be hru
  obtain⟨cs,c1,c2,c3⟩:=zbu (fun t p e pr h=>(pV.mp h).2.2.2) gi r hru
  rw[show(cS rs row).wt e.2.2.1=r.cost from u3 hru] at c2
  obtain⟨cut,hcut⟩:∃ cut,cut=e.2.2.2:=⟨_,rfl⟩
  have hl:=E.ln
  have hfa:=E.fa
  rw[<-hcut] at hl hfa c1 c3
  rw[<-zbf,<-getD_last,hl,Nat.add_sub_cancel] at hfa
  rw[hl,Nat.add_sub_cancel] at c1
  have nm:∀ k t,r.parts[k]? = some t->d6 rs t=true->∃ pre' v post',pre=pre' ++ ((t,cut.getD k 0,cut.getD (k + 1) 0),v) :: post'/\cs[k]? = some v.1.1:=fun k t ht ho=>by
   have hk:=(Aj.mp ht).1
   obtain⟨v,hv,hc⟩:=(c3 k t (by lia) ht).1 ho
   obtain⟨a,b,h⟩:=nT hv
   exact⟨a,v,b,h,hc⟩
  have wd:∀ k t,r.parts[k]? = some t->d6 rs t=false->0<=cut.getD k 0/\row[(cut.getD k 0).toNat]? = some t/\cut.getD (k + 1) 0=cut.getD k 0 + 1:=fun k t ht ho=>by
   obtain⟨pr,h⟩:=E.pw k t ht ho
   rw[<-hcut] at h
   obtain⟨h1,h2,h3,_⟩:=pV.mp h
   exact⟨h1,h2,h3⟩
  have inn':∀ k t,r.parts[k]? = some t->d6 rs t=true->rR hs row.length (t,cut.getD k 0,cut.getD (k + 1) 0):=fun k t ht ho=>by
   obtain⟨a,v,b,h,_⟩:=nm k t ht ho
   exact hin _ (by rw[hb,h];simp)
  have mo:∀ k t,r.parts[k]? = some t->cut.getD k 0<=cut.getD (k + 1) 0:=fun k t ht=>by
   cases ho:d6 rs t with
   | true=>exact(inn' k t ht ho).le
   | false=>have:=(wd k t ht ho).2.2;lia
  have up:∀ j i,i + j<=r.parts.length->cut.getD i 0<=cut.getD (i + j) 0:=fun j=>by
   induction j with
   | zero=>exact fun i _=>Fn _
   | succ j ihj=>
    intro i hi
    exact Lj (ihj i (by lia)) (mo (i + j) _ (An (by lia)))
  have h00:0<=cut.getD 0 0:=by
   have:=(hin e.1 (by rw[hb];simp)).lo
   rw[hfa] at this;exact this
  have flt:∀ j,j<=r.parts.length->((Cw j).map fun k=>iE row (cut.getD k 0) (cut.getD (k + 1) 0)).flatten=iE row (cut.getD 0 0) (cut.getD j 0):=fun j=>by
   induction j with
   | zero=>intro _;rw[zbs];rfl
   | succ j ihj=>
    intro hj
    rw[List.range_succ,Ax,List.flatten_append,ihj (by lia)]
    have a1:=up j 0 (by lia)
    rw[Ib] at a1
    rw[Ay,Fv,Gj,List.flatten_nil,He]
    exact zbq h00 a1 (mo j _ (An (by lia)))
  refine⟨e.2.2.1,r,_,(Cw r.parts.length).map fun k=>(iE row (cut.getD k 0) (cut.getD (k + 1) 0),cs.getD k 0),JL hb E,hru,by rw[hfa],by unfold lQ;rw[Ab,List.length_zipIdx],by rw[Ab,Eg],?_,?_,fun k t p ht hp=>?_⟩
  ·rw[Bp]
   rw[hfa]
   exact(flt _ (Ai _)).symm
  ·rw[c2,Bp]
   congr 2
   refine List.ext_getElem? fun k=>?_
   rw[Av]
   by_cases hk:k < r.parts.length
   ·rw[Ii hk]
    show cs[k]? = some (cs.getD k 0)
    rw[Dn,An (by rw[c1];exact hk)];rfl
   ·rw[Em (by rw[c1];lia),Em (by rw[Eg];lia)];rfl
  ·have hk:=(Aj.mp ht).1
   rw[Av,Ii hk] at hp
   cases hp
   refine⟨fun ho=>⟨?_,?_⟩,fun ho=>?_⟩
   ·unfold lQ
    rw[Av,Mb,ht]
    show some (if d6 rs t=true then _ else _)=_
    rw[ho];rfl
   ·obtain⟨w1,w2,w3⟩:=wd k t ht ho
    have hc0:cs.getD k 0=0:=by rw[Dn,(c3 k t (by lia) ht).2 ho];rfl
    show(iE row (cut.getD k 0) (cut.getD (k + 1) 0),cs.getD k 0)=_
    rw[w3,zbr w2 w1,hc0]
   ·obtain⟨pre',v,post',hp,hc⟩:=nm k t ht ho
    have hb':B=pre' ++ ((t,cut.getD k 0,cut.getD (k + 1) 0),v) :: (post' ++ e :: post):=by rw[hb,hp,Gk];rfl
    refine⟨iW (cS rs row) B (t,cut.getD k 0,cut.getD (k + 1) 0),?_,?_⟩
    ·unfold lQ
     rw[Av,Mb,ht]
     show some (if d6 rs t=true then _ else _)=_
     rw[ho,<-hcut,Ib];rfl
    ·have:=ih pre' _ _ hb' ?_
     ·simp only at this ⊢
      have hc0:cs.getD k 0=v.1.1:=by rw[Dn,hc];rfl
      rw[hc0];exact this
     ·have l1:=up k 0 (by lia)
      have l2:=up (r.parts.length - (k + 1)) (k + 1) (by lia)
      rw[Ib] at l1
      rw[show k + 1 + (r.parts.length - (k + 1))=r.parts.length by lia] at l2
      have l3:=mo k t ht
      have c4:=J1 nd hin hb'
      unfold u0 at hm ⊢
      rw[hfa] at hm
      simp only at hm ⊢
      by_cases hs':cut.getD k 0=cut.getD 0 0/\cut.getD (k + 1) 0=cut.getD r.parts.length 0
      ·have hsame:mW (t,cut.getD k 0,cut.getD (k + 1) 0)=mW (r.name,cut.getD 0 0,cut.getD r.parts.length 0):=by unfold mW;rw[hs'.1,hs'.2]
       rw[hsame,hs'.1,hs'.2]
       rw[hp,List.filter_append,Ed,if_pos (by rw[<-hsame];exact decide_eq_true rfl),Ak,Bs] at hm
       lia
      ·lia
theorem zbx(g:GQ rs)(w:RQ row)(hB:kR (cS rs row) B){X:Str}{v:aK×Nat×List Int}(h:aG B (X,0,(row.length:Int))=some v):pY rs 40 (iW (cS rs row) B (X,0,(row.length:Int))) X row v.1.1:=by
 obtain⟨a,b,sp⟩:=nT h
 obtain⟨hs,hl4,hh⟩:=g.hd
 have hin:∀ f∈B.map (·.1),rR hs row.length f:=fun f hf=>zJ g hh hB hf
 have:=zbw g hB 40 a b _ sp (by
  have:=J1 (y9 hB) hin sp
  have h4:=w.few
  unfold u0
  simp only at this ⊢
  lia)
 simp only at this
 rw[zbt] at this
 exact this
end
end Rg
namespace L2
open PySem PySem.Spec PyProof.Rows
def frzAll(H:Hp)(ob:Addr->Obj)(l:List Addr):Hp:=fun b=>if b∈l then(H b).map (HO.frz (ob b)) else H b
section
variable {X:Cx}{pins:List (Addr×Obj)}{σ:St}{H H3:Hp}{s:Ag}
theorem Inv.frzAll(I:Inv X pins σ H s):∀ {l:List Addr},(∀ a∈l,∃ u,H a=some u/\IsDict u)->∃ ob,Inv X pins σ (frzAll H ob l) s
 | [],_=>⟨fun _=>default,by
   have:L2.frzAll H (fun _=>default) []=H:=funext fun b=>if_neg (by simp)
   rw[this];exact I⟩
 | a :: l,h=>by
  obtain⟨ob,I2⟩:=I.frzAll (l:=l) fun b hb=>h b (Au _ hb)
  by_cases ha:a∈l
  ·refine⟨ob,?_⟩
   have:L2.frzAll H ob (a :: l)=L2.frzAll H ob l:=funext fun b=>by
    unfold L2.frzAll
    by_cases hb:b∈l
    ·rw[if_pos hb,if_pos (Au _ hb)]
    ·rw[if_neg hb,if_neg (fun z=>(Ar.mp z).elim (fun e=>hb (by rw[e];exact ha)) hb)]
   rw[this];exact I2
  ·obtain⟨u,e,hd⟩:=h a (Bd ..)
   obtain⟨o,I3⟩:=I2.frzD (a:=a) (u:=u) (by unfold L2.frzAll;rw[if_neg ha];exact e) hd
   refine⟨fun b=>if b=a then o else ob b,?_⟩
   have:L2.frzAll H (fun b=>if b=a then o else ob b) (a :: l)=aS (L2.frzAll H ob l) a (.frz o u):=funext fun b=>by
    unfold L2.frzAll aS
    by_cases hb:b=a
    ·subst hb
     rw[if_pos (Bd ..),if_pos rfl,e]
     show some (HO.frz (if b=b then o else ob b) u)=_
     rw[if_pos rfl]
    ·rw[if_neg hb]
     dsimp only
     rw[if_neg hb]
     by_cases hl:b∈l
     ·rw[if_pos hl,if_pos (Au _ hl)]
     ·rw[if_neg hl,if_neg (fun z=>(Ar.mp z).elim hb hl)]
   rw[this];exact I3
def thawAll(H H3:Hp)(l:List Addr):Hp:=fun b=>if b∈l then H b else H3 b
theorem Inv.thawAll{pins0:List (Addr×Obj)}{σ0:St}{s0:Ag}{l:List Addr}(I0:Inv X pins0 σ0 H s0)(I:Inv X pins σ H3 s)(h:∀ a∈l,∃ o u,IsDict u/\H a=some u/\H3 a=some (.frz o u)):Inv X pins σ (thawAll H H3 l) s:=by
 have nn:∀ {b:Addr},H3 b=none->L2.thawAll H H3 l b=none:=fun {b} e=>by
  unfold L2.thawAll
  rw[if_neg (fun z=>by obtain⟨o,u,_,_,e2⟩:=h b z;rw[e] at e2;cases e2)];exact e
 have kk:∀ {b:Addr} {v:HO},H3 b=some v->(∀ o u,v≠.frz o u)->L2.thawAll H H3 l b=some v:=fun {b v} e ne=>by
  unfold L2.thawAll
  rw[if_neg (fun z=>by obtain⟨o,u,_,_,e2⟩:=h b z;rw[e] at e2;cases e2;exact ne _ _ rfl)];exact e
 have kt:∀ b xs,H3 b=some (.tup xs)->L2.thawAll H H3 l b=some (.tup xs):=fun b xs e=>kk e fun _ _ z=>nomatch z
 have ko:∀ b y,H3 b=some (.own y)->L2.thawAll H H3 l b=some (.own y):=fun b y e=>kk e fun _ _ z=>nomatch z
 refine⟨I.ok,I.os,I.bare,⟨I.base.keep,I.base.slot,fun b o e n hx=>nn (I.base.free b o e n hx),I.base.there,fun b xs e=>kt b xs (I.base.tups b xs e),fun b o u e=>?_,fun b ps e=>?_⟩,I.loc,I.cell,nn I.free,fun x c e=>nn (I.freeC x c e),fun p hp=>?_,fun a v e=>?_,I.len⟩
 ·have e3:=I.base.frzs b o u e
  unfold L2.thawAll
  rw[if_neg (fun z=>?_)]
  ·exact e3
  ·obtain⟨_,u',hd,e0,_⟩:=h b z
   rw[I0.base.frzs b o u e] at e0
   cases e0
   rcases hd with⟨_,z⟩ | ⟨_,z⟩ <;> cases z
 ·obtain⟨m,e1⟩:=I.base.tbls b ps e
  exact⟨m,kk e1 fun _ _ z=>nomatch z⟩
 ·obtain⟨h1,h2,h3⟩:=I.pin p hp
  exact⟨h1,nn h2,h3⟩
 ·unfold L2.thawAll at e
  split at e
  ·rename_i hl
   obtain⟨o,u,hd,e0,e3⟩:=h a hl
   rw[e0] at e
   cases e
   exact(I.hok a _ e3).2.stay (fun _ _ _ q=>q) (fun c q=>ko c a q) kt
  ·exact(I.hok a v e).stay (fun _ _ _ q=>q) (fun c q=>ko c a q) kt
end
end L2
namespace L3
open PySem PySem.Spec PyProof.Rows L2
section
variable {X:Cx}
def vD(i:Nat)(t:aJ):aJ:=fun D τ M=>∃ p kvs,τ[i]? = some (some (.ref p))/\M p=some (.dK kvs)/\t D (τ.set i (some (.fk kvs))) (del M p)
theorem J2{K:Ac}{H:Hp}{M:Mm}{σ:SV}{τ:S3}{i:Nat}{v:V}{w:W}(h:AS K H M σ τ)(e:σ[i]? = some (some v))(a:AV K H M v w):AS K H M σ (τ.set i (some w)):=by
 have:=h.set a i
 rwa [show σ.set i (some v)=σ from by
  apply List.ext_getElem?
  intro j
  rw[List.getElem?_set]
  split
  ·rename_i z;subst z
   split
   ·exact e.symm
   ·rename_i q;rw[Em (by omega)] at e;cases e
  ·rfl] at this
theorem J3{i:Nat}{st:Stmt}{t:aJ}(h:P3 X st t):P3 X st (vD i t):=by
 rintro pins s σ H E I ⟨τ,M,D,as,am,⟨p,kvs,e1,e2,h'⟩,k⟩
 obtain⟨ks,f,q⟩:=am _ _ e2
 obtain⟨o,I2⟩:=I.frzD f (.inl ⟨_,rfl⟩)
 obtain⟨g,am2,k2⟩:=y7 (o:=o) am e2 (.inl ⟨_,rfl⟩) f
 obtain⟨v,z1,z2⟩:=as.get e1
 obtain rfl:=z2.inv
 exact h pins s σ _ E I2 ⟨_,_,D,J2 (as.kp am k2) z1 (.fk cJ q.keys (q.vals.go g)),am2,h',k.kp k2⟩
abbrev oB:=List (aD×Int)
def gM(tb:oB):List (aD×W):=tb.map fun e=>(e.1,W.int e.2)
def pZ(tb:oB):List (aD×V):=tb.map fun e=>(e.1,V.int e.2)
theorem vE{K:Ac}{H:Hp}{M:Mm}:∀ tb:oB,bQ K H M aD (pZ tb) (gM tb)
 | []=>.nil
 | e :: tb=>.cons ⟨rfl,.int _⟩ (vE tb)
theorem zK{K:Ac}{H:Hp}{M:Mm}:∀ {ks:List (aD×V)} {tb:oB},bQ K H M aD ks (gM tb)->ks=pZ tb
 | [],[],_=>rfl
 | [],_ :: _,h=>nomatch h
 | _ :: _,[],h=>nomatch h
 | p :: ks,e :: tb,h=>by
  cases h with
  | cons r t=>
   rw[zK t]
   obtain⟨k,v⟩:=p
   obtain⟨r1,r2⟩:=r
   cases (show k=e.1 from r1)
   cases (show v=V.int e.2 from r2.inv)
   rfl
def J4(i:Nat)(te:aY):aY:=fun τ M R=>∃ (a:Addr) (ls:List (List aD×Addr×oB)),τ[i]? = some (some (.ref a))/\M a=some (.dT (ls.map fun x=>(x.1,.ref x.2.1)))/\(∀ x∈ls,M x.2.1=some (.dK (gM x.2.2)))/\
 te (τ.set i (some (.ft (ls.map fun x=>(x.1,.fk (gM x.2.2)))))) (fun _=>none) fun w M'=>∃ p tb,w=.ref p/\M' p=some (.dK (gM tb))/\lD (gM tb) M R
theorem J5{K:Ac}{H:Hp}{M:Mm}:∀ {ks:List (List aD×V)} {ls:List (List aD×Addr×oB)},bQ K H M (List aD) ks (ls.map fun x=>(x.1,.ref x.2.1))->ks=ls.map fun x=>(x.1,V.ref x.2.1)
 | [],[],_=>rfl
 | [],_ :: _,h=>nomatch h
 | _ :: _,[],h=>nomatch h
 | p :: ks,e :: ls,h=>by
  cases h with
  | cons r t=>
   rw[J5 t]
   obtain⟨k,v⟩:=p
   obtain⟨r1,r2⟩:=r
   cases (show k=e.1 from r1)
   cases (show v=V.ref e.2.1 from r2.inv)
   rfl
theorem J6{K:Ac}{H:Hp}{M:Mm}:∀ {ls:List (List aD×Addr×oB)},(∀ x∈ls,∃ o,H x.2.1=some (.frz o (.dK (pZ x.2.2))))->aM K H M ((ls.map fun x=>(x.1,V.ref x.2.1)).map Hc) ((ls.map fun x=>(x.1,W.fk (gM x.2.2))).map Hc)
 | [],_=>.nil
 | x :: ls,h=>.cons (by
   obtain⟨o,e⟩:=h x (Bd ..)
   exact .fk e (vE (K:=K) (H:=H) (M:=M) _).keys (vE _).vals) (J6 fun y hy=>h y (Au _ hy))
theorem zby{i:Nat}{e:Expr}{te:aY}(h:E3 X e te):E3 X e (J4 i te):=by
 rintro pins s σ H Q I ⟨τ,M,R,as,am,⟨a,ls,e1,e2,e3,h'⟩,k⟩
 obtain⟨ks,f,q⟩:=am _ _ e2
 obtain rfl:=J5 q
 have f3:∀ x∈ls,H x.2.1=some (.dK (pZ x.2.2)):=fun x hx=>by
  obtain⟨ks,f,q⟩:=am _ _ (e3 x hx)
  rw[f,zK q]
 let l:List Addr:=a :: ls.map fun x=>x.2.1
 have hm:∀ b∈l,∃ o,M b=some o:=fun b hb=>by
  rcases Ar.mp hb with rfl | hb
  ·exact⟨_,e2⟩
  ·obtain⟨x,hx,rfl⟩:=Ba.mp hb;exact⟨_,e3 x hx⟩
 have hd:∀ b∈l,∃ u,H b=some u/\IsDict u:=fun b hb=>by
  rcases Ar.mp hb with rfl | hb
  ·exact⟨_,f,.inr ⟨_,rfl⟩⟩
  ·obtain⟨x,hx,rfl⟩:=Ba.mp hb;exact⟨_,f3 x hx,.inl ⟨_,rfl⟩⟩
 obtain⟨ob,I2⟩:=I.frzAll hd
 have inn:∀ {b u},b∈l->H b=some u->frzAll H ob l b=some (.frz (ob b) u):=fun {b u} hb e=>by unfold frzAll;rw[if_pos hb,e];rfl
 have out:∀ {b},b∉l->frzAll H ob l b=H b:=fun {b} hb=>if_neg hb
 have go:Go H M (frzAll H ob l) (fun _=>none):=by
  have ne:∀ {b:Addr},M b=none->b∉l:=fun {b} e z=>by obtain⟨o,q⟩:=hm b z;rw[e] at q;cases q
  exact⟨fun b xs eb=>by rw[out (ne (am.noTup eb))];exact eb,fun b o u eb=>by rw[out (ne (am.noFrz eb))];exact eb,fun b o n eb=>⟨by rw[out (ne n)];exact eb,rfl⟩⟩
 have am2:AM X.K (frzAll H ob l) (fun _=>none):=fun b o z=>nomatch z
 obtain⟨v,z1,z2⟩:=as.get e1
 obtain rfl:=z2.inv
 have as2:AS X.K (frzAll H ob l) (fun _=>none) σ τ:=Paired.mapP as fun p r z w e=>by
  obtain⟨v,h1,h2⟩:=z w e
  exact⟨v,h1,h2.go go⟩
 have as3:=J2 as2 z1 (w:=.ft (ls.map fun x=>(x.1,.fk (gM x.2.2)))) (.ft (inn (Bd ..) f) (by rw[Bp,Bp];rfl) (J6 fun x hx=>⟨_,inn (Au _ (Ba.mpr ⟨x,hx,rfl⟩)) (f3 x hx)⟩))
 refine a7 (h pins s σ _ (fun v H3=>(∀ b o,frzAll H ob l b=some o->H3 b=some o)/\∃ p tb,v=.ref p/\frzAll H ob l p=none/\H3 p=some (.dK (pZ tb))/\lD (gM tb) M R) I2 ⟨_,_,_,as3,am2,h',fun v H' w M' k' am' av ⟨p,tb,ew,eM,r⟩=>?_⟩) fun v s1 ⟨x,H3,I3,r3,st,p,tb,ev,hp2,hp3,r⟩=>?_
 ·subst ew
  obtain rfl:=av.inv
  obtain⟨ks,f4,q4⟩:=am' _ _ eM
  refine⟨fun b o z=>(k'.fr b o rfl z).1,p,tb,rfl,?_,by rw[f4,zK q4],r⟩
  cases z:frzAll H ob l p with
  | none=>rfl
  | some o=>rw[(k'.fr p o rfl z).2] at eM;cases eM
 ·subst ev
  have I4:=I.thawAll I3 (l:=l) fun b hb=>by
   obtain⟨u,e,d⟩:=hd b hb
   exact⟨ob b,u,d,e,st b _ (inn hb e)⟩
  have stay:∀ b u,H b=some u->thawAll H H3 l b=some u:=fun b u e=>by
   unfold thawAll
   by_cases hb:b∈l
   ·rw[if_pos hb];exact e
   ·rw[if_neg hb];exact st b u (by rw[out hb];exact e)
  have pl:p∉l:=fun hb=>by
   obtain⟨u,e,_⟩:=hd p hb
   rw[inn hb e] at hp2;cases hp2
  have hp:H p=none:=by rw[<-out pl];exact hp2
  have Mp:M p=none:=am.nonM hp
  have hp4:thawAll H H3 l p=some (.dK (pZ tb)):=by unfold thawAll;rw[if_neg pl];exact hp3
  have ne:∀ {b u},H b=some u->b≠p:=fun {b u} e z=>by rw[z,hp] at e;cases e
  have go4:Go H M (thawAll H H3 l) (put M p (.dK (gM tb))):=⟨fun b xs e=>stay b _ e,fun b o u e=>stay b _ e,fun b o n e=>⟨stay b _ e,by rw[aN (ne e)];exact n⟩⟩
  refine⟨.ref p,_,I4,r3,k _ _ _ (put M p (.dK (gM tb))) ⟨go4.hl,fun b o e=>?_⟩ (fun b o e=>?_) (.ref p) (r p Mp)⟩
  ·obtain⟨u,q⟩:=(am b o e).has;exact⟨u,stay b u q⟩
  ·by_cases hb:b=p
   ·subst hb
    rw[aT] at e
    cases e
    exact⟨_,hp4,vE tb⟩
   ·rw[aN hb] at e
    obtain⟨u,q⟩:=(am b o e).has
    exact(am b o e).go go4 (by rw[stay b u q,q])
end
section
variable {X:Cx}{pos:Pos}{a b:Expr}{ta tb te:aY}
theorem cV{i:Nat}{x:Str}(hN:X.N.Nodup)(hi:X.N[i]? = some x:=by rfl)(hx:Loc X.env.scope x:=by first | exact Or.inl rfl | exact Or.inr rfl)(hf:X.fn x=true\/X.env.scope.names.lookup x=some .local:=by first | exact .inl rfl | exact .inr rfl | assumption):PG X (.Name x pos) (hU X.K (bH i)):=GH hN hi hx hf
theorem gN{i:Nat}{x:Str}(hi:X.N[i]? = some x:=by rfl)(hx:Loc X.env.scope x:=by first | exact Or.inl rfl | exact Or.inr rfl)(hN:X.N.Nodup:=by exact of_decide_eq_true (by kernel_rfl))(hf:X.fn x=true\/X.env.scope.names.lookup x=some .local:=by first | exact .inl rfl | exact .inr rfl | assumption):PG X (.Name x pos) (hU X.K (bH i)):=GH hN hi hx hf
theorem bB{i:Nat}{x:Str}{e:Expr}{pos':Pos}(hN:X.N.Nodup)(he:E3 X e te)(hi:X.N[i]? = some x:=by rfl)(hx:Loc X.env.scope x:=by first | exact Or.inl rfl | exact Or.inr rfl)(hs:Jf e (some (.Name x pos')) pos.line X.env=pure false:=by rfl)(hf:X.fn x=true\/X.env.scope.names.lookup x=some .local:=by first | exact .inl rfl | exact .inr rfl | assumption) :
  P3 X (.Assign [.Name x pos'] e pos) (a0 i te):=VO hN hi hx he hs hf
theorem mZ{op:CmpOp}{r:R3}(ho:bG X (Ce op) (cL X.K r))(ha:E3 X a ta)(hb:E3 X b tb)(hm:Hq op b=false:=by first | exact DS _ | with_unfolding_all rfl):E3 X (.Compare a [op] [b] pos) (aE r ta tb):=UU ho ha hb hm
theorem cA{op:CmpOp}{r:R3}(ho:bG X (Ce op) (cL X.K r))(ha:E3 X a ta)(hb:E3 X b tb)(hm:Hq op b=false:=by first | exact DS _ | with_unfolding_all rfl):T3 X (.Compare a [op] [b] pos) (bK (aE r ta tb)):=UW ho ha hb hm
variable {tg iter elt:Expr}{ifs:List Expr}{sc:Jb}{wi:hX}{g:e6}{tt:dR}
theorem zL{i:Nat}{x:Str}{px spos:Pos}(hN:X.N.Nodup)(N':List Str)(js:List (Option Nat))(hi:PI X tg iter (gR X.K wi))
  (hg:∀ B,PG (dQ X sc N' B) tg (hU X.K g)) (ht:∀ B,iT (dQ X sc N' B) ifs (kH X.K tt)) (he:∀ B,PE (dQ X sc N' B) elt (up X.K te)) (hi0:X.N[i]? = some x:=by rfl) (hx:Loc X.env.scope x:=by first | exact Or.inl rfl | exact Or.inr rfl)
  (S0:nF N' sc X.env.scope=true:=by kernel_rfl) (hj:fE N' X.N sc js N'=true:=by kernel_rfl) (hc:X.calm=true:=by rfl) (hsw:Jf (.ListComp elt [⟨tg,iter,ifs,0⟩] sc pos) (some (.Name x px)) spos.line X.env=pure true:=by rfl)
  (hf:X.fn x=true\/X.env.scope.names.lookup x=some .local:=by first | exact .inl rfl | exact .inr rfl | assumption)
  (hs:∀ x,Gq iter X.env x=pure x:=by intro _;rfl):P3 X (.Assign [.Name x px] (.ListComp elt [⟨tg,iter,ifs,0⟩] sc pos) spos) (a0 i (dS (gE wi g tt te js))):=V8 hN hi0 hx N' js hi hg ht he S0 hj hc hsw hf hs
end
theorem cD{N ps:List Str}{sc:Jb}(a:sc.kind=.function:=by rfl)(b:sc.isCoroutine=false:=by rfl)(c:sc.isGenerator=false:=by rfl)(d:N.Nodup:=by decide +kernel)(e:N.take ps.length=ps:=by rfl)(f:∀ x∈ps,sc.names.lookup x=some .local\/sc.names.lookup x=some .cell:=by decide +kernel)(g:∀ y∈sc.names,y.2≠.free:=by decide +kernel):oM N ps sc:=⟨a,b,c,d,e,f,g⟩
theorem J7{C:List Ae->Prop}(h:C [])(us:List Ae)(e:us.length=0):C us:=by rw[Kv.mp e];exact h
theorem rS{C:List Ae->Prop}{n:Nat}(k:∀ a us,us.length=n->C (a :: us)):∀ us:List Ae,us.length=n + 1->C us
 | a :: l,e=>k a l (Nat.succ.inj e)
theorem vF{C:List Ae->Prop}(h:∀ a,C [a]):∀ us:List Ae,us.length=1->C us:=rS fun a=>J7 (h a)
theorem vG{C:List Ae->Prop}(h:∀ a b,C [a,b]):∀ us:List Ae,us.length=2->C us:=rS fun a=>vF (h a)
theorem vH{C:List Ae->Prop}(h:∀ a b c,C [a,b,c]):∀ us:List Ae,us.length=3->C us:=rS fun a=>vG (h a)
theorem vI{C:List Ae->Prop}(h:∀ a b c d,C [a,b,c,d]):∀ us:List Ae,us.length=4->C us:=rS fun a=>vH (h a)
theorem zM{C:List Ae->Prop}(h:∀ a b c d e,C [a,b,c,d,e]):∀ us:List Ae,us.length=5->C us:=rS fun a=>vI (h a)
def zN(x q:Str)(st:Stmt)(ps:List Str):Prop:=∀ (kV doc pm:Ae) (an:Option Addr) (cdv ct:Ae) (us:List Ae),us.length=ps.length->bindArgs (El x q (iX st) (gW st) (eY st) .none kV doc pm an cdv ct) ⟨us,[]⟩=pure (ps.zip us)
section
variable {K:Ac}{mg:Str->Option Ae}{h:Heap}{x q:Str}{st:Stmt}{C f:Addr}{ps:List Str}{an:Option Addr}{kV doc pm cdv ct:Ae}
theorem dF(X:K.In h)(G:h.Ns Dz mg)(hb:zN x x st ps:=by first | exact fun _ _ _ _ _ _=>vF fun _=>rfl | exact fun _ _ _ _ _ _=>vG fun _ _=>rfl | exact fun _ _ _ _ _ _=>vH fun _ _ _=>rfl | exact fun _ _ _ _ _ _=>vI fun _ _ _ _=>rfl | exact fun _ _ _ _ _ _=>zM fun _ _ _ _ _=>rfl | exact fun _ _ _ _ _ _=>ar6 fun _ _ _ _ _ _=>rfl | exact fun _ _ _ _ _ _=>J7 rfl)(n:PySem.W.nsIn K Dz x=some (some (.ref f)):=by kernel_rfl)(l:K.lookup f=some ⟨.type "function",none,.func (El x x (iX st) (gW st) (eY st) .none kV doc pm an cdv ct),#[]⟩:=by kernel_rfl)(c:Iq K cdv x=true:=by kernel_rfl)(k:Ea K (.ref f)=true:=by kernel_rfl):Df K mg x st ps f (El x x (iX st) (gW st) (eY st) .none kV doc pm an cdv ct):=⟨oP l c k,Ly X G n,(oP l c k).binds hb⟩
theorem dM(hb:zN x q st ps:=by first | exact fun _ _ _ _ _ _=>vF fun _=>rfl | exact fun _ _ _ _ _ _=>vG fun _ _=>rfl | exact fun _ _ _ _ _ _=>vH fun _ _ _=>rfl | exact fun _ _ _ _ _ _=>vI fun _ _ _ _=>rfl | exact fun _ _ _ _ _ _=>zM fun _ _ _ _ _=>rfl)(a:Cd K (.ref C) x=some (some (.ref f)):=by kernel_rfl)(n:Ks K (.ref f)=true:=by kernel_rfl)(l:K.lookup f=some ⟨.type "function",none,.func (El x q (iX st) (gW st) (eY st) .none kV doc pm an cdv ct),#[]⟩:=by kernel_rfl)(c:Iq K cdv q=true:=by kernel_rfl)(k:Ea K (.ref f)=true:=by kernel_rfl):Dm K C x q st ps f (El x q (iX st) (gW st) (eY st) .none kV doc pm an cdv ct):=⟨oP l c k,⟨a,n,k⟩,(oP l c k).binds hb⟩
theorem dI(hb:zN x q st ps:=by first | exact fun _ _ _ _ _ _=>vF fun _=>rfl | exact fun _ _ _ _ _ _=>vG fun _ _=>rfl | exact fun _ _ _ _ _ _=>vH fun _ _ _=>rfl | exact fun _ _ _ _ _ _=>vI fun _ _ _ _=>rfl | exact fun _ _ _ _ _ _=>zM fun _ _ _ _ _=>rfl)(m:PySem.W.makesIn K C=true:=by kernel_rfl)(a:Cd K (.ref C) "__init__" = some (some (.ref f)):=by kernel_rfl)(n:Ks K (.ref f)=true:=by kernel_rfl)(d:Ea K (.ref C)=true:=by kernel_rfl)(l:K.lookup f=some ⟨.type "function",none,.func (El x q (iX st) (gW st) (eY st) .none kV doc pm an cdv ct),#[]⟩:=by kernel_rfl)(c:Iq K cdv q=true:=by kernel_rfl)(k:Ea K (.ref f)=true:=by kernel_rfl):Di K C x q st ps f (El x q (iX st) (gW st) (eY st) .none kV doc pm an cdv ct):=⟨oP l c k,⟨m,a,n,d⟩,(oP l c k).binds hb⟩
variable {P:Bq}{w:Cj}{base:Heap}{fd:Bl}{N:List Str}{k:Nat}{sp:bJ}{rd:aJ}
theorem cF(P:Bq)(w:Cj)(mg:Str->Option Ae)(base:Heap)(k:Nat)(F:kF K x q st f fd)(_:Binds K fd ps [])(S:oM N ps (eY st))(len:∀ ws M R,sp ws M R->ws.length=ps.length)(good:∀ {ws M R},sp ws M R->rd (bT R) (b8 N ws) M)
  (tm:∀ {cdv:Ae} {A:Co} {outer:List Env} {s:Ag} {H:Hp} {E:XK},cH k (A.deeper (Lf q (eY st) s.heap.objs.size f cdv))->(A.deeper (Lf q (eY st) s.heap.objs.size f cdv)).units + 1 < Fm->N.Nodup->kM (lW fN P w K mg base N q (eY st) f cdv A outer s H E).nox (gW st) rd):eJ P w K mg base fN (k + 1) f fd ps (f6 K sp):=
 GS F S len fun _ _ _ _ _ _ _ _ _ hr h=>⟨rd,tm hr (SJ hr) S.nd,good h⟩
end
section
variable {X:Cx}{pos p:Pos}{x:Str}{st:Stmt}{e:Expr}{es:List Expr}{t:dA}{k j:Nat}{f:Addr}{fd:Bl}{ps:List Str}{sp:bJ}
theorem bW(F:eJ X.prog X.w X.K X.mg X.base fN k f fd ps (f6 X.K sp))(D:Df X.K X.mg x st ps f fd)(hr:cH j X.A)(ha:A3 X (e :: es) t)(hj:k<=j:=by decide)(hg:Gl X x:=by rfl)(hdb:(x == ("__debug__" : Str))=false:=by decide)(he:Bi (e :: es) X.env=(false,eval e X.env) :: Bi es X.env:=by rfl)(hpl:(Gu pos (Bi es X.env)).any (·.1)=false:=by rfl) :
  E3 X (.Call (.Name x p) (e :: es) [] pos) (bN sp t):=FU F (hr.mono hj) hg D.at_ D.fn.kp D.bi ha hdb he hpl
end
end L3
namespace L2
open PySem PySem.Spec PyProof.Rows
section
variable {X:Cx}
def zbz(tk tv:TE):TE:=fun σ H Q=>∀ p,H p=none->sR [(tk,tv)] σ (aS H p (.dT [])) fun ps H2=>∃ (b:Addr) (y:V) (k:List aD),ps=[(.ref b,y)]/\H2 p=some (.dT [])/\H2 b=some (.tup (k.map kV))/\Q (.ref p) (aS H2 p (.dT [(k,y)]))
theorem zbA{k v:Expr}{tk tv:TE}{pos:Pos}(hu:X.A.units + 1 < Fm)(hk:PE X k tk)(hv:PE X v tv):PE X (.Dict [some k] [v] pos) (zbz tk tv):=by
 intro pins s σ H Q I q
 have hn:=I.hok.fresh (Ai s.heap.objs.size)
 have I1:=I.laid (a:=s.heap.objs.size) (o:=.dT []) (h':=s.heap.push {cls:=.type "dict",data:=.dict #[]}) (t':=s.toks) (fun _ _ q=>Af _ q) (Ai _) (EO s.heap I.big)
 refine wpAny_Dict_any rfl rfl (fun h=>nomatch h) (by decide:1<=15) (a7 (ES hk hv ER pins _ σ _ _ I1 (q _ hn)) fun ws s2 ⟨ps,H2,I2,rel,b,y,k,ep,e,eb,q2⟩=>?_)
 subst ep
 cases rel with
 | @cons a1 b1 _ _ r1 r2=>
  cases r2
  obtain⟨u1,u2⟩:=b1
  obtain⟨ru,rv⟩:=r1
  cases (show u1=Value.ref b from ru)
  obtain⟨z,hd,xs,rel,dd⟩:=sQ I2.hok e
  cases rel
  unfold storeAll
  rw[Li]
  refine Aa (Aa (wpAny_dictSet_heap (hsz:=Bv _) (Nat.lt_of_succ_lt hu) (jP I2.hok eb) dd fun h' dd' hs=>Ah ?_))
  show Bc _ _ (pure PUnit.unit) _ _ _
  refine Ah ⟨.ref _,_,?_,rfl,q2⟩
  obtain⟨q,es,ep,hq,h2,h3,h4,_,h5⟩:=dd'
  refine oO I2 (by rw[e];exact True.intro) hs ⟨q,hq⟩ ⟨show 1<=Am by decide,hd,_,((show KT H2 [] [] from .nil).put k eb rv).keeps fun c ys ec=>?_,q,es,ep,hq,h2,h3,h4,h5⟩
  rw[bF (r9 ec e (fun z=>nomatch z))]
  exact ec
end
end L2
namespace L3
open PySem PySem.Spec PyProof.Rows L2
section
variable {X:Cx}{a b:Expr}{ta tb:aY}{pos p:Pos}
def J8(ta tb:aY):aY:=fun τ M R=>∀ p,M p=none->ta τ (put M p (.dT [])) fun x M1=>tb τ M1 fun y M2=>M2 p=some (.dT [])/\∃ k:List aD,x=.tup (k.map wK)/\R (.ref p) (put M2 p (.dT [(k,y)]))
theorem zbB(hu:X.A.units + 1 < Fm)(ha:E3 X a ta)(hb:E3 X b tb):E3 X (.Dict [some a] [b] pos) (J8 ta tb):=
 (zbA hu ha hb).weak fun σ H Q z0=>z0.el fun τ M R as am h k=>fun p hp=>by
  obtain⟨am0,k0⟩:=am.laid (o:=.dT []) (u:=.dT []) hp ⟨[],cJ,.nil⟩
  refine⟨τ,_,_,as.kp am k0,am0,h p (am.nonM hp),fun x H1 wx M1 k1 am1 ax h1=>⟨τ,M1,_,(as.kp am k0).kp am0 k1,am1,h1,fun y H2 wy M2 k2 am2 ay ⟨e,kk,ex,r⟩=>?_⟩⟩
  subst ex
  obtain⟨ks,f,q⟩:=am2 _ _ e
  cases q
  have ax2:=ax.kp am1 k2
  exact ax2.tupE fun c xs ec fc qc=>by
   obtain⟨am3,k3⟩:=am2.write (o:=.dT [(kk,wy)]) (u:=.dT [(kk,y)]) e ⟨_,cJ,.cons ⟨rfl,ay.wr am2 e⟩ .nil⟩
   exact⟨c,y,kk,by rw[ec],f,by rw[<-qc.keys];exact fc,k _ _ _ _ (((k0.trans k1).trans k2).trans k3) am3 (.ref _) r⟩
variable {x:Str}{e:Expr}{es:List Expr}{t:dA}{k j i:Nat}{f:Addr}{fd:Bl}{ps:List Str}{sp:bJ}
def zP(i:Nat)(f:Addr)(sp:bJ)(t:dA):aY:=fun τ M R=>τ[i]? = some (some (.ref f))/\bN sp t τ M R
theorem J9{g:Addr}(ef:g=f)(F:eJ X.prog X.w X.K X.mg X.base fN k f fd ps (f6 X.K sp))(hr:cH j X.A)(hk:Ea X.K (.ref f)=true)(hb:Binds X.K fd ps [])(ha:A3 X (e :: es) t)(hj:k<=j:=by decide)(hN:X.N[i]? = some x:=by rfl)(hv:sC X.env.scope x:=by first | exact Or.inl rfl | exact Or.inr (Or.inl rfl) | exact Or.inr (Or.inr rfl))(hd:(x == ("__debug__" : Str))=false:=by decide)
  (hcd:(x == ("__classdict__" : Str))=false:=by decide) (he:Bi (e :: es) X.env=(false,eval e X.env) :: Bi es X.env:=by rfl) (hpl:(Gu pos (Bi es X.env)).any (·.1)=false:=by rfl) :
  E3 X (.Call (.Name x p) (e :: es) [] pos) (zP i g sp t):=by
 subst ef
 intro pins s σ H Q I ⟨τ,M,R,as,am,⟨h1,h⟩,k'⟩
 have gc:=FT (K:=X.K) ⟨τ,M,R,as,am,h,k'⟩
 obtain⟨v,e1,av⟩:=as.get h1
 refine Dv (a7 (DL (pos:=p) hN hv hd hcd pins s σ H (fun w H'=>w=.ref g/\H'=H) I ⟨v,e1,av.inv,rfl⟩) fun u s1 ⟨w,H1,I1,r1,ew,eH⟩=>?_)
 subst ew eH
 cases r1
 exact Ju (h₀:=X.base) I1.ok.mod.kin hk (a7 (ha pos pins s1 σ H1 _ I1 gc) fun us s2 ⟨vs,H2,I2,r,q⟩=>⟨I2.kIn,qE F (hr.mono hj) hb .nil nD I2 r q⟩) he hpl
theorem KA{g f:Addr}{fd:Bl}{ps:List Str}{x:Str}{pos:Pos}{st:Stmt}(ef:g=f)(D:Df X.K X.mg x st ps f fd)(hg:Gl X x:=by rfl)(hd:(x == ("__debug__" : Str))=false:=by decide):E3 X (.Name x pos) (vC (.ref g)):=by
 subst ef
 exact UT (y:=.ref g) hg D.at_ rfl (fun _ _=>.ref _) hd
end
end L3
namespace PySem
namespace Et
open PyProof.Rows L2 PySem.Spec
section
variable {prog:Bq}{w:Cj}{A:Co}{E:Ae->Ag->Prop}{s:Ag}
theorem draws(hh:A.handled=none)(it l:Addr)(hne:l≠it)(items:Array Ae):Draws prog w A it [it,l] items.size (fun i v=>items[i]? = some v) (fun i h=>h.IsTupleIter it l i/\h.IsTuple l items) where
 live:=fun _ _ st=>let ⟨o,ho,_⟩:=st.1;⟨o,ho⟩
 frame:=fun k h h' st hk=>(Zt.side_tuple (prog:=prog) (w:=w) it l hne items).keep k h h' st fun c hc o e=>hk c (by rcases hc with rfl | rfl <;> simp) o e
 item:=fun i s Q E hi st hQ=>(Zt.side_tuple it l hne items).item A E s i items[i] Q st (by simp[hi]) fun h' a b=>hQ _ h' s.toks (by simp[hi]) a b
 done:=fun s Q E st hE=>(Zt.side_tuple it l hne items).stop A E s _ Q hh st (by simp) hE
theorem meets_new(l:Addr)(items:Array Ae)(n:Nat)(dct:Option Addr)(sl:Array (Option Ae)) :
  Meets (Gx.«enumerate.__new__» ⟨[.type "enumerate",.ref l],[]⟩) (fun _ R s=>s.heap.get? l=some {cls:=.type "tuple",dict:=dct,data:=.seq items n,slots:=sl}/\
   R (.ok (.ret (.ref (s.heap.push {cls:=.type "tuple_iterator",data:=.fields #[.ref l,.int 0 0]}).objs.size)))
    {s with heap:=(s.heap.push {cls:=.type "tuple_iterator",data:=.fields #[.ref l,.int 0 0]}).push {cls:=.type "enumerate",data:=.fields #[.none,.bool false,.ref s.heap.objs.size,Hj 0,.none,.none]}}):=
 .of_wp fun prog w A R s h=>by
  obtain⟨hp,g,d,tk,os⟩:=s;obtain⟨hl,h⟩:=h
  have hsub:=sub_enumerate
  have hL:Nd (Shared.heap ⟨hp,g,d,tk,os⟩) l items:=⟨_,hl,rfl,n,rfl⟩
  wp_walk using Ia hl
  refine wpAny_stack_any fun st=>Ah ?_
  split
  ·rename_i c _ _ _ _ _
   cases (c == Value.type "enumerate")
   ·wp_walk using Ia hl,Hi hL
    exact⟨_,rfl,h⟩
   ·wp_walk using Ia hl,Hi hL
    exact⟨_,rfl,h⟩
  ·wp_walk using Ia hl,Hi hL
   exact⟨_,rfl,h⟩
theorem call_new{l:Addr}{items:Array Ae}{Q:Ae->Ag->Prop}(hL:s.heap.IsTuple l items)
  (h:∀ h',IsEnum h' (s.heap.objs.size + 1) s.heap.objs.size 0 .none->h'.IsTupleIter s.heap.objs.size l 0->(∀ b o,s.heap.get? b=some o->h'.get? b=some o)->Q (.ref (s.heap.objs.size + 1)) {s with heap:=h'}) :
  Bc (Bn prog w) A (call (.type "enumerate") [.ref l]) Q E s:=by
 obtain⟨⟨c,dct,dt,sl⟩,hl,hc,n,hd⟩:=hL
 cases (show c=.type "tuple" from hc)
 cases (show dt=.seq items n from hd)
 refine callType_new F.called_enumerate (by decide) (F.typeCall_enumerate_1 _) (F.newCall_enumerate_1 _) (fun obj=>F.args_object_init_2 obj _) F.entry_enumerate_new (meets_new l items n dct sl) ⟨hl,?_⟩
 have hz:(s.heap.push {cls:=.type "tuple_iterator",data:=.fields #[.ref l,.int 0 0]}).objs.size=s.heap.objs.size + 1:=Du ..
 show _/\_
 rw[hz]
 have he:IsEnum ((s.heap.push {cls:=.type "tuple_iterator",data:=.fields #[.ref l,.int 0 0]}).push {cls:=.type "enumerate",data:=.fields #[.none,.bool false,.ref s.heap.objs.size,Hj 0,.none,.none]}) (s.heap.objs.size + 1) s.heap.objs.size 0 .none:=by
  have:=Az (s.heap.push {cls:=.type "tuple_iterator",data:=.fields #[.ref l,.int 0 0]}) (o:={cls:=.type "enumerate",data:=.fields #[.none,.bool false,.ref s.heap.objs.size,Hj 0,.none,.none]}) rfl
  rw[hz] at this;exact this
 exact⟨⟨_,he,rfl⟩,h _ he ⟨_,Af _ (Az _ rfl),rfl,rfl⟩ fun b o x=>Af _ (Af _ x)⟩
end
end Et
end PySem
namespace L2
open PySem PySem.Spec PyProof.Rows
section
variable {X:Cx}
def KC(K:Ac)(a:Addr)(xs:List V):It:=
 ⟨fun i H=>bL K H a xs/\i < xs.length,
   fun i H x H'=>∃ p u,xs[i]? = some u/\H p=none/\x=.ref p/\H'=aS H p (.tup [.int (i:Nat),u]),
   fun i H=>bL K H a xs/\i=xs.length⟩
theorem zbC{P:Bq}{w:Cj}{K:Ac}{es:List Expr}{kx:Nat}{px:Pos}(a e it:Addr)(xs:List V)(hne:e≠it)(hea:e≠a)(hia:a≠it) :
  i0 P w K (.Tuple es kx px) (KC K a xs) [e,it] e (fun i h=>(∃ old,IsEnum h e it (i:Nat) old)/\h.IsTupleIter it a i) where
 mem:=by simp
 obj:=fun i h st c hc=>by
  obtain⟨⟨old,h1⟩,⟨o4,h4,_,h4d⟩⟩:=st
  simp only[Ar,Cq,or_false] at hc
  rcases hc with rfl | rfl
  ·exact⟨_,h1,fun v q=>by cases q⟩
  ·exact⟨_,h4,fun v q=>by rw[h4d] at q;cases q⟩
 keep:=fun i h h' st k=>by
  obtain⟨⟨old,h1⟩,⟨o4,h4,r4⟩⟩:=st
  exact⟨⟨old,k e (by simp) _ h1⟩,⟨o4,k it (by simp) _ h4,r4⟩⟩
 item:=by
  intro X hP hw hK hc i pins s σ H E I hf st hg
  subst hP hw hK
  obtain⟨⟨old,h1⟩,h4⟩:=st
  obtain⟨hqa,hi⟩:=hg
  obtain⟨its,rv,pl,hz⟩:=I.tuple hqa
  obtain⟨u,hu,ru⟩:=rv.get (An hi)
  have hl:=rv.length
  refine wpAny_pyNext_enum_itemD (Et.draws (A:=X.A.in1) (I.ok.hd hc) it a hia its.toArray) h1 ⟨h4,pl⟩ (by simp;lia) hne (by simp[hne,hea]) fun x h' tk hx a1 a2 a3 a4 hk=>?_
  have ex:x=u:=by
   have hx:its.toArray[i]? = some x:=hx
   rw[List.getElem?_toArray,hu] at hx
   exact(Ci hx).symm
  subst ex
  refine⟨_,rfl,wpAny_letOwnedTupleGo_enum a1 fun h'' e' sb=>?_⟩
  have hfr:H s.heap.objs.size=none:=I.hok.fresh (Ai _)
  have lte:e < s.heap.objs.size:=Ap h1
  have lti:it < s.heap.objs.size:=by obtain⟨_,q,_⟩:=h4;exact Ap q
  have keep2:∀ q o,q∉[e,it]->s.heap.get? q=some o->h''.get? q=some o:=fun q o hq eq=>by
   simp only[Ar,Cq,or_false,not_or] at hq
   exact(sb.2 q hq.1).trans (hk q o hq.1 hq.2 eq)
  have hp2:h''.get? s.heap.objs.size=some {cls:=.type "tuple",data:=.seq [.int (i:Nat) tk,x].toArray}:=(sb.2 _ (Ct lte)).trans a3
  have I1:Inv X pins σ (aS H s.heap.objs.size (.tup [.int (i:Nat),xs[i]])) {s with heap:=h'',toks:=tk + 1}:=I.laidT (its:=[.int (i:Nat) tk,x]) hf keep2 (by show 2<=Am;decide) (.cons ⟨_,rfl⟩ (.cons ru .nil)) hp2
  refine⟨.ref s.heap.objs.size,_,I1,rfl,⟨s.heap.objs.size,xs[i],An hi,hfr,rfl,rfl⟩,⟨⟨x,by rw[Int.natCast_add];exact e'⟩,a2.1.extBut sb.extBut hne.symm⟩,fun q hq=>?_⟩
  rw[bF]
  ·exact(hf q hq).1
  ·intro eq
   subst eq
   simp only[Ar,Cq,or_false] at hq
   rcases hq with q | q
   ·exact Ct lte q
   ·exact Ct lti q
 done:=by
  intro X hP hw hK hc i pins s σ H E I hf st hg
  subst hP hw hK
  obtain⟨⟨old,h1⟩,h4⟩:=st
  obtain⟨hqa,rfl⟩:=hg
  obtain⟨its,rv,pl,hz⟩:=I.tuple hqa
  have l1:=rv.length
  refine wpAny_pyNext_enum_endD (Et.draws (A:=X.A.in1) (I.ok.hd hc) it a hia its.toArray) h1 (show Heap.IsTupleIter s.heap it a its.toArray.size/\Nd s.heap a its.toArray from⟨by rw[Bb,<-l1];exact h4,pl⟩) fun h' hk=>⟨rfl,?_⟩
  exact I.turnedT (tk:=s.toks) hf fun q o hq eq=>hk q o (fun z=>hq (by simp[z])) eq
 self:=fun _ _ _ _ _ st h=>by
  obtain⟨⟨old,h1⟩,_⟩:=st
  exact Lb h1 h
def zbD(K:Ac)(ta:TA):TI:=fun σ H R=>ta σ H fun vs H1=>∃ a xs,vs=[.ref a]/\bL K H1 a xs/\R (KC K a xs) H1
theorem zbE{a:Expr}{ta:TA}{p pos:Pos}{es:List Expr}{kx:Nat}{px:Pos}(hg:Gl X "enumerate")(hm:X.mg "enumerate" = none)(ha:PA X [a] ta)(hs:Bi [a] X.env=[(false,eval a X.env)]:=by rfl) :
  PI X (.Tuple es kx px) (.Call (.Name "enumerate" p) [a] [] pos) (zbD X.K ta):=by
 intro pins s σ H R I h
 refine Call_ (iY I hg hm boot_enumerate (Ck (a7 (ha pos pins s σ H _ I h) fun us s1 ⟨vs,H1,I1,r1,q1⟩=>?_) hs rfl))
 obtain⟨a,xs,rfl,hqa,q⟩:=q1
 obtain⟨u,rfl,ru⟩:=vals1 r1
 cases ru
 obtain⟨its,rv1,pl,hz⟩:=I1.tuple hqa
 have la:a < s1.heap.objs.size:=by obtain⟨o,e,_⟩:=pl;exact Ap e
 refine Et.call_new pl fun h' g1 g2 k=>?_
 refine Lb g1 ?_
 refine⟨s1.heap.objs.size + 1,[s1.heap.objs.size + 1,s1.heap.objs.size],_,_,H1,rfl,I1.kept (t':=s1.toks) k,zbC a _ _ xs (sZ 1 (by decide)) (Bf (Bg (Nat.lt_succ_of_lt la))) (Bg la),⟨⟨_,g1⟩,g2⟩,fun q hq=>?_,q⟩
 have hge:s1.heap.objs.size<=q:=by
  simp only[Ar,Cq,or_false] at hq
  rcases hq with e | e
  ·rw[e];exact FC 1
  ·rw[e];exact Ai _
 exact I1.fpOk hge (I1.hok.fresh hge)
end
end L2
namespace L3
open PySem PySem.Spec PyProof.Rows L2
section
variable {X:Cx}{a:Expr}
def zQ(ta:dA):hX:=fun τ M R=>ta τ M fun ws M1=>∃ zs,ws=[.tup zs]/\R (iB 0 zs) (fun _=>True) M1
theorem KD{tA:dA}{p pos:Pos}{es:List Expr}{kx:Nat}{px:Pos}(hg:Gl X "enumerate")(hm:X.mg "enumerate" = none)(ha:A3 X [a] tA)(hs:Bi [a] X.env=[(false,eval a X.env)]:=by rfl):PI X (.Tuple es kx px) (.Call (.Name "enumerate" p) [a] [] pos) (gR X.K (zQ tA)):=
 (zbE hg hm ha hs).weak fun σ H R' z0=>z0.el fun τ M R as am h k=>⟨τ,M,_,as,am,h,fun vs H1 ws M1 k1 am1 ax ⟨zs,ew,r⟩=>by
  subst ew
  obtain⟨v,rfl,av⟩:=ax.one
  exact av.tupE fun b xs eb fb qb=>⟨b,xs,by rw[eb],bL.of fb,k _ _ _ _ _ k1 am1 (by
   have st:∀ H M,Kp H1 M1 H M->AM X.K H M->bL X.K H b xs:=fun H M k _=>bL.of (k.fr _ _ (am1.noTup fb) fb).1
   refine⟨fun i H M k am kp hi=>⟨st H M k am,by rw[mQ] at hi;rw[qb.length];exact hi⟩,fun H M k am kp=>⟨st H M k am,by rw[mQ,qb.length]⟩,fun i H M x H' k am kp hi y=>?_⟩
   obtain⟨pp,u,hu,hn,rfl,rfl⟩:=y
   obtain⟨w,hw,av⟩:=(qb.kp am1 k).getV hu
   obtain⟨am2,k2⟩:=am.tup (u:=.tup [.int (i:Nat),u]) hn
   exact⟨.tup [.int ((i:Nat):Int),w],by rw[tW,hw];simp,k2,am2,.tup cJ (.cons (.int _) (.cons (av.go (go_same hn)) .nil))⟩) r⟩⟩
end
section
variable {X:Cx}{a b:Expr}{ta tb:aY}{pos:Pos}
def KG(ta tb:aY):aY:=fun τ M R=>∀ p,M p=none->ta τ (put M p (.dK [])) fun x M1=>tb τ M1 fun y M2=>M2 p=some (.dK [])/\∃ k:aD,x=wK k/\R (.ref p) (put M2 p (.dK [(k,y)]))
theorem zbF(ha:E3 X a ta)(hb:E3 X b tb):E3 X (.Dict [some a] [b] pos) (KG ta tb):=
 (SD (ES ha hb ER) rfl rfl (by simp) (by simp)).weak fun σ H Q z0=>z0.el fun τ M R as am h k=>fun p hp=>by
  obtain⟨am0,k0⟩:=am.laid (o:=.dK []) (u:=.dK []) hp ⟨[],cJ,.nil⟩
  refine⟨τ,_,_,as.kp am k0,am0,h p (am.nonM hp),fun x H1 wx M1 k1 am1 ax h1=>⟨τ,M1,_,(as.kp am k0).kp am0 k1,am1,h1,fun y H2 wy M2 k2 am2 ay ⟨e,kk,ex,r⟩=>?_⟩⟩
  subst ex
  obtain⟨ks,f,q⟩:=am2 _ _ e
  cases q
  obtain⟨am3,k3⟩:=am2.write (o:=.dK [(kk,wy)]) (u:=.dK [(kk,y)]) e ⟨_,cJ,.cons ⟨rfl,ay.wr am2 e⟩ .nil⟩
  exact⟨f,[(kk,y)],by rw[(ax.kp am1 k2).key];rfl,by simp,k _ _ _ _ (((k0.trans k1).trans k2).trans k3) am3 (.ref _) r⟩
end
end L3
namespace L2
open PySem PySem.Spec PyProof.Rows
section
variable {X:Cx}
def KH(K:Ac)(a:Addr)(xs:List V):It:=
 ⟨fun i H=>bD K H a xs/\i < xs.length,fun i H x H'=>H'=H/\xs.reverse[i]? = some x,fun i H=>bD K H a xs/\i=xs.length⟩
theorem zbG{P:Bq}{w:Cj}{K:Ac}{tg:Expr}(a it:Addr)(xs:List V):i0 P w K tg (KH K a xs) [it] it (fun i h=>h.IsRevIter it a ((xs.length:Int) - 1 - (i:Int))) where
 mem:=by simp
 obj:=fun i h st b hb=>by
  cases (by simpa using hb:b=it)
  obtain⟨o,e,_,d⟩:=st
  exact⟨o,e,fun v z=>by rw[d] at z;cases z⟩
 keep:=fun i h h' st k=>st.at fun o e=>k it (by simp) o e
 item:=by
  intro X hP hw hK hc i pins s σ H E I hf st hg
  subst hP hw hK
  obtain⟨hq,hi⟩:=hg
  obtain⟨its,rv,p,hz⟩:=I.list hq
  have hl:=rv.length
  have hx:xs.reverse[i]? = some xs[xs.length - 1 - i]:=by rw[List.getElem?_reverse hi];exact An (by lia)
  obtain⟨u,hu,ru⟩:=rv.get (An (l:=xs) (i:=xs.length - 1 - i) (by lia))
  obtain⟨f0,f1,f2,f3,f4,f5⟩:=hf it (by simp)
  rw[show(xs.length:Int) - 1 - (i:Int)=((xs.length - 1 - i:Nat):Int) by lia] at st
  refine wpAny_pyNext_rev_item st p.isList (x:=u) (by simpa using hu) fun h' st' sb=>?_
  have I1:Inv X pins σ H {s with heap:=h'}:=I.turned (t':=s.toks) (fun b o hb e=>(sb.2 b hb).trans e) f0 f1 f3 f4 f5
  obtain⟨o',e,c,d⟩:=id st'
  refine⟨u,rfl,p9 (s:={s with heap:=h'}) e c d (by decide) ⟨_,H,I1,ru,⟨rfl,hx⟩,?_,fun b hb=>(hf b hb).1⟩⟩
  rw[show(xs.length:Int) - 1 - ((i + 1:Nat):Int)=((xs.length - 1 - i:Nat):Int) - 1 by lia]
  exact st'
 done:=by
  intro X hP hw hK hc i pins s σ H E I hf st hg
  subst hP hw hK
  obtain⟨hq,rfl⟩:=hg
  rw[show(xs.length:Int) - 1 - (xs.length:Int) = -1 by lia] at st
  refine wpAny_pyNext_rev_end (I.ok.hd hc) st fun h' hk=>⟨rfl,?_⟩
  exact I.turnedT (tk:=s.toks) hf fun q o hq eq=>hk q o (fun z=>hq (by simp[z])) eq
 self:=fun _ _ _ _ _ st h=>wpAny_pyIter_revIter st h
theorem zbH{a:Expr}{ta:TA}{tg:Expr}{p pos:Pos}(hg:Gl X "reversed")(hm:X.mg "reversed" = none)(ha:PA X [a] ta)(hs:Bi [a] X.env=[(false,eval a X.env)]:=by rfl) :
  PI X tg (.Call (.Name "reversed" p) [a] [] pos) (fun σ H R=>ta σ H fun vs H1=>∃ a xs,vs=[.ref a]/\bD X.K H1 a xs/\R (KH X.K a xs) H1):=by
 intro pins s σ H R I h
 refine Call_ (iY I hg hm FJ (Ck (a7 (ha pos pins s σ H _ I h) fun us s1 ⟨vs,H1,I1,r1,q1⟩=>?_) hs rfl))
 obtain⟨a,xs,rfl,hqa,q⟩:=q1
 obtain⟨u,rfl,ru⟩:=vals1 r1
 cases ru
 obtain⟨its,rv1,pl,hz⟩:=I1.list hqa
 have hl:=rv1.length
 refine call_reversed_list pl.isList ?_
 have st:(s1.heap.push (revObj a ((its.toArray.size:Int) - 1))).IsRevIter s1.heap.objs.size a ((its.toArray.size:Int) - 1):=⟨_,Az _ rfl,rfl,rfl⟩
 refine wpAny_pyIter_revIter st ⟨s1.heap.objs.size,[s1.heap.objs.size],_,_,H1,rfl,I1.kept (t':=s1.toks) (fun b o e=>Af _ e),zbG a _ xs,?_,fun b hb=>?_,q⟩
 ·rw[Bb,<-hl] at st
  show Heap.IsRevIter _ _ _ ((xs.length:Int) - 1 - ((0:Nat):Int))
  rw[show(xs.length:Int) - 1 - ((0:Nat):Int)=(xs.length:Int) - 1 by lia,show(its.toArray.size:Int)=(xs.length:Int) by rw[Bb,hl]]
  exact st
 ·cases (by simpa using hb:b=s1.heap.objs.size)
  exact I1.fpOk (Ai _) (I1.hok.fresh (Ai _))
end
end L2
namespace L3
open PySem PySem.Spec PyProof.Rows L2
section
variable {X:Cx}{a:Expr}
def KI(ta:dA):hX:=fun τ M R=>ta τ M fun ws M1=>∃ zs,ws=[.rl zs]/\R zs.reverse (fun _=>True) M1
theorem zbI{tA:dA}{tg:Expr}{p pos:Pos}(hg:Gl X "reversed")(hm:X.mg "reversed" = none)(ha:A3 X [a] tA)(hs:Bi [a] X.env=[(false,eval a X.env)]:=by rfl):PI X tg (.Call (.Name "reversed" p) [a] [] pos) (gR X.K (KI tA)):=
 (zbH hg hm ha hs).weak fun σ H R' z0=>z0.el fun τ M R as am h k=>⟨τ,M,_,as,am,h,fun vs H1 ws M1 k1 am1 ax ⟨zs,ew,r⟩=>by
  subst ew
  obtain⟨v,rfl,av⟩:=ax.one
  obtain⟨b,xs,eb,fb,nb,qb⟩:=av.inv
  refine⟨b,xs,by rw[eb],bD.of fb,k _ _ _ _ _ k1 am1 ?_ r⟩
  have st:∀ H M,Kp H1 M1 H M->bD X.K H b xs:=fun H M k=>bD.of (k.fr _ _ nb fb).1
  refine⟨fun i H M k am kp hi=>⟨st H M k,by rw[Fs] at hi;rw[qb.length];exact hi⟩,fun H M k am kp=>⟨st H M k,by rw[Fs,qb.length]⟩,fun i H M x H' k am kp hi y=>?_⟩
  obtain⟨rfl,y⟩:=y
  obtain⟨w,hw,av⟩:=((qb.kp am1 k).reverse).getV y
  exact⟨w,hw,Kp.refl am,am,av⟩⟩
end
section
variable {X:Cx}{tg a b c:Expr}
def vJ:List W->Mm->K3->Prop
 | [.bl b],M,R=>R (.int (if b then 1 else 0)) M
 | _,_,_=>False
theorem KJ:dE X (.type "int") (gQ X.K vJ):=by
 rintro pins s σ H xs us Q I rs ⟨ws,M,R,am,axs,h,k⟩
 match ws,h with
 | [.bl b],h=>
  obtain⟨v,rfl,av⟩:=axs.one
  obtain rfl:=av.inv
  cases rs with
  | cons r rr=>
   cases rr
   cases r
   exact call_int_bool ⟨.int _,H,I.kept fun _ _ e=>e,⟨_,rfl⟩,k.at am (.int _) h⟩
end
end L3
namespace Rg
open PySem PySem.Spec PyProof.Rows L2 L3
abbrev d9(row:List Str):W:=.rl (row.map W.str)
def iS(fs:List bA):List (List aD×W):=fs.map fun f=>(fK f,.bl true)
def jM(row:List Str):List (List aD×W):=(row.zipIdx).map fun x=>([Sum.inr x.1,Sum.inl (x.2:Int)],.rl [.tup [.int ((x.2:Int) + 1),.int 0]])
def zR:bJ:=fun ws M R=>∃ row:List Str,ws=[d9 row]/\row.length<=60/\bC ((Cw (row.length + 1)).map fun(i:Nat)=>W.int i) M R
def zS:bJ:=fun ws M R=>∃ row:List Str,ws=[d9 row]/\row.length<=60/\kI (jM row) M R
abbrev zbJ:List Str:=["row"]
def zbK:aJ:=
   (b5 (JI (aE cP (bS dD (aB (aA 0) aF)) (vC (.int 1)))))
abbrev zbL:List Str:=["row"]
def zbM:aJ:=
   (b5 (bS JH (aB (dS (gE (HF (aB (aA 0) aF)) (hW 2 (cR (bH 0) (cR (bH 1) hV))) hZ (cC (aB (cC (aB (aA 1) (aB (aA 0) aF))) (aB (fR (aB (cC (aB (aE cP (aA 0) (vC (.int 1))) (aB (vC (.int 0)) aF))) aF)) aF))) [none,none])) aF)))
theorem zbN:∀ ws M R,zR ws M R->ws.length=1:=by rintro ws M R ⟨_,rfl,_⟩;rfl
theorem zbO:∀ ws M R,zS ws M R->ws.length=1:=by rintro ws M R ⟨_,rfl,_⟩;rfl
theorem z0:0<=Am:=Bv _
theorem vK{ws:List W}{M:Mm}{R:K3}(r:bC ws M R):bC ws M fun w M'=>∃ M'',L3.Sub M'' M'/\R w M'':=fun p hp=>⟨_,Sub.refl _,r p hp⟩
theorem KL{ws:List (List aD×W)}{M:Mm}{R:K3}(r:kI ws M R):kI ws M fun w M'=>∃ M'',L3.Sub M'' M'/\R w M'':=fun p hp=>⟨_,Sub.refl _,r p hp⟩
theorem zbP{ws:List W}{M:Mm}{R:K3}(h:zR ws M R):zbK (bT R) (b8 zbJ ws) M:=by
 obtain⟨row,rfl,hl,r⟩:=h
 exact⟨_,rfl,row.length + 1,by rw[Ab];rfl,by lia,vK r⟩
theorem enum_zip(ws:List Str):∀ n:Nat,iB n (ws.map W.str)=(ws.zipIdx n).map fun x=>W.tup [.int (x.2:Int),.str x.1]:=by
 induction ws with
 | nil=>intro n;rfl
 | cons w ws ih=>intro n;rw[Ay,iB,ih,Jh,Ay]
theorem KN:∀ {ps acc:List (List aD×W)},((acc ++ ps).map (·.1)).Nodup->pJ acc ps=acc ++ ps
 | [],acc,_=>by simp[pJ]
 | p :: ps,acc,h=>by
  have hn:a9 acc p.1=none:=by
   rw[Ax,Ef] at h
   exact uE fun e he z=>h.2.2 _ (Ba.mpr ⟨e,he,rfl⟩) p.1 (by simp) z
  have e:bZ acc p.1 p.2=acc ++ [p]:=by
   unfold bZ
   rw[if_neg (by rw[show(acc.any fun kv=>decide (kv.1=p.1))=(a9 acc p.1).isSome from f7 acc p.1,hn];decide)]
  show pJ (bZ acc p.1 p.2) ps=_
  rw[e,KN (by rw[Gk];exact h),Gk];rfl
theorem zbQ(row:List Str):((jM row).map (·.1)).Nodup:=by
 unfold jM
 rw[Bp]
 have:∀ (row:List Str) (n:Nat),((row.zipIdx n).map ((fun x:List aD×W=>x.1) ∘ fun x:Str×Nat=>(([Sum.inr x.1,Sum.inl (x.2:Int)]:List aD),W.rl [.tup [.int ((x.2:Int) + 1),.int 0]]))).Nodup:=by
  intro row
  induction row with
  | nil=>intro n;exact Cy
  | cons t row ih=>
   intro n
   rw[Jh,Ay,Cr]
   refine⟨fun hm=>?_,ih _⟩
   obtain⟨x,hx,e⟩:=Ba.mp hm
   have h1:=List.mem_zipIdx hx
   simp only[Gh,Cs,Sum.inr.injEq,Ke,and_true] at e
   lia
 exact this row 0
theorem zbR(row:List Str)(t:Str)(p:Int):a9 (jM row) (eK (t,p))=if 0<=p/\row[p.toNat]? = some t then some (.rl [.tup [.int (p + 1),.int 0]]) else none:=by
 have:∀ (row:List Str) (n:Nat),a9 ((row.zipIdx n).map fun x:Str×Nat=>(([Sum.inr x.1,Sum.inl (x.2:Int)]:List aD),W.rl [.tup [.int ((x.2:Int) + 1),.int 0]])) (eK (t,p))=if (n:Int)<=p/\row[(p - n).toNat]? = some t then some (.rl [.tup [.int (p + 1),.int 0]]) else none:=by
  intro row
  induction row with
  | nil=>intro n;simp[a9]
  | cons x row ih=>
   intro n
   rw[Jh,Ay,mU,ih]
   by_cases hp:p=n
   ·subst hp
    by_cases hx:x=t
    ·subst hx
     rw[if_pos (show([Sum.inr x,Sum.inl (n:Int)]:List aD)=eK (x,(n:Int)) from rfl),if_pos ⟨Fn _,by simp⟩]
    ·rw[if_neg (fun z=>hx (by simpa [eK] using z)),if_neg (fun z=>by have:=z.1;lia),if_neg (fun z=>hx (by simpa using z.2))]
   ·rw[if_neg (fun z=>hp (show x=t/\(n:Int)=p by simpa [eK] using z).2.symm)]
    by_cases hn:(n:Int) < p
    ·have e:(p - (n:Int)).toNat=(p - ((n + 1:Nat):Int)).toNat + 1:=by lia
     rw[e,Fo]
     by_cases hr:row[(p - ((n + 1:Nat):Int)).toNat]? = some t
     ·rw[if_pos ⟨by lia,hr⟩,if_pos ⟨by lia,hr⟩]
     ·rw[if_neg (fun z=>hr z.2),if_neg (fun z=>hr z.2)]
    ·rw[if_neg (fun z=>by have:=z.1;lia),if_neg (fun z=>by have:=z.1;lia)]
 have h:=this row 0
 simpa [jM] using h
theorem zbS{ws:List W}{M:Mm}{R:K3}(h:zS ws M R):zbM (bT R) (b8 zbL ws) M:=by
 obtain⟨row,rfl,hl,r⟩:=h
 refine⟨_,rfl,?_⟩
 delta aF
 refine WH (ws:=iB 0 (row.map W.str)) (rest:=[]) (fun w y=>∃ x:Str×Nat,w=W.tup [.int (x.2:Int),.str x.1]/\y=.tup [.tup (([Sum.inr x.1,Sum.inl (x.2:Int)]:List aD).map wK),.rl [.tup [.int ((x.2:Int) + 1),.int 0]]]) (fun w hw=>?_) (iA (by rw[mQ,Ab];lia)) (fun _ _=>trivial) (fun a b hm M' C sb h1=>?_) fun ys po=>?_
 ·rw[enum_zip] at hw;obtain⟨x,_,rfl⟩:=Ba.mp hw;exact⟨_,_,rfl⟩
 ·rw[enum_zip] at hm
  obtain⟨x,_,e⟩:=Ba.mp hm
  simp only[W.tup.injEq,Cs,and_true] at e
  obtain⟨rfl,rfl⟩:=e
  exact⟨_,rfl,_,rfl,z2,_,rfl,z2,z1,z2,h1 _ ⟨x,rfl,rfl⟩⟩
 ·have hy:ys=pU (jM row):=by
   rw[enum_zip] at po
   unfold pU jM
   rw[Bp]
   revert po
   generalize row.zipIdx=l
   intro po
   induction l generalizing ys with
   | nil=>cases po;rfl
   | cons x l ih=>
    cases po with
    | cons h t=>
     obtain⟨x',e1,rfl⟩:=h
     simp only[W.tup.injEq,Cs,W.int.injEq,W.str.injEq,and_true] at e1
     have:x=x':=Lz e1.2 (by lia)
     subst this
     rw[ih _ t];rfl
  subst hy
  refine bC.frz ⟨jM row,rfl,iA (by unfold pU jM;rw[Ab,Ab,List.length_zipIdx];lia),?_⟩
  rw[KN (by simpa using zbQ row),Jr]
  exact KL r
theorem zbT(ts:List Str)(n:Str):(a9 (ts.map fT) (Sum.inr n:aD)).isSome=decide (n∈ts):=by
 induction ts with
 | nil=>rfl
 | cons t ts ih=>
  unfold a9 at ih ⊢
  rw[Ay,Fg]
  by_cases h:t=n
  ·subst h;simp[fT]
  ·rw[show decide ((fT t).1=(Sum.inr n:aD))=false by simp[fT,h]]
   rw[ih]
   have h2:¬ n=t:=fun e=>h e.symm
   simp[h2]
theorem zT(rs:List aX)(t:Str):(a9 (ownOf rs) (Sum.inr t:aD)).isSome=d6 rs t:=by
 unfold ownOf d6
 rw[zbT,Eu]
 simp only[decide_eq_true_eq]
 rw[xV];simp
theorem zU(fs:List bA)(f:bA):(a9 (iS fs) (fK f)).isSome=decide (f∈fs):=by
 unfold iS
 induction fs with
 | nil=>rfl
 | cons g fs ih=>
  rw[Ay,mU]
  by_cases h:g=f
  ·subst h;rw[if_pos rfl];simp
  ·rw[if_neg (fun z=>h (mV _ _ z)),ih]
   have:¬ f=g:=fun z=>h z.symm
   simp[this]
theorem zbU{fs:List bA}{f:bA}(h:f∉fs):bZ (iS fs) (fK f) (.bl true)=iS (fs ++ [f]):=by
 unfold bZ
 rw[if_neg (by rw[show((iS fs).any fun kv=>decide (kv.1=fK f))=(a9 (iS fs) (fK f)).isSome from f7 _ _,zU,decide_eq_true_eq];exact h)]
 unfold iS
 rw[Ax];rfl
theorem lU{x:W}{T:String}{τ:S3}{M:Mm}{R:K3}(h:jW [x,.ty T] M R):aB (vC (.ty T)) aF τ M fun xs M2=>jW (x :: xs) M2 R:=h
theorem KO{ws:List W}{M:Mm}{R:List W->(Mm->Prop)->Mm->Prop}(h:R ws (fun _=>True) M):gS (.tup ws) M R:=h
def iF(q:aX)(row:List Str):bA:=(q.name,0,row.length)
def eL(f:bA):W:=.tup ((fK f).map wK)
def m7(own:Str->Bool)(ps:List Str)(cut:List Int):List bA:=ps.zipIdx.filterMap fun x=>if own x.1=true then some (x.1,cut.getD x.2 0,cut.getD (x.2 + 1) 0) else none
structure Wb(G:Sr)(B:bV):Prop where
 own:∀ t,G.own t=d6 G.rs t
 few:G.rs.length<=100
 ord:uW G B
 bl:B.length<=1000
 pl:∀ r∈G.rs,r.parts.length<=100
abbrev oC(B:bV):W:=.ft (dC fK fU B)
def zV:bJ:=fun ws M R=>∃ (q:aX) (rs:List aX) (row:List Str),ws=[bR (q :: rs),d9 row]/\R (eL (iF q row)) M
def zW:bJ:=fun ws M R=>∃ (rs:List aX) (ps:List Str) (cut:List Int),ws=[.dk (ownOf rs),.tup (ps.map W.str),f9 cut]/\cut.length=ps.length + 1/\ps.length<=100/\bC ((m7 (d6 rs) ps cut).map eL) M R
def zX:bJ:=fun ws M R=>∃ (G:Sr) (B:bV) (aU:bA),ws=[bR G.rs,oC B,eL aU]/\Wb G B/\aU∈B.map (·.1)/\∀ p:bA->Bool,p aU=true->(∀ e∈B,p e.1=true->∀ f∈m7 G.own (lR G e.2.2.1) e.2.2.2,p f=true)->bC (((B.map (·.1)).filter p).map eL) M R
def zY:bJ:=fun ws M R=>∃ (t:Str) (b e:Int),ws=[.str t,.int b,.int e]/\R (.str t) M
def zZ:bJ:=fun ws M R=>∃ (n:Nat) (p:Addr) (vs:List W),ws=[.int n,.ref p]/\M p=some (.lst vs)/\R (.tup [.int n,.tup vs]) M
def z9(C:Cc):bJ:=fun ws M R=>∃ (G:Sr) (B:bV) (aU:bA),ws=[bR G.rs,oC B,eL aU,.ref C.f,.ref C.g]/\Wb G B/\aU∈B.map (·.1)/\R (iW G B aU) M
def AA(C:Cc):bJ:=fun ws M R=>∃ (G:Sr) (B:bV) (aU:bA),ws=[bR G.rs,oC B,eL aU]/\Wb G B/\aU∈B.map (·.1)/\R (iW G B aU) M
abbrev zbV:List Str:=["grammar","row"]
def zbW:aJ:=
   (b5 (cC (aB (bN yR (aB (aA 0) aF)) (aB (vC (.int 0)) (aB (bS dD (aB (aA 1) aF)) aF)))))
abbrev zbX:List Str:=["own","parts","cut"]
def zbY:aJ:=
   (b5 (gE (zQ (aB (aA 1) aF)) (hW 2 (cR (bH 0) (cR (bH 1) hV))) (bK (aE (rIn false) (aA 1) (aA 2))) (cC (aB (aA 1) (aB (aE aQ (aA 3) (aA 0)) (aB (aE aQ (aA 3) (aE cP (aA 0) (vC (.int 1)))) aF)))) [none,none,some 0,some 2]))
abbrev zbZ:List Str:=["grammar","best","top","own","found","waiting","told","fact"]
def zb0:aJ:=
   (a0 3 (bN rL (aB (dS (bN rH (aB (aA 0) aF))) aF)))
def zb1:aJ:=
   (a0 4 (J8 (aA 2) (vC (.bl true))))
def zb2:aJ:=
   (a0 5 (fZ (aB (aA 2) aF)))
def zb3:aJ:=
   (aL (a0 6 (aE aQ (aA 1) (oV "list" rPop (aA 5))))
   (eI (dJ gS (dS (bN zW (aB (aA 3) (aB (aE aQ (aE aQ (aA 0) (aE aQ (aA 6) (vC (.int 1)))) (vC (.int 1))) (aB (aE aQ (aA 6) (vC (.int 2))) aF)))))) (bH 7)
    (cB (bK (aE (rIn true) (aA 7) (aA 4)))
    (aL (fQ (vC (.bl true)) (gD (aA 4) (aA 7)))
   (eF (dG "list" fF (aA 5) (aB (aA 7) aF))))
    cU)))
def zb4:aJ:=
   (qU (i9 (aA 5)) zb3)
def zb5:aJ:=
   (b5 (gE (dJ kT (aA 1)) (bH 0) (bK (aE (rIn false) (aA 0) (aA 1))) (aA 0) [none,some 4]))
def zb6:aJ:=(aL zb0 (aL zb1 (aL zb2 (aL zb4 zb5))))
abbrev zb7:List Str:=["grammar","best","top","of_word","of_rule","own","made","fact","number","cut","values","k","part"]
def zb8(C:Cc):aJ:=
   (a0 5 (bN rL (aB (dS (bN rH (aB (aA 0) aF))) aF)))
def zb9(C:Cc):aJ:=
   (a0 6 mI)
def zca(C:Cc):aJ:=
   (aL (a0 8 (aE aQ (aE aQ (aA 1) (aA 7)) (vC (.int 1))))
   (aL (a0 9 (aE aQ (aE aQ (aA 1) (aA 7)) (vC (.int 2))))
   (aL (a0 10 (fZ aF))
   (aL (eI (zQ (aB (aE aQ (aE aQ (aA 0) (aA 8)) (vC (.int 1))) aF)) (hW 2 (cR (bH 11) (cR (bH 12) hV)))
    (cB (bK (aE (rIn false) (aA 12) (aA 5)))
    (eF (dG "list" fF (aA 10) (aB (aE aQ (aA 6) (cC (aB (aA 12) (aB (aE aQ (aA 9) (aA 11)) (aB (aE aQ (aA 9) (aE cP (aA 11) (vC (.int 1)))) aF))))) aF)))
    (eF (dG "list" fF (aA 10) (aB (zP 3 C.f zY (aB (aA 12) (aB (aE aQ (aA 9) (aA 11)) (aB (aE aQ (aA 9) (aE cP (aA 11) (vC (.int 1)))) aF)))) aF)))))
   (fQ (zP 4 C.g zZ (aB (aA 8) (aB (aA 10) aF))) (gD (aA 6) (aA 7)))))))
def zcb(C:Cc):aJ:=
   (eI (dJ gS (dS (bN zX (aB (aA 0) (aB (aA 1) (aB (aA 2) aF)))))) (bH 7) (zca C))
def zcc(C:Cc):aJ:=
   (b5 (aE aQ (aA 6) (aA 2)))
def zcd(C:Cc):aJ:=(aL (zb8 C) (aL (zb9 C) (aL (zcb C) (zcc C))))
abbrev zce:List Str:=["word","begin","end"]
def zcf:aJ:=
   (b5 (aA 0))
abbrev zcg:List Str:=["number","children"]
def zch:aJ:=
   (b5 (cC (aB (aA 0) (aB (bS qR (aB (aA 1) aF)) aF))))
abbrev zci:List Str:=["grammar","best","top"]
def zcj(C:Cc):aJ:=
   (b5 (bN (z9 C) (aB (aA 0) (aB (aA 1) (aB (aA 2) (aB (vC (.ref C.f)) (aB (vC (.ref C.g)) aF)))))))
theorem zck:∀ ws M R,zV ws M R->ws.length=2:=by rintro ws M R ⟨_,_,_,rfl,_⟩;rfl
theorem zcl:∀ ws M R,zW ws M R->ws.length=3:=by rintro ws M R ⟨_,_,_,rfl,_⟩;rfl
theorem zcm:∀ ws M R,zX ws M R->ws.length=3:=by rintro ws M R ⟨_,_,_,rfl,_⟩;rfl
theorem zcn:∀ ws M R,zY ws M R->ws.length=3:=by rintro ws M R ⟨_,_,_,rfl,_⟩;rfl
theorem zco:∀ ws M R,zZ ws M R->ws.length=2:=by rintro ws M R ⟨_,_,_,rfl,_⟩;rfl
theorem zcp{C:Cc}:∀ ws M R,z9 C ws M R->ws.length=5:=by rintro ws M R ⟨_,_,_,rfl,_⟩;rfl
theorem zcq{C:Cc}:∀ ws M R,AA C ws M R->ws.length=3:=by rintro ws M R ⟨_,_,_,rfl,_⟩;rfl
theorem KP{rs:List aX}(h:rs.length<=100):(namesOf rs).length<=400:=by
 have h1:=tY (rs.map aX.name) []
 rw[Ab,List.length_nil,Ib] at h1
 exact Bh h1 (Bh h (by decide))
theorem vL{cut:List Int}{k:Nat}(h:k < cut.length):cG (cut.map W.int) (k:Int)=some (.int (cut.getD k 0)):=eN (by rw[Av,Dn,An h];rfl)
theorem zcr{ws:List W}{M:Mm}{R:K3}(h:zV ws M R):zbW (bT R) (b8 zbV ws) M:=by
 obtain⟨q,rs,row,rfl,r⟩:=h
 refine⟨_,rfl,q,rs,rfl,_,rfl,z3,_,Sub.refl _,?_⟩
 rw[Ab]
 exact r
theorem zcs{ws:List W}{M:Mm}{R:K3}(h:zY ws M R):zcf (bT R) (b8 zce ws) M:=by
 obtain⟨t,b,e,rfl,r⟩:=h
 exact⟨_,rfl,_,Sub.refl _,r⟩
theorem zct{ws:List W}{M:Mm}{R:K3}(h:zZ ws M R):zch (bT R) (b8 zcg ws) M:=by
 obtain⟨n,p,vs,rfl,e,r⟩:=h
 exact⟨_,rfl,_,rfl,_,e,z2,_,Sub.refl _,r⟩
theorem zcu{C:Cc}{ws:List W}{M:Mm}{R:K3}(h:AA C ws M R):zcj C (bT R) (b8 zci ws) M:=by
 obtain⟨G,B,aU,rfl,w,ht,r⟩:=h
 exact⟨_,rfl,_,rfl,_,rfl,G,B,aU,rfl,w,ht,_,Sub.refl _,r⟩
def AB(rs:List aX)(cut:List Int):W->Option W
 | .tup [.int i,.str t]=>if d6 rs t=true then some (eL (t,cut.getD i.toNat 0,cut.getD (i.toNat + 1) 0)) else none
 | _=>none
theorem zcv{F:W->Option W}{ws:List W}{os:List (Option W)}(h:Ha (fun w o=>o=F w) ws os):os.filterMap id=ws.filterMap F:=by
 induction h with
 | nil=>rfl
 | cons a _ ih=>rw[a,Gr,Gr,ih];rfl
theorem zcw(rs:List aX)(cut:List Int)(ps:List Str):(iB 0 (ps.map W.str)).filterMap (AB rs cut)=(m7 (d6 rs) ps cut).map eL:=by
 unfold m7
 rw[enum_zip,Kd,List.map_filterMap]
 refine congrArg (fun f=>List.filterMap f ps.zipIdx) (funext fun x=>?_)
 show(if d6 rs x.1=true then _ else none)=_
 rw[Dy]
 by_cases h:d6 rs x.1=true
 ·rw[if_pos h,if_pos h];rfl
 ·rw[if_neg h,if_neg h];rfl
theorem zcx{ws:List W}{M:Mm}{R:K3}(h:zW ws M R):zbY (bT R) (b8 zbX ws) M:=by
 obtain⟨rs,ps,cut,rfl,hc,hp,r⟩:=h
 refine⟨_,rfl,_,rfl,G6 (rest:=[some (.dk (ownOf rs)),some (f9 cut)]) (fun w o=>o=AB rs cut w) (fun w hw=>?_) (iA (by rw[mQ,Ab];lia)) (fun _ _=>trivial) (fun a b hm M' C D sb h1 h2=>?_) fun os po=>?_⟩
 ·rw[enum_zip] at hw
  obtain⟨x,_,rfl⟩:=Ba.mp hw
  exact⟨_,_,rfl⟩
 ·rw[enum_zip] at hm
  obtain⟨⟨t,k⟩,hx,e⟩:=Ba.mp hm
  cases e
  have hk:=(Aj.mp (Hd.mp hx)).1
  have ep:AB rs cut (.tup [.int (k:Int),.str t])=if d6 rs t=true then some (eL (t,cut.getD k 0,cut.getD (k + 1) 0)) else none:=rfl
  have ho:(a9 (ownOf rs) (Sum.inr t:aD)).isSome=d6 rs t:=zT rs t
  exact⟨_,rfl,_,rfl,_,⟨Sum.inr t,rfl,rfl⟩,_,rfl,b9 (fun z=>⟨_,rfl,_,rfl,_,rfl,_,vL (by lia),_,rfl,_,rfl,_,vL (k:=k + 1) (by lia),z3,h1 _ (by rw[ep,if_pos (ho.symm.trans z)];rfl)⟩) fun z=>h2 (by rw[ep,if_neg (ne_true_of_eq_false (ho.symm.trans z))])⟩
 ·rw[zcv po,zcw]
  exact vK r
structure FW(G:Sr)(B:bV)(aU:bA)(ex:bA->Prop)(fs wt:List bA):Prop where
 tp:aU∈fs
 nd:fs.Nodup
 sub:∀ f∈fs,f∈B.map (·.1)
 wq:∀ f∈wt,f∈fs
 wl:wt.length<=fs.length
 cl:∀ e∈B,e.1∈fs->e.1∈wt\/ex e.1\/∀ f∈m7 G.own (lR G e.2.2.1) e.2.2.2,f∈fs
theorem FW.len{G:Sr}{B:bV}{aU:bA}{fs wt:List bA}{ex:bA->Prop}(h:FW G B aU ex fs wt):fs.length<=B.length:=by
 have:=len_sub h.nd h.sub
 rw[Ab] at this;exact this
theorem FW.add{G:Sr}{B:bV}{aU g:bA}{fs wt:List bA}{ex:bA->Prop}(h:FW G B aU ex fs wt)(hg:g∉fs)(hb:g∈B.map (·.1)):FW G B aU ex (fs ++ [g]) (wt ++ [g]):=by
 refine⟨Bu _ h.tp,?_,fun f hf=>?_,fun f hf=>?_,(by rw[Ak,Ak];exact Nat.add_le_add_right h.wl _),fun e he hf=>?_⟩
 ·rw[Ef]
  exact⟨h.nd,(by simp),fun a ha b hb e=>hg (by cases Aw.mp hb;rw[<-e];exact ha)⟩
 ·rcases Bo.mp hf with z | z
  ·exact h.sub f z
  ·cases Aw.mp z;exact hb
 ·rcases Bo.mp hf with z | z
  ·exact Bu _ (h.wq f z)
  ·exact Ca _ z
 ·rcases Bo.mp hf with z | z
  ·rcases h.cl e he z with y | y | y
   ·exact .inl (Bu _ y)
   ·exact .inr (.inl y)
   ·exact .inr (.inr fun f hf=>Bu _ (y f hf))
  ·exact .inl (Ca _ z)
def p0(fs:List bA):W->Option W
 | .tup [.str n,.int b,.int e]=>if (n,b,e)∈fs then some (.tup [.str n,.int b,.int e]) else none
 | _=>none
theorem zcy(fs gs:List bA):(gs.map eL).filterMap (p0 fs)=(gs.filter fun f=>decide (f∈fs)).map eL:=by
 induction gs with
 | nil=>rfl
 | cons f gs ih=>
  have e:p0 fs (eL f)=if f∈fs then some (eL f) else none:=rfl
  rw[Ay,Gr,Ed,e,ih]
  by_cases h:f∈fs
  ·rw[if_pos h,if_pos (decide_eq_true h),Ay]
  ·rw[if_neg h,if_neg (by rw[decide_eq_false h];exact Ao)]
theorem KQ{B:bV}{f:bA}(h:f∈B.map (·.1)):∃ v,aG B f=some v/\a9 (dC fK fU B) (fK f)=some (fU v):=by
 obtain⟨v,hv⟩:=Ej.mp (gA.mpr h)
 exact⟨v,hv,by rw[j5 mV,hv];rfl⟩
theorem zcz{G:Sr}{B:bV}(o:uW G B){e:En}(he:e∈B):aG B e.1=some e.2:=by
 obtain⟨a,b,sp⟩:=List.append_of_mem he
 obtain⟨r,E⟩:=o a e b sp
 rw[sp,uX,E.no,cQ,if_pos rfl];rfl
theorem KR{G:Sr}{pre:bV}{e:En}{r:aX}(E:uV G pre e r){g:bA}(hg:g∈m7 G.own r.parts e.2.2.2):g∈pre.map (·.1):=by
 obtain⟨⟨t,k⟩,hx,e1⟩:=Im.mp hg
 have hx:=Hd.mp hx
 by_cases ho:G.own t=true
 ·rw[if_pos ho] at e1
  cases e1
  exact gA.mp (E.pn k t hx ho)
 ·rw[if_neg ho] at e1;cases e1
theorem KS{G:Sr}{pre:bV}{e:En}{r:aX}(E:uV G pre e r):lR G e.2.2.1=r.parts:=by unfold lR;rw[E.ru];rfl
theorem zcA{ws:List W}{M:Mm}{R:K3}(h:zX ws M R):zb6 (bT R) (b8 zbZ ws) M:=by
 obtain⟨G,B,aU,rfl,w,ht,r⟩:=h
 have hown:G.own=d6 G.rs:=funext w.own
 refine⟨_,rfl,G.rs,rfl,(Bh w.few (by decide)),bC.frz ⟨namesOf G.rs,rfl,KP w.few,fun p hp=>⟨_,rfl,aT,fK aU,rfl,_,rfl,z1,fun q hq=>?_⟩⟩⟩
 rw[gP] at hq ⊢
 have hpq:q≠p:=fun e=>by rw[e,aT] at hq;cases hq
 have hq0:M q=none:=by rw[aN hpq] at hq;exact hq
 have atp:∀ {X Y:MO},put (put M p X) q Y p=some X:=fun {X Y}=>by rw[aN (Bf hpq),aT]
 have setp:∀ {X X' Y:MO},put (put (put M p X) q Y) p X'=put (put M p X') q Y:=fun {X X' Y}=>by rw[wM hpq,gP]
 refine⟨fun m τ M'=>∃ fs wt o6 o7,τ=[some (bR G.rs),some (oC B),some (eL aU),some (.dk (ownOf G.rs)),some (.ref p),some (.ref q),o6,o7]/\M'=put (put M p (.dT (iS fs))) q (.lst (wt.map eL))/\FW G B aU (fun _=>False) fs wt/\m=2 * (B.length - fs.length) + wt.length,
  ⟨_,[aU],[aU],_,_,rfl,rfl,⟨List.mem_singleton_self _,(by simp),fun f hf=>by cases Aw.mp hf;exact ht,fun f hf=>hf,Ai _,fun e _ hf=>.inl hf⟩,rfl⟩,?_⟩
 rintro m τ M' ⟨fs,wt,o6,o7,rfl,rfl,F,rfl⟩
 refine⟨_,rfl,.inl ⟨_,aT,b9 (fun h=>?_) fun h=>?_⟩⟩
 ·rcases Dh wt with e | ⟨wt',f,e⟩
  ·rw[e] at h;cases h
  rw[Dj] at e
  subst e
  obtain⟨v,hv,lv⟩:=KQ (F.sub f (F.wq f (by simp)))
  obtain⟨pre,post,sp⟩:=nT hv
  obtain⟨ru,E⟩:=w.ord pre _ post sp
  obtain⟨ru',h1,h2⟩:=rN (rs:=G.rs) (n:=v.2.1) (Aj.mp E.ru).1
  cases (show some ru'=some ru from h1.symm.trans E.ru)
  refine⟨_,rfl,_,rfl,fD aT,_,_,by rw[Ax];exact aT,_,⟨fK f,rfl,lv.symm⟩,_,rfl,_,rfl,_,rfl,_,rfl,_,h2,_,rfl,_,rfl,_,rfl,G.rs,ru.parts,v.2.2,rfl,E.ln,w.pl ru (Be h1),bC.frz (nW ?_)⟩
  rw[gP,<-hown]
  obtain⟨pf,hpf⟩:∃ pf,pf=m7 G.own ru.parts v.2.2:=⟨_,rfl⟩
  rw[<-hpf]
  have hpB:∀ g∈pf,g∈B.map (·.1):=fun g hg=>by
   rw[hpf] at hg
   rw[sp,Ax]
   exact Bu _ (KR E hg)
  have hlen:=F.len
  refine eO (fun j τ M'=>∃ fs2 wt2 o7,τ=[some (bR G.rs),some (oC B),some (eL aU),some (.dk (ownOf G.rs)),some (.ref p),some (.ref q),some (fU v),o7]/\M'=put (put M p (.dT (iS fs2))) q (.lst (wt2.map eL))/\(∀ g∈pf.take j,g∈fs2)/\FW G B aU (fun x=>x=f) fs2 wt2/\2 * (B.length - fs2.length) + wt2.length + 1<=2 * (B.length - fs.length) + (wt' ++ [f]).length) ?_ (fun _ _ _ _ _=>trivial) ?_ ?_
  ·refine⟨fs,wt',_,rfl,rfl,(fun g hg=>nomatch hg),⟨F.tp,F.nd,F.sub,fun x hx=>F.wq x (Bu _ hx),Bh (by rw[Ak];exact Nat.le_add_right _ _) F.wl,fun e he hf=>?_⟩,by rw[Ak];exact Ai _⟩
   rcases F.cl e he hf with y | y | y
   ·rcases Bo.mp y with y | y
    ·exact .inl y
    ·exact .inr (.inl (Aw.mp y))
   ·exact y.elim
   ·exact .inr (.inr y)
  ·rintro j x τ M' hx ⟨fs2,wt2,o7,rfl,rfl,hin,F2,hm⟩
   rw[Av] at hx
   obtain⟨g,hg,rfl⟩:=Bj.mp hx
   have hgm:=Be hg
   have hl2:=F2.len
   have hbl:=w.bl
   refine⟨_,rfl,_,rfl,.inr ⟨_,.inr ⟨iS fs2,fK g,atp,rfl,rfl⟩,_,rfl,?_⟩⟩
   show if (!(a9 (iS fs2) (fK g)).isSome)=true then _ else _
   rw[zU]
   refine b9 (fun hn=>?_) fun hn=>?_
   ·have hn:g∉fs2:=of_decide_eq_false (by rw[<-Ld (decide _),hn];rfl)
    have F3:=F2.add hn (hpB g hgm)
    have hl3:=F3.len
    rw[Ak,Bk] at hl3
    have lw:=F2.wl
    refine⟨_,rfl,_,rfl,qX (k:=fK g) atp (by unfold iS;rw[Ab];exact eC (by lia)) ?_⟩
    rw[zbU hn,setp]
    refine⟨_,rfl,fD aT,_,rfl,_,aT,eC (by rw[Ab];lia),_,Sub.refl _,fs2 ++ [g],wt2 ++ [g],_,rfl,?_,fun y hy=>?_,F3,?_⟩
    ·rw[gP,Ax];rfl
    ·rw[Bx,hg] at hy
     rcases Bo.mp hy with z | z
     ·exact Bu _ (hin y z)
     ·exact Ca _ z
    ·rw[Ak,Ak,Bk]
     lia
   ·have hn:g∈fs2:=of_decide_eq_true (by rw[<-Ld (decide _),hn];rfl)
    refine⟨_,Sub.refl _,fs2,wt2,_,rfl,rfl,fun y hy=>?_,F2,hm⟩
    rw[Bx,hg] at hy
    rcases Bo.mp hy with z | z
    ·exact hin y z
    ·cases Aw.mp z;exact hn
  ·rintro τ M' ⟨fs2,wt2,o7,rfl,rfl,hin,F2,hm⟩
   rw[Ab,Bz] at hin
   refine⟨_,_,hm,Sub.refl _,fs2,wt2,_,_,rfl,rfl,⟨F2.tp,F2.nd,F2.sub,F2.wq,F2.wl,fun e he hf=>?_⟩,rfl⟩
   rcases F2.cl e he hf with y | y | y
   ·exact .inl y
   ·have:=zcz w.ord he
    rw[y,hv] at this
    refine .inr (.inr fun g hg=>hin g ?_)
    rw[<-Ci this,show lR G v.2.1=ru.parts from KS E] at hg
    rw[hpf];exact hg
   ·exact .inr (.inr y)
 ·have e:wt=[]:=by
   cases wt with
   | nil=>rfl
   | cons a b=>cases h
  subst e
  have hbl:=w.bl
  refine⟨_,rfl,WD (rest:=[some (.ref p)]) (p0 fs) (iA (by rw[Ab,Ab];lia)) (fun _ _=>trivial) (fun x hx M3 C D sb d1 d2=>?_) ?_⟩
  ·rw[Bp] at hx
   obtain⟨e,he,rfl⟩:=Ba.mp hx
   have ei:p0 fs (eL e.1)=if e.1∈fs then some (eL e.1) else none:=rfl
   refine⟨_,rfl,_,rfl,.inr ⟨_,.inr ⟨iS fs,fK e.1,sb _ _ atp,rfl,rfl⟩,_,rfl,?_⟩⟩
   show if (a9 (iS fs) (fK e.1)).isSome=true then _ else _
   rw[zU]
   exact b9 (fun z=>⟨_,rfl,d1 _ (by show p0 fs (eL e.1)=_;rw[ei,if_pos (of_decide_eq_true z)];rfl)⟩) fun z=>d2 (by show p0 fs (eL e.1)=_;rw[ei,if_neg (of_decide_eq_false z)])
  ·have e:((dC fK fU B).map fun p=>W.tup (p.1.map wK))=(B.map (·.1)).map eL:=by rw[Bp,Bp];rfl
   rw[e,zcy]
   have z:=r (fun f=>decide (f∈fs)) (decide_eq_true F.tp) fun e he hf f hm=>by
    rcases F.cl e he (of_decide_eq_true hf) with y | y | y
    ·cases y
    ·exact y.elim
    ·exact decide_eq_true (y f hm)
   intro s hs
   have hs1:s≠q:=fun e=>by rw[e,aT] at hs;cases hs
   have hs2:s≠p:=fun e=>by rw[e,atp] at hs;cases hs
   rw[aN hs1,aN hs2] at hs
   exact⟨_,Sub.put (fI (fI (Sub.refl _) hp) hq0),z s hs⟩
theorem zcB{G:Sr}{B:bV}(o:uW G B):(B.map (·.1)).Nodup:=by
 rw[Hs,Km]
 refine Kh.mpr fun i j hi hj hij e=>?_
 obtain⟨r,E⟩:=o (B.take j) B[j] (B.drop (j + 1)) (by rw[<-Fi hj,Lm])
 have hm:B[j].1∈(B.take j).map (·.1):=by
  rw[<-e]
  exact Dx (Ma.mpr ⟨i,by rw[Cb];lia,by rw[List.getElem_take]⟩)
 rw[<-gA,E.no] at hm
 cases hm
theorem zcC{l:List bA}(nd:l.Nodup){a b:List bA}{f:bA}(e:l=a ++ f :: b){j:Nat}(h:l[j]? = some f):l.take j=a:=by
 have:j=a.length:=(List.getElem?_inj (Aj.mp h).1 nd).mp (h.trans (by rw[e,List.getElem?_append_right (Ai _),Nat.sub_self];rfl))
 rw[this,e,List.take_left]
theorem zcD{T:bA->W}{fs:List bA}{g:bA}(h:g∈fs):aG (fs.map fun f=>(f,T f)) g=some (T g):=by
 induction fs with
 | nil=>cases h
 | cons f fs ih=>
  rw[Ay,cQ]
  by_cases e:f=g
  ·rw[if_pos e,e]
  ·rw[if_neg e]
   exact ih ((Ar.mp h).resolve_left fun z=>e z.symm)
abbrev oE(T:bA->W)(fs:List bA):List (List aD×W):=dC fK (fun w=>w) (fs.map fun f=>(f,T f))
theorem KU{T:bA->W}{fs:List bA}{g:bA}(h:g∈fs):a9 (oE T fs) (fK g)=some (T g):=by rw[j5 mV,zcD h];rfl
theorem zcE{T:bA->W}{fs:List bA}{g:bA}(h:g∉fs):bZ (oE T fs) (fK g) (T g)=oE T (fs ++ [g]):=by
 refine(rJ (f:=fun w=>w) mV _ g (T g)).trans ?_
 rw[rK (by rw[<-Option.not_isSome_iff_eq_none,gA,Bp];exact fun z=>h (by simpa using z))]
 show _=dC fK (fun w=>w) ((fs ++ [g]).map fun f=>(f,T f))
 rw[Ax];rfl
theorem zcF{C:Cc}{ws:List W}{M:Mm}{R:K3}(h:z9 C ws M R):zcd C (bT R) (b8 zb7 ws) M:=by
 obtain⟨G,B,aU,rfl,w,ht,r⟩:=h
 have hown:G.own=d6 G.rs:=funext w.own
 have nd:=zcB w.ord
 refine⟨_,rfl,G.rs,rfl,(Bh w.few (by decide)),bC.frz ⟨namesOf G.rs,rfl,KP w.few,fun p hp=>⟨_,rfl,_,rfl,_,rfl,G,B,aU,rfl,w,ht,fun P hP hcl=>bC.frz (nW ?_)⟩⟩⟩
 obtain⟨F,hF⟩:∃ F,F=(B.map (·.1)).filter P:=⟨_,rfl⟩
 rw[<-hF]
 have ndF:F.Nodup:=by rw[hF];exact nd.filter _
 have lF:F.length<=1000:=Bh (by rw[hF];exact Lo _ _) (by rw[Ab];exact w.bl)
 refine eO (fun j τ M'=>∃ o7 o8 o9 o10 o11 o12,τ=[some (bR G.rs),some (oC B),some (eL aU),some (.ref C.f),some (.ref C.g),some (.dk (ownOf G.rs)),some (.ref p),o7,o8,o9,o10,o11,o12]/\M'=put M p (.dT (oE (iW G B) (F.take j)))) ⟨_,_,_,_,_,_,rfl,rfl⟩ (fun _ _ _ _ _=>trivial) ?_ ?_
 ·rintro j x τ M' hx ⟨o7,o8,o9,o10,o11,o12,rfl,rfl⟩
  rw[Av] at hx
  obtain⟨f,hf,rfl⟩:=Bj.mp hx
  have hfm:f∈F:=Be hf
  have hfm2:=hfm
  rw[hF] at hfm2
  obtain⟨hfB,hfP⟩:=Es.mp hfm2
  obtain⟨v,hv,lv⟩:=KQ hfB
  obtain⟨pre,post,sp⟩:=nT hv
  obtain⟨ru,E⟩:=w.ord pre _ post sp
  obtain⟨ru',h1,h2⟩:=rN (rs:=G.rs) (n:=v.2.1) (Aj.mp E.ru).1
  cases (show some ru'=some ru from h1.symm.trans E.ru)
  have hpl:=w.pl ru (Be h1)
  have hcutl:v.2.2.length=ru.parts.length + 1:=E.ln
  have htk:F.take j=(pre.map (·.1)).filter P:=zcC ndF (by rw[hF,sp,Ax,Ay,List.filter_append,Ed,if_pos hfP]) hf
  have hpf:∀ k t,ru.parts[k]? = some t->G.own t=true->(t,v.2.2.getD k 0,v.2.2.getD (k + 1) 0)∈F.take j:=fun k t hk ho=>by
   have hg:(t,v.2.2.getD k 0,v.2.2.getD (k + 1) 0)∈m7 G.own ru.parts v.2.2:=Im.mpr ⟨(t,k),Hd.mpr hk,by rw[if_pos ho]⟩
   rw[htk]
   refine Es.mpr ⟨KR E hg,hcl (f,v) (by rw[sp];simp) hfP _ ?_⟩
   rw[KS E];exact hg
  have hnf:f∉F.take j:=fun z=>by
   rw[htk] at z
   have:=(Es.mp z).1
   rw[<-gA,E.no] at this
   cases this
  refine⟨_,rfl,_,rfl,_,⟨fK f,rfl,lv.symm⟩,_,rfl,_,rfl,_,rfl,_,⟨fK f,rfl,lv.symm⟩,_,rfl,Bv _,fun q hq=>?_⟩
  have hpq:q≠p:=fun e=>by rw[e,aT] at hq;cases hq
  have atp:∀ {X Y:MO},put (put M p X) q Y p=some X:=fun {X Y}=>by rw[aN (Bf hpq),aT]
  obtain⟨kids,hk⟩:∃ kids,kids=lQ G (fun t _ _=>.str t) (iW G B) v.2.2 ru.parts:=⟨_,rfl⟩
  have hkl:kids.length=ru.parts.length:=by rw[hk];unfold lQ;rw[Ab,List.length_zipIdx]
  have hka:∀ k t,ru.parts[k]? = some t->kids[k]? = some (if G.own t=true then iW G B (t,v.2.2.getD k 0,v.2.2.getD (k + 1) 0) else .str t):=fun k t ht=>by
   rw[hk];unfold lQ
   rw[Av,Mb,ht,Ib];rfl
  refine⟨_,rfl,_,rfl,_,h2,_,rfl,_,rfl,?_⟩
  refine eO (fun k τ M'=>∃ o11 o12,τ=[some (bR G.rs),some (oC B),some (eL aU),some (.ref C.f),some (.ref C.g),some (.dk (ownOf G.rs)),some (.ref p),some (eL f),some (.int v.2.1),some (f9 v.2.2),some (.ref q),o11,o12]/\M'=put (put M p (.dT (oE (iW G B) (F.take j)))) q (.lst (kids.take k))) ⟨_,_,rfl,rfl⟩ (fun _ _ _ _ _=>trivial) ?_ ?_
  ·rintro k x τ M' hx ⟨o11,o12,rfl,rfl⟩
   rw[tW,Av] at hx
   cases hs:ru.parts[k]? with
   | none=>rw[hs] at hx;cases hx
   | some t=>
    rw[hs] at hx
    cases hx
    have hk1:=(Aj.mp hs).1
    have ho:(a9 (ownOf G.rs) (Sum.inr t:aD)).isSome=G.own t:=by rw[hown];exact zT G.rs t
    have lk:(kids.take k).length < Am:=eC (by rw[Cb];lia)
    have c1:cG (v.2.2.map W.int) ((0 + k:Nat):Int)=some (.int (v.2.2.getD k 0)):=by rw[Ib];exact vL (by lia)
    have c2:cG (v.2.2.map W.int) (((0 + k:Nat):Int) + 1)=some (.int (v.2.2.getD (k + 1) 0)):=by rw[Ib];exact vL (k:=k + 1) (by lia)
    have fin:∀ y,kids[k]? = some y->put (put (put M p (.dT (oE (iW G B) (F.take j)))) q (.lst (kids.take k))) q (.lst (kids.take k ++ [y]))=put (put M p (.dT (oE (iW G B) (F.take j)))) q (.lst (kids.take (k + 1))):=fun y hy=>by rw[gP,Bx,hy];rfl
    refine⟨rfl,rfl,_,rfl,_,rfl,_,⟨Sum.inr t,rfl,rfl⟩,_,rfl,b9 (fun z=>?_) fun z=>?_⟩
    ·have z:=ho.symm.trans z
     exact⟨_,rfl,fD aT,_,rfl,_,rfl,_,rfl,_,rfl,_,c1,_,rfl,_,rfl,_,c2,z3,nU (k:=fK (t,v.2.2.getD k 0,v.2.2.getD (k + 1) 0)) atp (KU (hpf k t hs z)) ⟨_,aT,lk,_,Sub.refl _,_,_,rfl,fin _ (by rw[hka k t hs,if_pos z])⟩⟩
    ·have z:=ho.symm.trans z
     exact⟨_,rfl,fD aT,rfl,_,rfl,_,rfl,_,rfl,_,c1,_,rfl,_,rfl,_,c2,t,_,_,rfl,_,aT,lk,_,Sub.refl _,_,_,rfl,fin _ (by rw[hka k t hs,if_neg (ne_true_of_eq_false z)])⟩
  ·rintro τ M' ⟨o11,o12,rfl,rfl⟩
   rw[mQ,Ab,<-hkl,Bz]
   have et:iW G B f=.tup [.int v.2.1,.tup kids]:=by rw[hk];exact JL sp E
   refine⟨rfl,_,rfl,_,rfl,v.2.1,q,kids,rfl,aT,_,rfl,_,rfl,qX (k:=fK f) atp (eC (by rw[Ab,Ab,Cb];lia)) ?_⟩
   rw[<-et,zcE hnf,wM hpq,gP]
   refine⟨_,Sub.new ?_,_,_,_,_,_,_,rfl,?_⟩
   ·rw[aN hpq];rw[aN hpq] at hq;exact hq
   ·rw[Bx,hf];rfl
 ·rintro τ M' ⟨o7,o8,o9,o10,o11,o12,rfl,rfl⟩
  rw[Ab,Bz]
  exact⟨_,rfl,_,rfl,nU (k:=fK aU) aT (KU (by rw[hF];exact Es.mpr ⟨ht,hP⟩)) ⟨_,Sub.new hp,r⟩⟩
def Dq(d n:Addr)(M:Mm):Prop:=d≠n/\∃ (ns:List Int) (v:Int),M d=some (.lst [.ref n,.int v])/\M n=some (.lst (ns.map W.int))
def Oq(d n:Addr)(M M':Mm):Prop:=∀ p o,p≠d->p≠n->M p=some o->M' p=some o
theorem Oq.refl{d n:Addr}{M:Mm}:Oq d n M M:=fun _ _ _ _ h=>h
theorem Oq.trans{d n:Addr}{M M1 M2:Mm}(h:Oq d n M M1)(g:Oq d n M1 M2):Oq d n M M2:=fun p o h1 h2 e=>g p o h1 h2 (h p o h1 h2 e)
theorem Oq.put{d n p:Addr}{M M':Mm}{o:MO}(h:Oq d n M M')(hp:M p=none):Oq d n M (put M' p o):=fun q u q1 q2 e=>by
 have hq:q≠p:=fun z=>by subst z;rw[hp] at e;cases e
 rw[aN hq];exact h q u q1 q2 e
theorem Oq.sub{d n:Addr}{M M' M2:Mm}(h:Oq d n M M2)(g:L3.Sub M' M):Oq d n M' M2:=fun p o h1 h2 e=>h p o h1 h2 (g p o e)
theorem Dq.put{d n p:Addr}{M:Mm}{o:MO}(h:Dq d n M)(hp:M p=none):Dq d n (put M p o):=by
 obtain⟨a,ns,v,b,c⟩:=h
 exact⟨a,ns,v,Sub.new hp _ _ b,Sub.new hp _ _ c⟩
theorem Dq.pot{d n p:Addr}{M:Mm}{o:MO}(h:Dq d n M)(h1:p≠d)(h2:p≠n):Dq d n (L3.put M p o):=by
 obtain⟨a,ns,v,b,c⟩:=h
 exact⟨a,ns,v,by rw[aN (Bf h1)];exact b,by rw[aN (Bf h2)];exact c⟩
theorem Dq.del{d n p:Addr}{M:Mm}(h:Dq d n M)(h1:p≠d)(h2:p≠n):Dq d n (del M p):=by
 obtain⟨a,ns,v,b,c⟩:=h
 exact⟨a,ns,v,by rw[l8 (Bf h1)];exact b,by rw[l8 (Bf h2)];exact c⟩
theorem Dq.ne{d n p:Addr}{M:Mm}(h:Dq d n M)(hp:M p=none):p≠d/\p≠n:=by
 obtain⟨a,ns,v,b,c⟩:=h
 exact⟨fun e=>(by rw[e,b] at hp;cases hp),fun e=>(by rw[e,c] at hp;cases hp)⟩
def bP(t:Tb):List (aD×W):=gM (t.map fun e=>(Sum.inl e.1,e.2))
abbrev Lq:=List ((Str×Int)×Addr×Tb)
def eR(L:Lq):Tq:=L.map fun x=>(x.1,x.2.2)
def j8(T:Tq):W:=.ft (T.map fun e=>(eK e.1,.fk (bP e.2)))
structure eS(M0 M:Mm)(a:Addr)(L:Lq):Prop where
 sub:L3.Sub M0 M
 new:M0 a=none
 at_:M a=some (.dT (dC eK (fun y:Addr×Tb=>W.ref y.1) L))
 inn:∀ x∈L,x.2.1≠a/\M0 x.2.1=none/\M x.2.1=some (.dK (bP x.2.2))
 inj:(L.map fun x=>x.2.1).Nodup
def WQ:List Str:=["a","ab","ba","abababab"]
def AD:bJ:=fun ws M R=>∃ rs:List aX,ws=[bR rs]/\rs.length<=100/\bC (rs.map fun r=>W.int r.cost) M R
def AE(C:Cc):bJ:=fun ws M R=>∃ (rs:List aX) (row:List Str),ws=[bR rs,d9 row,.rl (rs.map fun r=>W.int r.cost)]/\GQ rs/\RQ row/\∀ B,kR (cS rs row) B->kI (dC fK fU B) M R
def AF(C:Cc):bJ:=fun ws M R=>∃ (q:aX) (rs:List aX) (row:List Str),ws=[bR (q :: rs),d9 row]/\GQ (q :: rs)/\RQ row/\∀ B,kR (cS (q :: rs) row) B->(∀ v,aG B (iF q row)=some v->R (.tup [.int v.1.1,iW (cS (q :: rs) row) B (iF q row)]) M)/\(aG B (iF q row)=none->R .non M)
def AG:bJ:=fun ws M R=>∃ (zs:List Int) (k:Nat),ws=[.sc (zs.map W.int),.int k]/\∀ i,R (.int i) M
def AH:bJ:=fun ws M R=>∃ c k:Int,ws=[.int c,.int k]/\∀ z,R (.int z) M
def AI:bJ:=fun ws M R=>∃ zs:List Int,ws=[.sc (zs.map W.int)]/\zs.length<=63/\∀ d n M',Dq d n M'->L3.Sub M M'->M d=none->M n=none->R (.ref d) M'
def fJ:bJ:=fun ws M R=>∃ (d n:Addr) (many:Int),ws=[.ref d,.int many]/\0 < many/\many<=10 ^ 55/\Dq d n M/\∀ z M',0<=z->z < many->Dq d n M'->Oq d n M M'->R (.int z) M'
def rT:bJ:=fun ws M R=>ws=[]/\bC (WQ.map W.str) M R
def vM:bJ:=fun ws M R=>∃ (d n:Addr) (hs:List Str) (X:Str),ws=[.ref d,.rl (hs.map W.str),.str X]/\Dq d n M/\1<=hs.length/\hs.length<=4/\∀ r M',r.name=X->r.parts.length<=4->(∀ t∈r.parts,t∈WQ\/t∈hs)->0<=r.cost->Dq d n M'->Oq d n M M'->R (eP r) M'
def AJ:bJ:=fun ws M R=>∃ (d n:Addr),ws=[.ref d]/\Dq d n M/\∀ rs a M',GQ rs->M' a=some (.lst (rs.map eP))->a≠d->a≠n->Dq d n M'->R (.ref a) M'
def AK:bJ:=fun ws M R=>∃ (d n:Addr) (rs:List aX),ws=[.ref d,bR rs]/\Dq d n M/\GQ rs/\(∀ M',Dq d n M'->R .non M')/\(∀ row a M',RQ row->M' a=some (.lst (row.map W.str))->a≠d->a≠n->Dq d n M'->R (.ref a) M')
def AL:bJ:=fun ws M R=>∃ (d n:Addr) (rs:List aX),ws=[.ref d,bR rs]/\Dq d n M/\GQ rs/\∀ row M',RQ row->R (d9 row) M'
def AN:bJ:=fun ws M R=>∃ (rs:List aX) (row:List Str) (T:Tq) (ps:List Str) (b:Int),ws=[bR rs,d9 row,j8 T,.tup (ps.map W.str),.int b]/\GQ rs/\RQ row/\IQ rs row T/\ps.length<=4/\(∀ t∈ps,fG t)/\b∈b7 row.length/\lD (bP (d7 rs row T ps b)) M R
def AQ:bJ:=fun ws M R=>∃ (rs:List aX) (row:List Str),ws=[bR rs,d9 row]/\GQ rs/\RQ row/\∀ a M' L,IQ rs row (eR L)->pX rs row (eR L)->eS M M' a L->R (.ref a) M'
def rV:Nat->bJ
 | 0=>fun _ _ _=>False
 | d + 1=>fun ws M R=>∃ (rs:List aX) (x:W) (X:Str) (ts:List Str) (c:Int),ws=[bR rs,x]/\GQ rs/\pY rs d x X ts c/\ts.length<=100/\R (.tup [.str X,.rl (ts.map W.str),.int c]) M
abbrev fV:bJ:=rV 41
abbrev KW:bJ:=qV
abbrev zcG:List Str:=["grammar"]
def zcH:aJ:=
   (b5 (gE (dJ gS (aA 0)) (bH 0) hZ (aE aQ (aA 0) (vC (.int 2))) [none]))
abbrev zcI:List Str:=["grammar","row","weights"]
def zcJ(C:Cc):aJ:=
   (b5 (bN (yZ C) (aB (aA 0) (aB (dS (bN zR (aB (aA 1) aF))) (aB (dS (bN zS (aB (aA 1) aF))) (aB (aA 2) aF))))))
abbrev zcK:List Str:=["grammar","row","best","top"]
def zcL(C:Cc):aJ:=
   (a0 2 (pT (bN (AE C) (aB (aA 0) (aB (aA 1) (aB (dS (bN AD (aB (aA 0) aF))) aF))))))
def zcM(C:Cc):aJ:=
   (a0 3 (bN zV (aB (aA 0) (aB (aA 1) aF))))
def zcN(C:Cc):aJ:=
   (cB (bK (aE (rIn true) (aA 3) (aA 2)))
    (b5 (vC .non))
    cU)
def zcO(C:Cc):aJ:=
   (b5 (cC (aB (aE aQ (aE aQ (aE aQ (aA 2) (aA 3)) (vC (.int 0))) (vC (.int 0))) (aB (bN (AA C) (aB (aA 0) (aB (aA 2) (aB (aA 3) aF)))) aF))))
def zcP(C:Cc):aJ:=(aL (zcL C) (aL (zcM C) (aL (zcN C) (zcO C))))
abbrev zcQ:List Str:=["script","k"]
def zcR:aJ:=
   (aL (cB (bK (aE iL (aA 1) (bS dD (aB (aA 0) aF))))
    (b5 (aE aQ (aA 0) (aA 1)))
    cU)
   (b5 (vC (.int 0))))
abbrev zcS:List Str:=["cell","k","number"]
def zcT:aJ:=
   (a0 2 (aE nH (aE lM (aE cP (aE cP (aE nH (aA 0) (aE wZ (vC (.int 10)) (vC (.int 40)))) (aE lM (vC (.int 31)) (aA 1))) (vC (.int 3))) (vC (.int 3935559000370003845))) (vC (.int 2305843009213693951))))
def zcU:aJ:=
   (a0 2 (aE nH (aE lM (aA 2) (aA 2)) (vC (.int 2305843009213693951))))
def zcV:aJ:=
   (b5 (aE nH (aE lM (aA 2) (vC (.int 2691343689449507681))) (vC (.int 2305843009213693951))))
def zcW:aJ:=(aL zcT (aL zcU zcV))
abbrev zcX:List Str:=["script","numbers","cell","number","k"]
def zcY:aJ:=
   (a0 1 (fZ aF))
def zcZ:aJ:=
   (aL (a0 3 (bS HD (aB (aA 2) aF)))
   (aL (cB (bK (aE (rEq false) (aE nH (bN AG (aB (aA 0) (aB (vC (.int 0)) aF))) (vC (.int 2))) (vC (.int 1))))
    (aL (a0 3 (vC (.int 1)))
   (eI (mL (aB (vC (.int 5)) aF)) (bH 4)
    (a0 3 (aE cP (aE lM (aA 3) (vC (.int 2305843009213693951))) (bN AH (aB (aA 2) (aB (aA 4) aF)))))))
    cU)
   (eF (dG "list" fF (aA 1) (aB (aA 3) aF)))))
def zc0:aJ:=
   (eI (KI (aB (nP (aA 0) (kL (vC (.int 1))) (kL (vC (.int 60)))) aF)) (bH 2) zcZ)
def zc1:aJ:=
   (b5 (fZ (aB (aA 1) (aB (vC (.int 0)) aF))))
def zc2:aJ:=(aL zcY (aL zc0 zc1))
abbrev zc3:List Str:=["deck","many","digit"]
def zc4:aJ:=
   (cB (wN (bK (aE (rEq false) (aE aQ (aA 0) (vC (.int 1))) (vC (.int 0)))) (bK (aE qP (bS dD (aB (aE aQ (aA 0) (vC (.int 0))) aF)) (vC (.int 0)))))
    (fQ (oV "list" rPop (aE aQ (aA 0) (vC (.int 0)))) (gD (aA 0) (vC (.int 1))))
    cU)
def KY:aJ:=
   (a0 2 (aE nH (aE aQ (aA 0) (vC (.int 1))) (aA 1)))
def KZ:aJ:=
   (fQ (aE wY (aE aQ (aA 0) (vC (.int 1))) (aA 1)) (gD (aA 0) (vC (.int 1))))
def K0:aJ:=
   (b5 (aA 2))
def zc5:aJ:=(aL zc4 (aL KY (aL KZ K0)))
abbrev zc6:List Str:=[]
def zc7:aJ:=
   (b5 (fZ (aB (vC (.str "a")) (aB (vC (.str "ab")) (aB (vC (.str "ba")) (aB (vC (.str "abababab")) aF))))))
abbrev zc8:List Str:=["deck","heads","name","parts","k","kind","cost"]
def zc9:aJ:=
   (a0 3 (fZ aF))
def zda:aJ:=
   (aL (a0 5 (bN fJ (aB (aA 0) (aB (vC (.int 2)) aF))))
   (eF (dG "list" fF (aA 3) (aB (aE aQ (fR (aB (aE aQ (dS (bN rT aF)) (bN fJ (aB (aA 0) (aB (vC (.int 4)) aF)))) (aB (aE aQ (aA 1) (bN fJ (aB (aA 0) (aB (bS dD (aB (aA 1) aF)) aF)))) aF))) (aA 5)) aF))))
def zdb:aJ:=
   (eI (mL (aB (bN fJ (aB (aA 0) (aB (vC (.int 5)) aF))) aF)) (bH 4) zda)
def zdc:aJ:=
   (a0 6 (bN fJ (aB (aA 0) (aB (vC (.int 6)) aF))))
def zdd:aJ:=
   (cB (bK (aE (rEq false) (bN fJ (aB (aA 0) (aB (vC (.int 8)) aF))) (vC (.int 1))))
    (a0 6 (bN fJ (aB (aA 0) (aB (aE wZ (vC (.int 10)) (vC (.int 55))) aF))))
    cU)
def K1:aJ:=
   (b5 (cC (aB (aA 2) (aB (bS qR (aB (aA 3) aF)) (aB (aA 6) aF)))))
def zde:aJ:=(aL zc9 (aL zdb (aL zdc (aL zdd K1))))
abbrev zdf:List Str:=["deck","heads","rules","k","known","made","name","parts","cost","some"]
def zdg:aJ:=
   (a0 1 (aE aQ (fR (aB (fR (aB (vC (.str "S")) (aB (vC (.str "A")) (aB (vC (.str "NOUN")) (aB (vC (.str "B_1")) aF))))) (aB (fR (aB (vC (.str "S")) (aB (vC (.str "S_1")) (aB (vC (.str "S_12")) (aB (vC (.str "T_1")) aF))))) aF))) (bN fJ (aB (aA 0) (aB (vC (.int 2)) aF)))))
def zdh:aJ:=
   (a0 1 (nP (aA 1) tQ (kL (aE cP (vC (.int 1)) (bN fJ (aB (aA 0) (aB (vC (.int 4)) aF)))))))
def K2:aJ:=
   (a0 2 (fZ (aB (bN vM (aB (aA 0) (aB (aA 1) (aB (aE aQ (aA 1) (vC (.int 0))) aF)))) aF)))
def zdi:aJ:=
   (eF (dG "list" fF (aA 2) (aB (bN vM (aB (aA 0) (aB (aA 1) (aB (aE aQ (aA 1) (bN fJ (aB (aA 0) (aB (bS dD (aB (aA 1) aF)) aF)))) aF)))) aF)))
def K5:aJ:=
   (eI (mL (aB (bN fJ (aB (aA 0) (aB (vC (.int 10)) aF))) aF)) (bH 3) zdi)
def K6:aJ:=
   (a0 4 (dS (gE (dJ jU (aA 2)) (hW 3 (cR (bH 0) (cR (bH 1) (cR (bH 2) hV)))) hZ (aA 0) [none,none,none])))
def K7:aJ:=
   (a0 5 (fZ aF))
def zdj:aJ:=
   (aL (a0 9 (dS (gE (dJ gS (aA 7)) (bH 0) hZ (aE aQ (fR (aB (aA 0) (aB (vC (.str "ab")) aF))) (bS vJ (aB (qM (aE (rIn false) (aA 0) (aA 1)) (aE (rIn true) (aA 0) (aA 2))) aF))) [none,some 1,some 4])))
   (eF (dG "list" fF (aA 5) (aB (cC (aB (aA 6) (aB (bS qR (aB (aA 9) aF)) (aB (aA 8) aF)))) aF))))
def K8:aJ:=
   (eI (dJ jU (aA 2)) (hW 3 (cR (bH 6) (cR (bH 7) (cR (bH 8) hV)))) zdj)
def K9:aJ:=
   (b5 (aA 5))
def zdk:aJ:=(aL zdg (aL zdh (aL K2 (aL K5 (aL K6 (aL K7 (aL K8 K9)))))))
abbrev zdl:List Str:=["deck","grammar","pile","row","step","part","some"]
def zdm:aJ:=
   (a0 2 (fZ (aB (aE aQ (aE aQ (aA 1) (vC (.int 0))) (vC (.int 0))) aF)))
def zdn:aJ:=
   (a0 3 (fZ aF))
def zdo:aJ:=
   (aL (cB (fP (bK (aE (rEq false) (aA 2) (fR aF))) (bK (aE qP (bS dD (aB (aA 3) aF)) (vC (.int 8)))))
    GK
    cU)
   (aL (a0 5 (oV "list" rPop (aA 2)))
   (aL (a0 6 (dS (gE (dJ jU (aA 1)) (hW 3 (cR (bH 0) (cR (bH 1) (cR (bH 2) hV)))) (bK (aE (rEq false) (aA 0) (aA 3))) (aA 1) [none,none,none,some 5])))
   (cB (bK (aE (rEq false) (aA 6) (fR aF)))
    (eF (dG "list" fF (aA 3) (aB (aA 5) aF)))
    (a0 2 (aE tH (aA 2) (HI (aE aQ (aA 6) (bN fJ (aB (aA 0) (aB (bS dD (aB (aA 6) aF)) aF)))))))))))
def zdp:aJ:=
   (eI (mL (aB (vC (.int 60)) aF)) (bH 4) zdo)
def LA:aJ:=
   (cB (bK (aE (rEq true) (aA 2) (fR aF)))
    (b5 (vC .non))
    cU)
def LB:aJ:=
   (b5 (aA 3))
def zdq:aJ:=(aL zdm (aL zdn (aL zdp (aL LA LB))))
abbrev zdr:List Str:=["deck","grammar","row","at"]
def zds:aJ:=
   (a0 2 (vC .non))
def zdt:aJ:=
   (cB (bK (aE qP (bN fJ (aB (aA 0) (aB (vC (.int 3)) aF))) (vC (.int 0))))
    (a0 2 (dS (bN AK (aB (aA 0) (aB (aA 1) aF)))))
    cU)
def LC:aJ:=
   (cB (bK (aE (oZ false) (aA 2) (vC .non)))
    (a0 2 (dS (gE (mL (aB (bN fJ (aB (aA 0) (aB (vC (.int 9)) aF))) aF)) (bH 0) hZ (aE aQ (dS (bN rT aF)) (bN fJ (aB (aA 1) (aB (vC (.int 4)) aF)))) [none,some 0])))
    cU)
def AR:aJ:=
   (cB (wN (bK (aE (rEq true) (aA 2) (fR aF))) (bK (aE (rEq false) (bN fJ (aB (aA 0) (aB (vC (.int 4)) aF))) (vC (.int 1)))))
    (aL (a0 3 (bN fJ (aB (aA 0) (aB (bS dD (aB (aA 2) aF)) aF))))
   (a0 2 (aE cP (aE cP (nP (aA 2) tQ (kL (aA 3))) (fR (aB (aE aQ (dS (bN rT aF)) (bN fJ (aB (aA 0) (aB (vC (.int 4)) aF)))) aF))) (nP (aA 2) (kL (aE cP (aA 3) (vC (.int 1)))) tQ))))
    cU)
def AU:aJ:=
   (b5 (aA 2))
def zdu:aJ:=(aL zds (aL zdt (aL LC (aL AR AU))))
abbrev zdv:List Str:=["grammar","row","costs","parts","begin","here","part","there","at","goals","goal","cost"]
def zdw:aJ:=
   (a0 5 (KG (aA 4) (vC (.int 0))))
def zdx:aJ:=
   (aL (a0 7 nK)
   (aL (vD 5 (eI (dJ kT (aA 5)) (bH 8)
    (aL (a0 9 (pT (bS tZ (aB (aE lM (fR (aB (cC (aB (aE cP (aA 8) (vC (.int 1))) (aB (vC (.int 0)) aF))) aF)) (bS vJ (aB (qM (aE iL (aA 8) (bS dD (aB (aA 1) aF))) (aE (rEq false) (nP (aA 1) (kL (aA 8)) (kL (aE cP (aA 8) (vC (.int 1))))) (fR (aB (aA 6) aF)))) aF))) aF))))
   (aL (cB (bK (aE (rIn false) (aA 6) (dS (gE (dJ gS (aA 0)) (bH 0) hZ (aE aQ (aA 0) (vC (.int 0))) [none]))))
    (a0 9 (dG "dict" mS (aA 2) (aB (cC (aB (aA 6) (aB (aA 8) aF))) (aB (pT nK) aF))))
    cU)
   (eI (dJ kT (aA 9)) (bH 10)
    (aL (a0 11 (aE cP (aE aQ (aA 5) (aA 8)) (aE aQ (aA 9) (aA 10))))
   (cB (fP (bK (aE (rIn true) (aA 10) (aA 7))) (bK (aE iL (aA 11) (aE aQ (aA 7) (aA 10)))))
    (fQ (aA 11) (gD (aA 7) (aA 10)))
    cU)))))))
   (a0 5 (aA 7))))
def zdy:aJ:=
   (eI (dJ gS (aA 3)) (bH 6) zdx)
def zdz:aJ:=
   (b5 (aA 5))
def zdA:aJ:=(aL zdw (aL zdy zdz))
abbrev zdB:List Str:=["grammar","row","costs","more","name","parts","cost","begin","ends","own","end"]
def zdC:aJ:=
   (a0 2 mI)
def zdD:aJ:=
   (a0 3 (vC (.bl true)))
def zdE:aJ:=
   (aL (a0 3 (vC (.bl false)))
   (eI (dJ jU (aA 0)) (hW 3 (cR (bH 4) (cR (bH 5) (cR (bH 6) hV))))
    (eI (mL (aB (aE cP (bS dD (aB (aA 1) aF)) (vC (.int 1))) aF)) (bH 7)
    (aL (a0 8 (J4 2 (bN AN (aB (aA 0) (aB (aA 1) (aB (aA 2) (aB (aA 5) (aB (aA 7) aF))))))))
   (aL (a0 9 (dG "dict" pI (aA 2) (aB (cC (aB (aA 4) (aB (aA 7) aF))) (aB nK aF))))
   (vD 8 (eI (dJ kT (aA 8)) (bH 10)
    (cB (fP (bK (aE (rIn true) (aA 10) (aA 9))) (bK (aE iL (aE cP (aA 6) (aE aQ (aA 8) (aA 10))) (aE aQ (aA 9) (aA 10)))))
    (aL (fQ (aE cP (aA 6) (aE aQ (aA 8) (aA 10))) (gD (aA 9) (aA 10)))
   (a0 3 (vC (.bl true))))
    cU))))))))
def zdF:aJ:=
   (qU (i9 (aA 3)) zdE)
def zdG:aJ:=
   (b5 (aA 2))
def zdH:aJ:=(aL zdC (aL zdD (aL zdF zdG)))
abbrev LD:List Str:=["grammar","tree","name","parts","cost","row","part","child","inner"]
def zdI(fV:bJ):aJ:=
   (cB (fP (mD (i9 (bS jW (aB (aA 1) (aB (vC (.ty "tuple")) aF))))) (fP (bK (aE (rEq true) (bS dD (aB (aA 1) aF)) (vC (.int 2)))) (mD (i9 (bS jW (aB (aE aQ (aA 1) (vC (.int 1))) (aB (vC (.ty "tuple")) aF)))))))
    (b5 (vC .non))
    cU)
def zdJ(fV:bJ):aJ:=
   (cB (fP (mD (i9 (bS jW (aB (aE aQ (aA 1) (vC (.int 0))) (aB (vC (.ty "int")) aF))))) (fP (i9 (bS jW (aB (aE aQ (aA 1) (vC (.int 0))) (aB (vC (.ty "bool")) aF)))) (mD (bK (xJ F0 iL (vC (.int 0)) (aE aQ (aA 1) (vC (.int 0))) (bS dD (aB (aA 0) aF)))))))
    (b5 (vC .non))
    cU)
def zdK(fV:bJ):aJ:=
   (fQ (aE aQ (aA 0) (aE aQ (aA 1) (vC (.int 0)))) (hW 3 (cR (bH 2) (cR (bH 3) (cR (bH 4) hV)))))
def zdL(fV:bJ):aJ:=
   (cB (bK (aE (rEq true) (bS dD (aB (aE aQ (aA 1) (vC (.int 1))) aF)) (bS dD (aB (aA 3) aF))))
    (b5 (vC .non))
    cU)
def zdM(fV:bJ):aJ:=
   (a0 5 (fZ aF))
def zdN(fV:bJ):aJ:=
   (cB (i9 (bS jW (aB (aA 7) (aB (vC (.ty "str")) aF))))
    (aL (cB (fP (bK (aE (rEq true) (aA 7) (aA 6))) (bK (aE (rIn false) (aA 6) (dS (gE (dJ gS (aA 0)) (bH 0) hZ (aE aQ (aA 0) (vC (.int 0))) [none])))))
    (b5 (vC .non))
    cU)
   (eF (dG "list" fF (aA 5) (aB (aA 7) aF))))
    (aL (a0 8 (bN fV (aB (aA 0) (aB (aA 7) aF))))
   (aL (cB (fP (bK (aE (oZ false) (aA 8) (vC .non))) (bK (aE (rEq true) (aE aQ (aA 8) (vC (.int 0))) (aA 6))))
    (b5 (vC .non))
    cU)
   (aL (a0 5 (aE tH (aA 5) (aE aQ (aA 8) (vC (.int 1)))))
   (a0 4 (aE cP (aA 4) (aE aQ (aA 8) (vC (.int 2)))))))))
def zdO(fV:bJ):aJ:=
   (eI (HG (aB (aA 3) (aB (aE aQ (aA 1) (vC (.int 1))) aF))) (hW 2 (cR (bH 6) (cR (bH 7) hV))) (zdN fV))
def zdP(fV:bJ):aJ:=
   (b5 (cC (aB (aA 2) (aB (dS (aA 5)) (aB (aA 4) aF)))))
def zdQ(fV:bJ):aJ:=(aL (zdI fV) (aL (zdJ fV) (aL (zdK fV) (aL (zdL fV) (aL (zdM fV) (aL (zdO fV) (zdP fV)))))))
abbrev zdR:List Str:=["script","deck","grammar","row","first","due","handed","found"]
def zdS(C:Cc):aJ:=
   (a0 1 (bN AI (aB (aA 0) aF)))
def zdT(C:Cc):aJ:=
   (a0 2 (dS (bN AJ (aB (aA 1) aF))))
def zdU(C:Cc):aJ:=
   (a0 3 (dS (bN AL (aB (aA 1) (aB (aA 2) aF)))))
def zdV(C:Cc):aJ:=
   (a0 4 (aE aQ (aE aQ (aA 2) (vC (.int 0))) (vC (.int 0))))
def zdW(C:Cc):aJ:=
   (a0 5 (dG "dict" mS (dG "dict" mS (bN AQ (aB (aA 2) (aB (aA 3) aF))) (aB (cC (aB (aA 4) (aB (vC (.int 0)) aF))) (aB (dS nK) aF))) (aB (bS dD (aB (aA 3) aF)) aF)))
def LF(C:Cc):aJ:=
   (a0 6 (cC (aB (bS xK (aB (aA 2) aF)) (aB (bS xK (aB (aA 3) aF)) aF))))
def LG(C:Cc):aJ:=
   (a0 7 (bN (AF C) (aB (aE aQ (aA 6) (vC (.int 0))) (aB (aE aQ (aA 6) (vC (.int 1))) aF))))
def LH(C:Cc):aJ:=
   (cB (bK (aE (rEq true) (aA 6) (cC (aB (aA 2) (aB (aA 3) aF)))))
    (b5 (vC (.bl false)))
    cU)
def LI(C:Cc):aJ:=
   (cB (bK (aE (oZ false) (aA 5) (vC .non)))
    (b5 (aE (oZ false) (aA 7) (vC .non)))
    cU)
def LJ(C:Cc):aJ:=
   (cB (fP (mD (i9 (bS jW (aB (aA 7) (aB (vC (.ty "tuple")) aF))))) (bK (aE (rEq true) (bS dD (aB (aA 7) aF)) (vC (.int 2)))))
    (b5 (vC (.bl false)))
    cU)
def LK(C:Cc):aJ:=
   (cB (fP (mD (i9 (bS jW (aB (aE aQ (aA 7) (vC (.int 0))) (aB (vC (.ty "int")) aF))))) (i9 (bS jW (aB (aE aQ (aA 7) (vC (.int 0))) (aB (vC (.ty "bool")) aF)))))
    (b5 (vC (.bl false)))
    cU)
def LL(C:Cc):aJ:=
   (b5 (qM (aE (rEq false) (aE aQ (aA 7) (vC (.int 0))) (aA 5)) (aE (rEq false) (bN fV (aB (aA 2) (aB (aE aQ (aA 7) (vC (.int 1))) aF))) (cC (aB (aA 4) (aB (aA 3) (aB (aA 5) aF)))))))
def zdX(C:Cc):aJ:=(aL (zdS C) (aL (zdT C) (aL (zdU C) (aL (zdV C) (aL (zdW C) (aL (LF C) (aL (LG C) (aL (LH C) (aL (LI C) (aL (LJ C) (aL (LK C) (LL C))))))))))))
theorem zdY:∀ ws M R,AD ws M R->ws.length=1:=by rintro ws M R ⟨_,rfl,_⟩;rfl
theorem zdZ{C:Cc}:∀ ws M R,AE C ws M R->ws.length=3:=by rintro ws M R ⟨_,_,rfl,_⟩;rfl
theorem zd0{C:Cc}:∀ ws M R,AF C ws M R->ws.length=2:=by rintro ws M R ⟨_,_,_,rfl,_⟩;rfl
theorem zd1:∀ ws M R,AG ws M R->ws.length=2:=by rintro ws M R ⟨_,_,rfl,_⟩;rfl
theorem zd2:∀ ws M R,AH ws M R->ws.length=2:=by rintro ws M R ⟨_,_,rfl,_⟩;rfl
theorem zd3:∀ ws M R,AI ws M R->ws.length=1:=by rintro ws M R ⟨_,rfl,_⟩;rfl
theorem zd4:∀ ws M R,fJ ws M R->ws.length=2:=by rintro ws M R ⟨_,_,_,rfl,_⟩;rfl
theorem zd5:∀ ws M R,rT ws M R->ws.length=0:=by rintro ws M R ⟨rfl,_⟩;rfl
theorem zd6:∀ ws M R,vM ws M R->ws.length=3:=by rintro ws M R ⟨_,_,_,_,rfl,_⟩;rfl
theorem zd7:∀ ws M R,AJ ws M R->ws.length=1:=by rintro ws M R ⟨_,_,rfl,_⟩;rfl
theorem zd8:∀ ws M R,AK ws M R->ws.length=2:=by rintro ws M R ⟨_,_,_,rfl,_⟩;rfl
theorem zd9:∀ ws M R,AL ws M R->ws.length=2:=by rintro ws M R ⟨_,_,_,rfl,_⟩;rfl
theorem zea:∀ ws M R,AN ws M R->ws.length=5:=by rintro ws M R ⟨_,_,_,_,_,rfl,_⟩;rfl
theorem zeb:∀ ws M R,AQ ws M R->ws.length=2:=by rintro ws M R ⟨_,_,rfl,_⟩;rfl
theorem zec:∀ d ws M R,rV d ws M R->ws.length=2:=by
 intro d ws M R h
 cases d with
 | zero=>exact h.elim
 | succ d=>obtain⟨_,_,_,_,_,rfl,_⟩:=h;rfl
theorem zed:∀ ws M R,KW ws M R->ws.length=1:=by rintro ws M R ⟨_,rfl,_⟩;rfl
theorem zee{ws:List W}{M:Mm}{R:K3}(h:AD ws M R):zcH (bT R) (b8 zcG ws) M:=by
 obtain⟨rs,rfl,hl,r⟩:=h
 refine⟨_,rfl,nW (xP (rest:=[]) (fun w y=>∃ q:aX,w=eP q/\y=.int q.cost) (iA (by rw[Ab];lia)) (fun _ _=>trivial) (fun w hw M' C sb h1=>?_) fun ys po=>?_)⟩
 ·obtain⟨q,_,rfl⟩:=Ba.mp hw
  exact⟨_,rfl,_,eN (j:=2) rfl,h1 _ ⟨q,rfl,rfl⟩⟩
 ·have e:ys=rs.map fun q=>W.int q.cost:=by
   clear r hl
   induction rs generalizing ys with
   | nil=>cases po;rfl
   | cons q rs ih=>
    cases po with
    | cons a b=>
     obtain⟨q',e1,rfl⟩:=a
     have:q=q':=by
      obtain⟨n1,p1,c1⟩:=q
      obtain⟨n2,p2,c2⟩:=q'
      simp only[eP,W.tup.injEq,Cs,W.str.injEq,W.int.injEq,and_true] at e1
      obtain⟨rfl,h2,rfl⟩:=e1
      have:p1=p2:=by
       have inj:∀ (a b:List Str),a.map W.str=b.map W.str->a=b:=by
        intro a
        induction a with
        | nil=>intro b h;cases b;rfl;cases h
        | cons x a ih=>
         intro b h
         cases b with
         | nil=>cases h
         | cons y b=>
          rw[Ay,Ay,Cs,W.str.injEq] at h
          rw[h.1,ih b h.2]
       exact inj _ _ h2
      rw[this]
     rw[this,ih _ b];rfl
  rw[e]
  exact vK r
theorem zef{C:Cc}{ws:List W}{M:Mm}{R:K3}(h:AE C ws M R):zcJ C (bT R) (b8 zcI ws) M:=by
 obtain⟨rs,row,rfl,g,w,r⟩:=h
 have hl:=w.few
 have hf:=g.few
 refine⟨_,rfl,_,rfl,row,rfl,Bh hl (by decide),bC.frz ⟨_,rfl,row,rfl,Bh hl (by decide),kI.frz ⟨_,rfl,?_⟩⟩⟩
 refine⟨cS rs row,⟨rs,ownOf rs,jM row⟩,b7 row.length,5,1,?_,by show rs.length<=100;lia,rfl,⟨rfl,zT rs,fun t p=>?_⟩,JM g,zB g,by decide,?_,fun t p=>?_,?_,fun B hB=>KL (r B hB)⟩
 ·show [_,_,_,_]=[_,_,_,_]
  congr 2
  ·show W.rl _=W.rl (((Cw (row.length + 1)).map fun(i:Nat)=>(i:Int)).map W.int)
   rw[Bp];rfl
  ·congr 2
   show W.rl (rs.map fun r=>W.int r.cost)=W.rl ((Cw rs.length).map fun n=>W.int (mY rs n))
   congr 1
   refine List.ext_getElem? fun k=>?_
   rw[Av,Av]
   by_cases hk:k < rs.length
   ·rw[Ii hk,An hk]
    show some _=some (W.int (mY rs k))
    rw[u3 (An hk)]
   ·rw[Em (by lia),Em (by rw[Eg];lia)];rfl
 ·show(a9 (jM row) (eK (t,p))=none/\gK row t p=[])\/a9 (jM row) (eK (t,p))=some (.rl ((gK row t p).map fun z=>.tup [.int z.1,.int z.2]))
  rw[zbR]
  unfold gK
  by_cases h:0<=p/\row[p.toNat]? = some t
  ·right;rw[if_pos h,if_pos h];rfl
  ·left;rw[if_neg h,if_neg h];exact⟨rfl,rfl⟩
 ·show(b7 row.length).length<=1000
  unfold b7
  rw[Ab,Eg];lia
 ·show(gK row t p).length<=1
  unfold gK;split <;> simp
 ·have e1:(jZ (cS rs row)).length=rs.length * (b7 row.length).length:=y6 (cS rs row) rs.length
  have e2:(b7 row.length).length=row.length + 1:=by unfold b7;rw[Ab,Eg]
  rw[e1,e2]
  show rs.length * (row.length + 1) + rs.length * ((5 + 1) * ((row.length + 1) * (row.length + 1))) * (1 + (row.length + 1)) + rs.length * ((5 + 1) * ((row.length + 1) * (row.length + 1))) + (row.length + 1) + 1 + 1 < 10000000
  have k1:row.length + 1<=10:=by lia
  have k2:=Hw k1 k1
  have k3:=Hw hf (Nat.mul_le_mul_left (5 + 1) k2)
  have k4:=Hw k3 (Jx k1 1)
  have k5:=Hw hf k1
  lia
theorem rW(n:Nat):(b7 n).length=n + 1:=by unfold b7;rw[Ab,Eg]
theorem zeg{rs:List aX}{row:List Str}{B:bV}(g:GQ rs)(w:RQ row)(hB:kR (cS rs row) B):Wb (cS rs row) B:=by
 refine⟨fun t=>rfl,Bh g.few (by decide),JJ hB,?_,fun r hr=>Bh (g.fp r hr) (by decide)⟩
 obtain⟨hs,hl4,hh⟩:=g.hd
 have:=len_sub (b:=hs.flatMap fun X=>(b7 row.length).flatMap fun b=>(b7 row.length).map fun e=>(X,b,e)) (y9 hB) fun f hf=>by
  have i:=zJ g hh hB hf
  have:=i.lo
  have:=i.le
  have:=i.hi
  exact Dw.mpr ⟨f.1,i.nm,Dw.mpr ⟨f.2.1,n5.mpr ⟨by lia,by lia⟩,Ba.mpr ⟨f.2.2,n5.mpr ⟨by lia,by lia⟩,rfl⟩⟩⟩
 rw[Ab,mT (k:=(row.length + 1) * (row.length + 1)) fun X _=>by rw[mT (k:=row.length + 1) fun b _=>by rw[Ab,rW],rW]] at this
 have k1:row.length + 1<=10:=by have:=w.few;lia
 have k2:=Hw hl4 (Hw k1 k1)
 lia
theorem zeh{C:Cc}{ws:List W}{M:Mm}{R:K3}(h:AF C ws M R):zcP C (bT R) (b8 zcK ws) M:=by
 obtain⟨q,rs,row,rfl,g,w,r⟩:=h
 have hf:=g.few
 refine⟨_,rfl,_,rfl,_,rfl,q :: rs,rfl,Bh hf (by decide),bC.frz ⟨q :: rs,row,rfl,g,w,fun B hB p hp=>⟨p,rfl,.inr ⟨_,aT,?_⟩⟩⟩⟩
 rw[i7 hp]
 refine⟨_,rfl,_,rfl,q,rs,row,rfl,?_⟩
 obtain⟨r1,r2⟩:=r B hB
 refine⟨_,rfl,_,rfl,_,⟨fK (iF q row),rfl,rfl⟩,_,rfl,?_⟩
 show if (!(a9 (dC fK fU B) (fK (iF q row))).isSome)=true then _ else _
 rw[j5 mV]
 cases e:aG B (iF q row) with
 | none=>exact⟨_,Sub.refl _,r2 e⟩
 | some v=>
  have lk:some (fU v)=a9 (dC fK fU B) (fK (iF q row)):=by rw[j5 mV,e];rfl
  exact⟨_,rfl,_,rfl,_,⟨fK (iF q row),rfl,lk⟩,_,rfl,_,rfl,_,rfl,_,rfl,_,rfl,cS (q :: rs) row,B,iF q row,rfl,zeg g w hB,gA.mp (by rw[e];rfl),z2,_,Sub.refl _,r1 v e⟩
theorem zei{ws:List W}{M:Mm}{R:K3}(h:AG ws M R):zcR (bT R) (b8 zcQ ws) M:=by
 obtain⟨zs,k,rfl,r⟩:=h
 refine⟨_,rfl,_,rfl,_,rfl,b9 (fun z=>?_) fun _=>⟨_,Sub.refl _,r 0⟩⟩
 have z:=of_decide_eq_true z
 rw[Ab] at z
 have hk:k < zs.length:=by lia
 exact⟨_,rfl,_,rfl,_,eN (v:=.int zs[k]) (by rw[Av,An hk];rfl),_,Sub.refl _,r _⟩
theorem zej{ws:List W}{M:Mm}{R:K3}(h:AH ws M R):zcW (bT R) (b8 zcS ws) M:=by
 obtain⟨c,k,rfl,r⟩:=h
 have b1:=fun x:Int=>Int.emod_nonneg x (show(2305843009213693951:Int)≠0 by decide)
 have b2:=fun x:Int=>Int.emod_lt_of_pos x (show(0:Int) < 2305843009213693951 by decide)
 have m61:(0:Int) < 2305843009213693951:=by decide
 have m40:(0:Int) < 10 ^ Int.toNat 40:=by decide
 refine⟨_,rfl,⟨by decide,by decide,by decide⟩,m40,_,rfl,.inl (.inl ⟨by decide,by decide⟩),.inl (.inr ⟨by decide,by decide⟩),m61,_,rfl,_,rfl,.inl (.inl ⟨?_,?_⟩),m61,_,rfl,.inl (.inr ⟨by decide,by decide⟩),m61,_,Sub.refl _,r _⟩
 ·have:=b1 ((c % 10 ^ 40 + 31 * k + 3) * 3935559000370003845);lia
 ·have:=b2 ((c % 10 ^ 40 + 31 * k + 3) * 3935559000370003845);lia
theorem zek{ws:List W}{M:Mm}{R:K3}(h:rT ws M R):zc7 (bT R) (b8 zc6 ws) M:=by
 obtain⟨rfl,r⟩:=h
 exact⟨z4,vK r⟩
theorem zel{ws:List W}{M:Mm}{R:K3}(h:fJ ws M R):zc5 (bT R) (b8 zc3 ws) M:=by
 obtain⟨d,n,many,rfl,h0,h1,dk,r⟩:=h
 have rest:∀ M2,Dq d n M2->Oq d n M M2->(aL KY (aL KZ K0)) (bT R) [some (.ref d),some (.int many),none] M2:=fun M2 dk2 o2=>by
  obtain⟨dn,ns,v,hd,hn⟩:=dk2
  refine⟨_,rfl,.inl ⟨_,_,hd,xT _ _ _,_,rfl,h0,_,rfl,.inl ⟨_,_,hd,xT _ _ _,_,rfl,⟨h0,Int.lt_of_le_of_lt h1 (by decide +kernel)⟩,_,rfl,HC hd (by decide) (show(1:Int) < 2 by decide) ⟨_,rfl,_,Sub.refl _,r _ _ (Int.emod_nonneg _ (by lia)) (Int.emod_lt_of_pos _ h0) ⟨dn,ns,v / many,aT,by rw[aN (Bf dn)];exact hn⟩ fun p o p1 p2 e=>?_⟩⟩⟩⟩
  rw[aN p1];exact o2 p o p1 p2 e
 obtain⟨dn,ns,v,hd,hn⟩:=id dk
 refine⟨_,rfl,.inl ⟨_,_,hd,xT _ _ _,_,rfl,b9 (fun _=>⟨_,rfl,.inl ⟨_,_,hd,xS _ _,?_⟩⟩) fun _=>rest _ dk Oq.refl⟩⟩
 refine .inl ⟨_,hn,_,rfl,b9 (fun z=>?_) fun _=>rest _ dk Oq.refl⟩
 rcases Dh ns with rfl | ⟨ns,x,rfl⟩
 ·cases z
 ·rw[Dj,Ax] at hn
  refine⟨_,rfl,.inl ⟨_,_,hd,xS _ _,fD hn,_,_,hn,_,rfl,HC (ws:=[.ref n,.int v]) (by rw[aN dn];exact hd) (by decide) (show(1:Int) < 2 by decide) (rest _ ⟨dn,ns,x,by rw[aT];rfl,by rw[aN (Bf dn),aT]⟩ fun p o p1 p2 e=>?_)⟩⟩
  rw[aN p1,aN p2];exact e
theorem p5{lo:Int}{n i:Nat}{w:W}(h:(jV lo n)[i]? = some w):i < n/\w=.int (lo + i):=by
 unfold jV at h
 rw[Av] at h
 obtain⟨j,hj,rfl⟩:=Bj.mp h
 obtain⟨h1,h2⟩:=Aj.mp hj
 simp at h1 h2
 subst h2
 exact⟨h1,rfl⟩
theorem rX{lo:Int}{n:Nat}:(jV lo n).length=n:=by unfold jV;simp
theorem zem{ws:List W}{M:Mm}{R:K3}(h:AI ws M R):zc2 (bT R) (b8 zcX ws) M:=by
 obtain⟨zs,rfl,hz,r⟩:=h
 refine⟨Bv _,fun n hn=>⟨_,rfl,_,rfl,_,rfl,_,rfl,?_⟩⟩
 obtain⟨cells,hcells⟩:∃ cells,cells=(dU (zs.map W.int) (some 1) (some 60)).reverse:=⟨_,rfl⟩
 rw[<-hcells]
 have hc:∀ w∈cells,∃ i,w=W.int i:=fun w hw=>by
  rw[hcells] at hw
  exact L3.ints_map zs w (G8 (List.mem_reverse.mp hw))
 have hcl:cells.length<=63:=by
  rw[hcells,Fs]
  exact Bh xU (by rw[Ab];exact hz)
 refine eO (fun i τ M'=>∃ (ns:List Int) (o2 o3 o4:Option W),τ=[some (.sc (zs.map W.int)),some (.ref n),o2,o3,o4]/\M'=put M n (.lst (ns.map W.int))/\ns.length<=i) ⟨[],_,_,_,rfl,rfl,Ai _⟩ (fun _ _ _ _ _=>trivial) ?_ ?_
 ·rintro i w τ M' hw ⟨ns,o2,o3,o4,rfl,rfl,hl⟩
  obtain⟨c,rfl⟩:=hc w (Be hw)
  have hil:=(Aj.mp hw).1
  have fin:∀ (x:Int) (o4:Option W),(eF (dG "list" fF (aA 1) (aB (aA 3) aF))) {(bT R) with nx:=fun τ' M'=>∃ M'',L3.Sub M'' M'/\∃ (ns:List Int) (o2 o3 o4:Option W),τ'=[some (.sc (zs.map W.int)),some (.ref n),o2,o3,o4]/\M''=put M n (.lst (ns.map W.int))/\ns.length<=i + 1} [some (.sc (zs.map W.int)),some (.ref n),some (.int c),some (.int x),o4] (put M n (.lst (ns.map W.int))):=fun x o4=>
   ⟨_,rfl,fD aT,_,rfl,_,aT,eC (by rw[Ab];lia),_,Sub.refl _,ns ++ [x],_,_,_,rfl,by rw[gP,Ax];rfl,by rw[Ak,Bk];lia⟩
  refine⟨_,rfl,_,rfl,zs,0,rfl,fun z0=>⟨show(0:Int) < 2 by decide,_,rfl,b9 (fun _=>?_) fun _=>fin _ _⟩⟩
  refine⟨_,rfl,by decide,by decide,eO (fun j τ M2=>∃ (x:Int) (o4:Option W),τ=[some (W.sc (zs.map W.int)),some (.ref n),some (.int c),some (.int x),o4]/\M2=put M n (.lst (ns.map W.int))) ⟨_,_,rfl,rfl⟩ (fun _ _ _ _ _=>trivial) ?_ ?_⟩
  ·rintro j w τ M2 hw ⟨x,o4,rfl,rfl⟩
   obtain⟨hj,rfl⟩:=p5 hw
   exact⟨_,rfl,.inl (.inr ⟨by decide,by decide⟩),_,rfl,_,rfl,_,_,rfl,fun z=>⟨_,Sub.refl _,_,_,rfl,rfl⟩⟩
  ·rintro τ M2 ⟨x,o4,rfl,rfl⟩
   exact fin x o4
 ·rintro τ M' ⟨ns,o2,o3,o4,rfl,rfl,hl⟩
  refine⟨_,rfl,z2,fun d hd=>?_⟩
  have hdn:d≠n:=fun e=>by subst e;rw[aT] at hd;cases hd
  have hdM:M d=none:=by rw[aN hdn] at hd;exact hd
  exact⟨_,Sub.refl _,r d n _ ⟨hdn,ns,0,aT,by rw[aN (Bf hdn),aT]⟩ ((Sub.new hn).trans (Sub.new hd)) hdM hn⟩
theorem oF{ts:List Str}{z:Int}(h0:0<=z)(h1:z < (ts.length:Int)):∃ t,cG (ts.map W.str) z=some (.str t)/\t∈ts:=by
 have hz:z.toNat < ts.length:=by lia
 refine⟨ts[z.toNat],?_,List.getElem_mem hz⟩
 have e:cG (ts.map W.str) ((z.toNat:Nat):Int)=some (.str ts[z.toNat]):=eN (by rw[Av,An hz];rfl)
 rwa [show((z.toNat:Nat):Int)=z by lia] at e
theorem vN{k:Int}(h:k<=1000):k<=10 ^ 55:=Lj h (by decide)
theorem zen{ws:List W}{M:Mm}{R:K3}(h:vM ws M R):zde (bT R) (b8 zc8 ws) M:=by
 obtain⟨d,n,hs,X,rfl,dk,h1,h4,r⟩:=h
 refine⟨Bv _,fun p hp=>?_⟩
 obtain⟨pd,pn⟩:=dk.ne hp
 refine⟨_,rfl,d,n,5,rfl,by decide,by decide,dk.put hp,fun c1 M1 c10 c11 dk1 o1=>⟨_,rfl,by lia,by lia,?_⟩⟩
 have m1:M1 p=some (.lst []):=o1 p _ pd pn aT
 have o1:Oq d n M M1:=o1.sub (Sub.new hp)
 refine eO (fun i τ M'=>∃ (ps:List Str) (o4 o5 o6:Option W),τ=[some (.ref d),some (.rl (hs.map W.str)),some (.str X),some (.ref p),o4,o5,o6]/\M' p=some (.lst (ps.map W.str))/\ps.length<=i/\(∀ t∈ps,t∈WQ\/t∈hs)/\Dq d n M'/\Oq d n M M') ⟨[],_,_,_,rfl,m1,Ai _,(fun _ h=>nomatch h),dk1,o1⟩ (fun _ _ _ _ _=>trivial) ?_ ?_
 ·rintro i w τ M' hw ⟨ps,o4,o5,o6,rfl,mp,hl,hps,dk2,o2⟩
  obtain⟨hi,rfl⟩:=p5 hw
  refine⟨_,rfl,d,n,2,rfl,by decide,by decide,dk2,fun c2 M2 c20 c21 dk3 o3=>?_⟩
  have mp2:=o3 p _ pd pn mp
  refine⟨_,rfl,fD mp2,rfl,bC.frz ⟨_,rfl,d,n,4,rfl,by decide,by decide,dk3,fun c3 M3 c30 c31 dk4 o4=>?_⟩⟩
  obtain⟨t1,et1,mt1⟩:=oF (ts:=WQ) c30 c31
  refine⟨_,et1,_,rfl,_,rfl,_,rfl,d,n,_,rfl,?_,?_,dk4,fun c4 M4 c40 c41 dk5 o5=>?_⟩
  ·rw[Ab];lia
  ·rw[Ab];exact vN (by lia)
  rw[Ab] at c41
  obtain⟨t2,et2,mt2⟩:=oF (ts:=hs) c40 c41
  obtain⟨t3,et3,mt3⟩:=oF (ts:=[t1,t2]) c20 c21
  have mp4:=o5 p _ pd pn (o4 p _ pd pn mp2)
  refine⟨_,et2,z2,_,rfl,_,et3,_,mp4,eC (by rw[Ab];lia),_,Sub.refl _,ps ++ [t3],_,_,_,rfl,by rw[aT,Ax];rfl,by rw[Ak,Bk];lia,fun t ht=>?_,dk5.pot pd pn,((((o2.trans o3).trans o4).trans o5).put hp)⟩
  rcases Bo.mp ht with ht | ht
  ·exact hps t ht
  ·rw[Aw.mp ht]
   rcases Ar.mp mt3 with rfl | mt3
   ·exact .inl mt1
   ·rw[Aw.mp mt3];exact .inr mt2
 ·rintro τ M' ⟨ps,o4,o5,o6,rfl,mp,hl,hps,dk2,o2⟩
  rw[rX] at hl
  have hl4:ps.length<=4:=by lia
  have fin:∀ (c:Int) M2,0<=c->M2 p=some (.lst (ps.map W.str))->Dq d n M2->Oq d n M M2->K1 (bT R) [some (.ref d),some (.rl (hs.map W.str)),some (.str X),some (.ref p),o4,o5,some (.int c)] M2:=fun c M2 hc m2 dk2 o2=>
   ⟨_,rfl,_,rfl,_,m2,_,rfl,z3,_,Sub.refl _,r ⟨X,ps,c⟩ M2 rfl hl4 hps hc dk2 o2⟩
  refine⟨_,rfl,d,n,6,rfl,by decide,by decide,dk2,fun c1 M1 c10 c11 dk3 o3=>?_⟩
  have mp1:=o3 p _ pd pn mp
  refine⟨_,rfl,d,n,8,rfl,by decide,by decide,dk3,fun c2 M2 c20 c21 dk4 o4=>⟨_,rfl,b9 (fun _=>?_) fun _=>fin c1 M2 c10 (o4 p _ pd pn mp1) dk4 ((o2.trans o3).trans o4)⟩⟩
  refine⟨_,rfl,⟨by decide,by decide,by decide⟩,d,n,_,rfl,by decide,Fn _,dk4,fun c3 M3 c30 c31 dk5 o5=>fin c3 M3 c30 (o5 p _ pd pn (o4 p _ pd pn mp1)) dk5 (((o2.trans o3).trans o4).trans o5)⟩
theorem LM{rs:List aX}{keep:Mm->Prop}{tt:dR}{te:aY}{o1 o2 o3:Option W}{rest:S3}{M1:Mm}{R:K3}(f:aX->Option W)(hl:rs.length<=1000)(hk:∀ M,L3.Sub M1 M->keep M)
  (hs:∀ q∈rs,∀ M (C:K3) (D:Mm->Prop),L3.Sub M1 M->(∀ y,f q=some y->C y M)->(f q=none->D M)->tt (some (.str q.name) :: some (.tup (q.parts.map W.str)) :: some (.int q.cost) :: rest) M fun b M3=>if b=true then te (some (.str q.name) :: some (.tup (q.parts.map W.str)) :: some (.int q.cost) :: rest) M3 C else D M3)
  (r:bC (rs.filterMap f) M1 R):lK (rs.map eP) keep (hW 3 (cR (bH 0) (cR (bH 1) (cR (bH 2) hV)))) tt te (o1 :: o2 :: o3 :: rest) M1 R:=by
 intro p hp
 refine⟨fun i τ acc M=>(∃ o1 o2 o3,τ=o1 :: o2 :: o3 :: rest)/\acc=(rs.take i).filterMap f/\M=M1,⟨⟨_,_,_,rfl⟩,rfl,rfl⟩,?_,?_,?_⟩
 ·rintro vs i τ acc M _ mp ⟨_,_,rfl⟩;exact hk _ (Sub.new hp)
 ·rintro vs i w τ acc M hw mp ⟨⟨o1,o2,o3,rfl⟩,rfl,rfl⟩
  rw[Av] at hw
  obtain⟨q,hq,rfl⟩:=Bj.mp hw
  have tk:rs.take (i + 1)=rs.take i ++ [q]:=by rw[Bx,hq];rfl
  have hlen:((rs.take i).filterMap f).length < Am:=eC (by have h1:=Ko f (rs.take i);rw[Cb] at h1;lia)
  refine⟨rfl,rfl,hs q (Be hq) _ _ _ (Sub.new hp) (fun y hy=>⟨aT,hlen,M,by rw[i7 hp];exact Sub.refl _,⟨_,_,_,rfl⟩,?_,rfl⟩) fun hn=>⟨aT,M,by rw[i7 hp];exact Sub.refl _,⟨_,_,_,rfl⟩,?_,rfl⟩⟩
  ·rw[tk,List.filterMap_append];simp[hy]
  ·rw[tk,List.filterMap_append];simp[hn]
 ·rintro τ acc M mp ⟨_,rfl,rfl⟩
  rw[Ab,Bz]
  exact r p hp
theorem zeo{α β:Type}(f:α->β)(l:List α):l.filterMap (fun x=>some (f x))=l.map f:=by
 induction l with
 | nil=>rfl
 | cons x l ih=>simp
def oG(hs ks:List Str)(t:Str):Str:=if t∈hs/\¬ t∈ks then "ab" else t
def HA:List Str:=["S","A","NOUN","B_1"]
def HB:List Str:=["S","S_1","S_12","T_1"]
theorem itR{a:Addr}{ws:List W}{M:Mm}{R:List W->(Mm->Prop)->Mm->Prop}(e:M a=some (.lst ws))(h:R ws (fun M=>M a=some (.lst ws)) M):L3.jU (.ref a) M R:=⟨ws,e,h⟩
theorem zep{ws:List W}{M:Mm}{R:K3}(h:AJ ws M R):zdk (bT R) (b8 zdf ws) M:=by
 obtain⟨d,n,rfl,dk,r⟩:=h
 refine⟨z4,z4,z2,_,rfl,d,n,2,rfl,by decide,by decide,dk,fun c1 M1 c10 c11 dk1 o1=>?_⟩
 obtain⟨h0,e0,l0,s0⟩:∃ h0:List Str,cG [W.rl (HA.map W.str),W.rl (HB.map W.str)] c1=some (.rl (h0.map W.str))/\h0.length=4/\∀ t∈h0,fG t:=by
  have ha:∀ t∈HA,fG t:=by unfold HA fG;decide +kernel
  have hb:∀ t∈HB,fG t:=by unfold HB fG;decide +kernel
  have:c1=0\/c1=1:=by lia
  rcases this with rfl | rfl
  ·exact⟨HA,eN (j:=0) rfl,rfl,ha⟩
  ·exact⟨HB,eN (j:=1) rfl,rfl,hb⟩
 refine⟨_,e0,_,rfl,_,rfl,d,n,4,rfl,by decide,by decide,dk1,fun c2 M2 c20 c21 dk2 o2=>⟨_,rfl,?_⟩⟩
 obtain⟨hs,ehs,l1,l4,sh⟩:∃ hs:List Str,dU (h0.map W.str) none (some (1 + c2))=hs.map W.str/\1<=hs.length/\hs.length<=4/\∀ t∈hs,fG t:=by
  refine⟨h0.take (1 + c2).toNat,?_,?_,?_,fun t ht=>s0 t (Ey ht)⟩
  ·rw[G9 (by lia) (by rw[Ab,l0];lia),Kn]
  ·rw[Cb,l0];lia
  ·rw[Cb,l0];lia
 show(aL K2 (aL K5 (aL K6 (aL K7 (aL K8 K9))))) (bT R) [some (.ref d),some (.rl (dU (h0.map W.str) none (some (1 + c2)))),none,none,none,none,none,none,none,none] M2
 rw[ehs]
 obtain⟨X0,eX0,mX0⟩:=oF (ts:=hs) (z:=0) (by decide) (by lia)
 refine⟨_,rfl,_,rfl,_,rfl,_,eX0,d,n,hs,X0,rfl,dk2,l1,l4,fun q0 M3 qn qp qt qc dk3 o3=>⟨z1,fun a ha=>?_⟩⟩
 obtain⟨ad,an⟩:=dk3.ne ha
 refine⟨_,rfl,d,n,10,rfl,by decide,by decide,dk3.put ha,fun c4 M4 c40 c41 dk4 o4=>⟨_,rfl,by lia,by lia,?_⟩⟩
 have ma4:M4 a=some (.lst ([q0].map eP)):=o4 a _ ad an aT
 refine eO (fun i τ M'=>∃ (xs:List aX) (o3:Option W),τ=[some (.ref d),some (.rl (hs.map W.str)),some (.ref a),o3,none,none,none,none,none,none]/\M' a=some (.lst (xs.map eP))/\xs≠[]/\xs.length<=i + 1/\(∀ x∈xs,x.name∈hs/\x.parts.length<=4/\(∀ t∈x.parts,t∈WQ\/t∈hs)/\0<=x.cost)/\Dq d n M') ⟨[q0],_,rfl,ma4,by simp,Ai _,(fun x hx=>by rw[Aw.mp hx];exact⟨by rw[qn];exact mX0,qp,qt,qc⟩),dk4⟩ (fun _ _ _ _ _=>trivial) ?_ ?_
 ·rintro i w τ M' hw ⟨xs,o3,rfl,ma,hne,hl,hok,dk5⟩
  obtain⟨hi,rfl⟩:=p5 hw
  refine⟨_,rfl,fD ma,_,rfl,_,rfl,_,rfl,_,rfl,_,rfl,d,n,_,rfl,by rw[Ab];lia,by rw[Ab];exact vN (by lia),dk5,fun c6 M6 c60 c61 dk6 o6=>?_⟩
  rw[Ab] at c61
  obtain⟨X,eX,mX⟩:=oF (ts:=hs) c60 c61
  refine⟨_,eX,d,n,hs,X,rfl,dk6,l1,l4,fun q M7 qn qp qt qc dk7 o7=>⟨_,o7 a _ ad an (o6 a _ ad an ma),eC (by rw[Ab];lia),_,Sub.refl _,xs ++ [q],_,rfl,by rw[aT,Ax];rfl,by simp,by rw[Ak,Bk];lia,fun x hx=>?_,dk7.pot ad an⟩⟩
  rcases Bo.mp hx with hx | hx
  ·exact hok x hx
  ·rw[Aw.mp hx];exact⟨by rw[qn];exact mX,qp,qt,qc⟩
 ·rintro τ M' ⟨xs,o3,rfl,ma,hne,hl,hok,dk5⟩
  rw[rX] at hl
  have hxl:xs.length<=10:=by lia
  refine⟨_,rfl,itR ma (LM (rest:=[]) (fun q=>some (.str q.name)) (by lia) (fun _ sb=>sb a _ ma) (fun q hq M C D sb h1 _=>⟨_,rfl,h1 _ rfl⟩) (bC.frz ?_))⟩
  rw[zeo]
  obtain⟨ks,hks⟩:∃ ks,ks=xs.map aX.name:=⟨_,rfl⟩
  rw[show(xs.map fun q=>W.str q.name)=ks.map W.str by rw[hks,Bp];rfl]
  refine⟨Bv _,fun b hb=>?_⟩
  obtain⟨bd,bn⟩:=dk5.ne hb
  have hba:b≠a:=fun e=>by rw[e,ma] at hb;cases hb
  refine⟨_,rfl,itR (ws:=xs.map eP) (by rw[aN (Bf hba)];exact ma) (eO (fun i τ M2=>∃ o6 o7 o8 o9:Option W,τ=[some (.ref d),some (.rl (hs.map W.str)),some (.ref a),o3,some (.rl (ks.map W.str)),some (.ref b),o6,o7,o8,o9]/\M2=put M' b (.lst (((xs.take i).map fun q=>(⟨q.name,q.parts.map (oG hs ks),q.cost⟩:aX)).map eP))) ⟨_,_,_,_,rfl,rfl⟩ (fun i τ M2 _ h=>?_) ?_ ?_)⟩
  ·obtain⟨_,_,_,_,_,rfl⟩:=h
   rw[aN (Bf hba)];exact ma
  ·rintro i w τ M2 hw ⟨o6,o7,o8,o9,rfl,rfl⟩
   rw[Av] at hw
   obtain⟨q,hq,rfl⟩:=Bj.mp hw
   obtain⟨qn,qp,qt,qc⟩:=hok q (Be hq)
   refine⟨rfl,rfl,_,rfl,KO (ws:=q.parts.map W.str) (xP (rest:=[some (.rl (hs.map W.str)),some (.rl (ks.map W.str))]) (fun w y=>∃ t,w=.str t/\y=.str (oG hs ks t)) (iA (by rw[Ab];lia)) (fun _ _=>trivial) (fun w hw M C sb h1=>?_) fun ys po=>bC.frz ?_)⟩
   ·obtain⟨t,_,rfl⟩:=Ba.mp hw
    refine⟨_,rfl,z2,_,rfl,_,rfl,rfl,uK hs,_,rfl,?_⟩
    show if inW (.str t) (hs.map W.str)=true then _ else _
    rw[uJ]
    refine b9 (fun z=>⟨_,rfl,_,rfl,rfl,uK ks,?_⟩) fun z=>?_
    ·show L3.aQ (.rl [.str t,.str "ab"]) (.int (if (!inW (.str t) (ks.map W.str))=true then 1 else 0)) M C
     rw[uJ]
     have z:=of_decide_eq_true z
     by_cases hk:t∈ks
     ·rw[decide_eq_true hk]
      exact⟨_,eN (j:=0) rfl,h1 _ ⟨t,rfl,by unfold oG;rw[if_neg (fun z=>z.2 hk)]⟩⟩
     ·rw[decide_eq_false hk]
      exact⟨_,eN (j:=1) rfl,h1 _ ⟨t,rfl,by unfold oG;rw[if_pos ⟨z,hk⟩]⟩⟩
    ·have z:=of_decide_eq_false z
     exact⟨_,eN (j:=0) rfl,h1 _ ⟨t,rfl,by unfold oG;rw[if_neg (fun y=>z y.1)]⟩⟩
   ·have e:ys=(q.parts.map (oG hs ks)).map W.str:=by
     clear qt qp
     generalize q.parts=ps at po
     induction ps generalizing ys with
     | nil=>cases po;rfl
     | cons t ps ih=>
      cases po with
      | cons a b=>
       obtain⟨t',e1,rfl⟩:=a
       cases e1
       rw[ih _ b];rfl
    rw[e]
    refine⟨_,rfl,fD aT,_,rfl,_,rfl,_,rfl,z3,_,aT,eC (by rw[Ab,Ab,Cb];lia),_,Sub.refl _,_,_,_,_,rfl,?_⟩
    rw[gP,Bx,hq,Ax,Ax];rfl
  ·rintro τ M2 ⟨o6,o7,o8,o9,rfl,rfl⟩
   rw[Ab,Bz]
   refine⟨_,rfl,_,Sub.refl _,r _ b _ ⟨?_,?_,?_,⟨hs,l4,?_⟩,?_,?_,?_⟩ aT bd bn (dk5.put hb)⟩
   ·cases xs with
    | nil=>exact absurd rfl hne
    | cons x xs=>simp
   ·rw[Ab];exact hxl
   all_goals
    intro x hx
    obtain⟨q,hq,rfl⟩:=Ba.mp hx
    obtain⟨qn,qp,qt,qc⟩:=hok q hq
   ·rw[Ab];exact qp
   ·exact qn
   ·exact qc
   ·exact sh _ qn
   ·intro t ht
    obtain⟨u,hu,rfl⟩:=Ba.mp ht
    have wq:∀ t∈WQ,fG t:=by unfold WQ fG;decide +kernel
    unfold oG
    split
    ·exact wq "ab" (by unfold WQ;decide +kernel)
    ·rcases qt u hu with z | z
     ·exact wq u z
     ·exact sh u z
theorem vO{x:W}{ws:List W}{M:Mm}{R:K3}(neg:Bool)(n:Nat)(hn:n<=60)(hx:dN M x=.rl ws)(hw:Pl n (.rl ws))(h:R (.bl (if neg then !ws.isEmpty else ws.isEmpty)) M):rEq neg x (.rl []) M R:=by
 refine xN n hn (by rw[hx];exact hw) (by cases n with | zero=>exact(show False from hw).elim | succ n=>intro w hw;cases hw) fun b hb=>?_
 rw[hx] at hb
 have:b=ws.isEmpty:=by
  rw[Eu,hb]
  show W.rl ws=W.rl []↔_
  cases ws <;> simp
 rw[this];exact h
theorem rY{xs:List Str}(h:∀ x∈xs,fG x):Pl 1 (.rl (xs.map W.str)):=fun w hw=>by
 obtain⟨x,hx,rfl⟩:=Ba.mp hw;exact h x hx
theorem LN{M:Mm}{a:Addr}{ws:List W}(h:M a=some (.lst ws)):dN M (.ref a)=.rl ws:=by simp[dN,h]
def AW(rs:List aX)(t:Str):List W:=rs.filterMap fun q=>if q.name=t then some (.tup (q.parts.map W.str)) else none
theorem zeq{rs:List aX}{t:Str}{w:W}(h:w∈AW rs t):∃ q∈rs,w=.tup (q.parts.map W.str):=by
 obtain⟨q,hq,e⟩:=Im.mp h
 split at e
 ·cases e;exact⟨q,hq,rfl⟩
 ·cases e
theorem zer{ws:List W}{M:Mm}{R:K3}(h:AK ws M R):zdq (bT R) (b8 zdl ws) M:=by
 obtain⟨d,n,rs,rfl,dk,g,rn,rr⟩:=h
 obtain⟨q,qs,rfl⟩:∃ q qs,rs=q :: qs:=by
  cases rs with
  | nil=>exact(g.ne rfl).elim
  | cons q rs=>exact⟨_,_,rfl⟩
 obtain⟨rs,hrs⟩:∃ rs,rs=q :: qs:=⟨_,rfl⟩
 have e0:cG (rs.map eP) 0=some (eP q):=by rw[hrs];exact eN (j:=0) rfl
 have hq:q∈rs:=by rw[hrs];exact Bd ..
 rw[<-hrs] at g ⊢
 have hfew:=g.few
 refine⟨_,rfl,_,e0,_,rfl,z1,fun p hp=>⟨Bv _,fun a ha=>?_⟩⟩
 have hpa:a≠p:=fun e=>by rw[e,aT] at ha;cases ha
 have ha':M a=none:=by rw[aN hpa] at ha;exact ha
 obtain⟨ad,an⟩:=dk.ne ha'
 obtain⟨pd,pn⟩:=dk.ne hp
 obtain⟨Post,hPost⟩:∃ Post:S3->Mm->Prop,Post=fun τ M'=>∃ (ps rw:List Str) (pp:Addr) (o4 o5 o6:Option W),τ=[some (.ref d),some (bR rs),some (.ref pp),some (.ref a),o4,o5,o6]/\M' pp=some (.lst (ps.map W.str))/\M' a=some (.lst (rw.map W.str))/\(∀ t∈ps,fG t)/\RQ rw/\Dq d n M':=⟨_,rfl⟩
 have rest:∀ τ M',Post τ M'->(aL LA LB) (bT R) τ M':=fun τ M' h=>by
  rw[hPost] at h
  obtain⟨ps,rw',pp,o4,o5,o6,rfl,m1,m2,s1,w,dk2⟩:=h
  refine⟨_,rfl,Bv _,vO true 1 (by decide) (LN m1) (rY s1) ⟨_,rfl,b9 (fun _=>⟨_,Sub.refl _,rn _ dk2⟩) fun _=>⟨_,rfl,_,Sub.refl _,rr _ a _ w m2 ad an dk2⟩⟩⟩
 refine⟨_,rfl,by decide,by decide,eO (fun i τ M'=>∃ (ps rw:List Str) (pp:Addr) (o4 o5 o6:Option W),τ=[some (.ref d),some (bR rs),some (.ref pp),some (.ref a),o4,o5,o6]/\M' pp=some (.lst (ps.map W.str))/\M' a=some (.lst (rw.map W.str))/\(∀ t∈ps,fG t)/\RQ rw/\Dq d n M'/\pp≠a/\pp≠d/\pp≠n/\ps.length<=1 + 4 * i) ⟨[q.name],[],p,_,_,_,rfl,by rw[aN (Bf hpa),aT];rfl,aT,(fun t ht=>by rw[Aw.mp ht];exact g.sn q hq),⟨by decide,fun _ h=>nomatch h⟩,(dk.put hp).put ha,Bf hpa,pd,pn,Ai _⟩ (fun _ _ _ _ _=>trivial) ?_ ?_⟩
 ·rintro i w τ M' hw ⟨ps,rw',pp,o4,o5,o6,rfl,m1,m2,s1,w9,dk2,ppa,ppd,ppn,hl⟩
  obtain⟨hi,rfl⟩:=p5 hw
  have post:∀ o4 o5 o6,Post [some (.ref d),some (bR rs),some (.ref pp),some (.ref a),o4,o5,o6] M':=fun o4 o5 o6=>by rw[hPost];exact⟨ps,rw',pp,o4,o5,o6,rfl,m1,m2,s1,w9,dk2⟩
  refine⟨_,rfl,Bv _,vO false 1 (by decide) (LN m1) (rY s1) ⟨_,rfl,b9 (fun _=>rest _ _ (post _ _ _)) fun z0=>⟨_,rfl,.inl ⟨_,m2,_,rfl,b9 (fun _=>rest _ _ (post _ _ _)) fun z8=>?_⟩⟩⟩⟩
  have z8:=of_decide_eq_false z8
  rw[Ab] at z8
  rcases Dh ps with rfl | ⟨ini,t,rfl⟩
  ·cases z0
  rw[Dj] at m1 s1 hl
  rw[Ax] at m1
  have st:fG t:=s1 t (by simp)
  have si:∀ t∈ini,fG t:=fun u hu=>s1 u (Bu _ hu)
  rw[Ak,Bk] at hl
  have m2':put M' pp (.lst (ini.map W.str)) a=some (.lst (rw'.map W.str)):=by rw[aN (Bf ppa)];exact m2
  have dk3:Dq d n (put M' pp (.lst (ini.map W.str))):=dk2.pot ppd ppn
  refine⟨_,rfl,fD m1,_,_,m1,_,rfl,uI rfl (LM (rest:=[some (.str t)]) (fun q=>if q.name=t then some (.tup (q.parts.map W.str)) else none) (by lia) (fun _ _=>trivial) (fun q hq M C D sb h1 h2=>⟨_,rfl,_,rfl,_,rfl,b9 (fun z=>⟨_,rfl,h1 _ (by rw[if_pos (of_decide_eq_true z)])⟩) fun z=>h2 (by rw[if_neg (of_decide_eq_false z)])⟩) (bC.frz ?_))⟩
  obtain⟨cs,hcs⟩:∃ cs,cs=AW rs t:=⟨_,rfl⟩
  have hcm:∀ w∈cs,∃ q∈rs,w=.tup (q.parts.map W.str):=fun w hw=>zeq (by rw[<-hcs];exact hw)
  have hcl:cs.length<=10:=by rw[hcs];exact Bh (Ko _ _) hfew
  unfold AW at hcs
  rw[<-hcs]
  refine⟨_,rfl,Bv _,vO false 2 (by decide) rfl (fun w hw=>?_) ⟨_,rfl,b9 (fun _=>?_) fun z=>?_⟩⟩
  ·obtain⟨q,hq,rfl⟩:=hcm w hw
   intro y hy
   obtain⟨u,hu,rfl⟩:=Ba.mp hy
   exact g.sp q hq u hu
  ·refine⟨_,rfl,fD m2',_,rfl,_,m2',eC (by rw[Ab];lia),_,Sub.refl _,ini,rw' ++ [t],pp,_,_,_,rfl,by rw[aN ppa,aT],by rw[aT,Ax];rfl,si,⟨by rw[Ak,Bk];lia,fun u hu=>?_⟩,dk3.pot ad an,ppa,ppd,ppn,by lia⟩
   rcases Bo.mp hu with hu | hu
   ·exact w9.sok u hu
   ·rw[Aw.mp hu];exact st
  ·have hc0:0 < cs.length:=by cases cs with | nil=>cases z | cons _ _=>exact Nat.succ_pos _
   refine⟨_,rfl,_,rfl,_,rfl,_,rfl,d,n,_,rfl,by lia,vN (by lia),dk3,fun c M3 c0 c1 dk4 o4=>?_⟩
   have hc:c.toNat < cs.length:=by lia
   obtain⟨q,hq,eq⟩:=hcm cs[c.toNat] (List.getElem_mem hc)
   have ec:cG cs c=some (.tup (q.parts.map W.str)):=by
    have e:cG cs ((c.toNat:Nat):Int)=some cs[c.toNat]:=eN (An hc)
    rwa [show((c.toNat:Nat):Int)=c by lia,eq] at e
   have m13:=o4 pp _ ppd ppn aT
   have m23:=o4 a _ ad an m2'
   have q4:=g.fp q hq
   refine⟨_,ec,_,m13,iA (by rw[Ab,Fs,Ab];lia),fun p' hp'=>?_⟩
   obtain⟨p'd,p'n⟩:=dk4.ne hp'
   have hpa':p'≠a:=fun e=>by rw[e,m23] at hp';cases hp'
   refine⟨_,Sub.refl _,ini ++ q.parts.reverse,rw',p',_,_,_,rfl,by rw[aT,Ax,List.map_reverse],by rw[aN (Bf hpa')];exact m23,fun u hu=>?_,w9,dk4.put hp',hpa',p'd,p'n,by rw[Ak,Fs];lia⟩
   rcases Bo.mp hu with hu | hu
   ·exact si u hu
   ·exact g.sp q hq u (List.mem_reverse.mp hu)
 ·rintro τ M' ⟨ps,rw',pp,o4,o5,o6,rfl,m1,m2,s1,w9,dk2,ppa,ppd,ppn,hl⟩
  exact rest _ _ (by rw[hPost];exact⟨ps,rw',pp,o4,o5,o6,rfl,m1,m2,s1,w9,dk2⟩)
theorem zes{d n:Addr}{k:Nat}{te:aY}{keep:Mm->Prop}{o:Option W}{rest:S3}{M1:Mm}{R:K3}(P:W->Prop)(hk:k<=1000)(hkeep:∀ M,keep M)(dk:Dq d n M1)
  (hte:∀ (o:Option W) M (C:K3),Dq d n M->(∀ w M',P w->Dq d n M'->Oq d n M M'->C w M')->te (o :: rest) M C)
  (r:∀ (xs:List W) M',xs.length=k->(∀ x∈xs,P x)->Dq d n M'->R (.rl xs) M') :
  lK (jV 0 k) keep (bH 0) hZ te (o :: rest) M1 fun w M'=>frz w M' R:=by
 intro p hp
 refine⟨fun i τ acc M=>∃ (o:Option W),τ=o :: rest/\acc.length=i/\(∀ x∈acc,P x)/\Dq d n M,⟨o,rfl,rfl,(fun _ h=>nomatch h),dk⟩,fun _ _ _ _ _ _ _ _=>hkeep _,?_,?_⟩
 ·rintro vs i w τ acc M hw hMp ⟨o,rfl,hl,hP,dk2⟩
  obtain⟨hi,rfl⟩:=p5 hw
  obtain⟨p1,p2⟩:=dk2.ne hMp
  refine hte _ _ _ (dk2.put hMp) fun z M' hz dk3 o3=>?_
  have e1:=o3 p _ p1 p2 aT
  refine⟨e1,eC (by lia),_,Sub.refl _,_,rfl,by rw[Ak,Bk,hl],fun x hx=>?_,dk3.del p1 p2⟩
  rcases Bo.mp hx with z1 | z1
  ·exact hP x z1
  ·rw[Aw.mp z1];exact hz
 ·rintro τ acc M hMp ⟨o,rfl,hl,hP,dk2⟩
  rw[rX] at hl
  exact bC.frz (r acc M hl hP dk2) p hMp
theorem LO{P:Str->Prop}:∀ {ws:List W},(∀ w∈ws,∃ t,P t/\w=W.str t)->∃ ts:List Str,ws=ts.map W.str/\∀ t∈ts,P t
 | [],_=>⟨[],rfl,fun _ h=>nomatch h⟩
 | w :: ws,h=>by
  obtain⟨t,ht,rfl⟩:=h w Bd
  obtain⟨ts,rfl,hts⟩:=LO fun x hx=>h x (Au _ hx)
  refine⟨t :: ts,rfl,fun x hx=>?_⟩
  rcases Ar.mp hx with rfl | hx
  ·exact ht
  ·exact hts x hx
theorem LP:∀ t∈WQ,fG t:=by unfold WQ fG;decide +kernel
theorem zet{ws:List W}{M:Mm}{R:K3}(h:AL ws M R):zdu (bT R) (b8 zdr ws) M:=by
 obtain⟨d,n,rs,rfl,dk,g,r⟩:=h
 have fin:∀ row o3 M',RQ row->Dq d n M'->(aL AR AU) (bT R) [some (.ref d),some (bR rs),some (d9 row),o3] M':=fun row o3 M' w dk=>by
  refine⟨_,rfl,Bv _,vO true 1 (by decide) rfl (rY w.sok) ⟨_,rfl,b9 (fun z=>?_) fun _=>⟨_,rfl,_,Sub.refl _,r row _ w⟩⟩⟩
  have hr0:0 < row.length:=by cases row with | nil=>cases z | cons _ _=>exact Nat.succ_pos _
  have hw9:=w.few
  refine⟨_,rfl,d,n,4,rfl,by decide,by decide,dk,fun c1 M1 c10 c11 dk1 o1=>⟨_,rfl,b9 (fun _=>?_) fun _=>⟨_,rfl,_,Sub.refl _,r row _ w⟩⟩⟩
  refine⟨_,rfl,_,rfl,d,n,_,rfl,by rw[Ab];lia,by rw[Ab];exact vN (by lia),dk1,fun c2 M2 c20 c21 dk2 o2=>?_⟩
  rw[Ab] at c21
  refine⟨_,rfl,_,rfl,_,rfl,rfl,bC.frz ⟨_,rfl,d,n,4,rfl,by decide,by decide,dk2,fun c3 M3 c30 c31 dk3 o3=>?_⟩⟩
  obtain⟨t,et,mt⟩:=oF (ts:=WQ) c30 c31
  have l1:(dU (row.map W.str) none (some c2)).length<=9:=Bh xU (by rw[Ab];exact hw9)
  have l2:(dU (row.map W.str) (some (c2 + 1)) none).length<=9:=Bh xU (by rw[Ab];exact hw9)
  refine⟨_,et,z1,iA (by show _ + 1<=_;lia),_,rfl,_,rfl,_,rfl,iA (by rw[Ak];show _ + 1 + _<=_;lia),?_⟩
  have e:dU (row.map W.str) none (some c2) ++ [W.str t] ++ dU (row.map W.str) (some (c2 + 1)) none=(row.take c2.toNat ++ [t] ++ row.drop (c2 + 1).toNat).map W.str:=by
   rw[G9 c20 (by rw[Ab];lia),WL (by lia),Ax,Ax,Kn,Mv];rfl
  rw[e]
  refine⟨_,rfl,_,Sub.refl _,r _ _ ⟨?_,fun u hu=>?_⟩⟩
  ·rw[Ak,Ak,Cb,Ga,Bk];lia
  ·rcases Bo.mp hu with hu | hu
   ·rcases Bo.mp hu with hu | hu
    ·exact w.sok u (Ey hu)
    ·rw[Aw.mp hu];exact LP t mt
   ·exact w.sok u (List.mem_of_mem_drop hu)
 have draw:∀ M',Dq d n M'->(aL LC (aL AR AU)) (bT R) [some (.ref d),some (bR rs),some .non,none] M':=fun M' dk=>by
  refine⟨_,rfl,⟨_,rfl,_,rfl,d,n,9,rfl,by decide,by decide,dk,fun c1 M1 c10 c11 dk1 o1=>⟨_,rfl,by lia,by lia,zes (rest:=[some (.ref d)]) (fun w=>∃ t,t∈WQ/\w=W.str t) (by lia) (fun _=>trivial) dk1 (fun o M C dkM hC=>?_) fun xs M3 hxs hP dk3=>?_⟩⟩⟩
  ·refine⟨rfl,bC.frz ⟨_,rfl,d,n,4,rfl,by decide,by decide,dkM,fun c3 M3 c30 c31 dk3 o3=>?_⟩⟩
   obtain⟨t,et,mt⟩:=oF (ts:=WQ) c30 c31
   exact⟨_,et,hC _ _ ⟨t,mt,rfl⟩ dk3 o3⟩
  ·obtain⟨ts,rfl,hts⟩:=LO hP
   rw[Ab] at hxs
   exact fin ts _ _ ⟨by lia,fun t ht=>LP t (hts t ht)⟩ dk3
 refine⟨_,rfl,d,n,3,rfl,by decide,by decide,dk,fun c1 M1 c10 c11 dk1 o1=>⟨_,rfl,b9 (fun _=>?_) fun _=>draw _ dk1⟩⟩
 refine⟨_,rfl,_,rfl,d,n,rs,rfl,dk1,g,fun M' dk2=>draw _ dk2,fun row a M' w ma ad an dk2=>.inl ⟨_,ma,?_⟩⟩
 exact⟨_,rfl,⟨_,rfl,fin row _ _ w (dk2.del ad an)⟩⟩
theorem zeu(e:Int×Int)(t:Tb):bP (e :: t)=((Sum.inl e.1:aD),W.int e.2) :: bP t:=rfl
theorem oH(t:Tb)(k:Int):a9 (bP t) (Sum.inl k:aD)=(aG t k).map W.int:=by
 induction t with
 | nil=>rfl
 | cons e t ih=>
  rw[zeu,mU,cQ,ih]
  by_cases h:e.1=k
  ·rw[if_pos (by rw[h]),if_pos h];rfl
  ·rw[if_neg (fun z=>h (Sum.inl.inj z)),if_neg h]
theorem zev(t:Tb)(k v:Int):bZ (bP t) (Sum.inl k:aD) (.int v)=bP (bE t k v):=by
 unfold bZ bE
 rw[show((bP t).any fun kv=>decide (kv.1=(Sum.inl k:aD)))=(a9 (bP t) (Sum.inl k:aD)).isSome from f7 _ _,oH,f7,Iu]
 split
 ·unfold bP gM
  rw[Bp,Bp,Bp,Bp]
  refine Ee fun e _=>?_
  simp only[Gh]
  by_cases h:e.1=k
  ·rw[if_pos (by rw[h]),if_pos h]
  ·rw[if_neg (fun z=>h (Sum.inl.inj z)),if_neg h]
 ·unfold bP gM
  rw[Ax,Ax];rfl
theorem rZ(t:Tb):(bP t).length=t.length:=by unfold bP gM;rw[Ab,Ab]
theorem AX(t:Tb):(bP t).map (fun p=>wK p.1)=t.map fun e=>W.int e.1:=by
 unfold bP gM
 rw[Bp,Bp];rfl
structure fL(n:Nat)(t:Tb):Prop where
 nd:(t.map (·.1)).Nodup
 inn:∀ k∈t.map (·.1),k∈b7 n
theorem fL.len{n:Nat}{t:Tb}(h:fL n t):t.length<=n + 1:=by
 have:=len_sub h.nd h.inn
 rwa [Ab,rW] at this
theorem fL.low{n:Nat}{t:Tb}(h:fL n t){k v:Int}(hk:k∈b7 n):fL n (low t k v):=by
 refine⟨JP h.nd,fun j hj=>?_⟩
 rw[<-gA] at hj
 obtain⟨u,hu⟩:=Ej.mp hj
 rcases JN hu with z | z
 ·cases z;exact hk
 ·exact h.inn j (gA.mp (by rw[z];rfl))
theorem fL.flow{n:Nat}:∀ {xs t:Tb},fL n t->(∀ e∈xs,e.1∈b7 n)->fL n (flow xs t)
 | [],t,h,_=>h
 | e :: xs,t,h,hx=>(h.low (hx e (Bd ..))).flow fun y hy=>hx y (Au _ hy)
section
variable {rs:List aX}{row:List Str}{T:Tq}
theorem LQ(g:GQ rs)(I:IQ rs row T){t:Str}{a:Int}(ha:a∈b7 row.length):∀ e∈iQ rs row T t a,e.1∈b7 row.length:=fun e he=>by
 unfold iQ at he
 split at he
 ·obtain⟨_,_,h,_⟩:=u9 g (I.so (t,a,e.1) e.2 (lS (I.ni _) he))
  exact h
 ·obtain⟨h1,h2,h3,_⟩:=pV.mp (show(e.1,e.2)∈gK row t a from he)
  have:=(Aj.mp h2).1
  rw[h3]
  exact n5.mpr ⟨by lia,by lia⟩
theorem zew(I:IQ rs row T){t:Str}{a:Int}:((iQ rs row T t a).map (·.1)).Nodup:=by
 unfold iQ
 split
 ·exact I.ni _
 ·unfold gK;split <;> simp
theorem zex(g:GQ rs)(I:IQ rs row T){t:Str}{a:Int×Int}(ha:a.1∈b7 row.length):∀ e∈jK rs row T t a,e.1∈b7 row.length:=fun e he=>by
 unfold jK at he
 obtain⟨x,hx,rfl⟩:=Ba.mp he
 exact LQ g I ha x hx
theorem AY(g:GQ rs)(I:IQ rs row T){t:Str}:∀ {here th:Tb},fL row.length th->(∀ a∈here,a.1∈b7 row.length)->fL row.length (here.foldl (fun th a=>flow (jK rs row T t a) th) th)
 | [],th,h,_=>h
 | a :: here,th,h,hh=>by
  have:=AY g I (t:=t) (here:=here) (th:=flow (jK rs row T t a) th) (h.flow (zex g I (hh a (Bd ..)))) fun y hy=>hh y (Au _ hy)
  exact this
theorem LR(g:GQ rs)(I:IQ rs row T){b:Int}(hb:b∈b7 row.length)(ps:List Str):fL row.length (d7 rs row T ps b):=by
 have:∀ (ps:List Str) (h:Tb),fL row.length h->fL row.length (ps.foldl (fun h p=>lT rs row T p h) h):=by
  intro ps
  induction ps with
  | nil=>intro h hh;exact hh
  | cons p ps ih=>
   intro h hh
   exact ih _ (AY g I ⟨Cy,fun _ z=>nomatch z⟩ fun a ha=>hh.inn a.1 (Dx ha))
 exact this ps _ ⟨by simp,fun k hk=>by rw[Ay,Fv,Aw] at hk;rw[hk];exact hb⟩
theorem LS(rs:List aX)(t:Str):decide (t∈rs.map aX.name)=d6 rs t:=by
 unfold d6
 rw[decide_eq_decide,W4,Ba]
end
theorem LU{rs:List aX}{τ:S3}{M:Mm}{R:K3}{js:List (Option Nat)}(ht:τ[0]? = some (some (bR rs)))(hl:rs.length<=100)(hj:tT js τ=[none])(r:R (.rl ((rs.map aX.name).map W.str)) M):dS (gE (dJ gS (aA 0)) (bH 0) hZ (aE aQ (aA 0) (vC (.int 0))) js) τ M R:=by
 refine⟨_,ht,nW ?_⟩
 rw[hj]
 refine xP (rest:=[]) (fun w y=>∃ q:aX,w=eP q/\y=.str q.name) (iA (by rw[Ab];lia)) (fun _ _=>trivial) (fun w hw M' C sb h1=>?_) fun ys po=>bC.frz ?_
 ·obtain⟨q,_,rfl⟩:=Ba.mp hw
  exact⟨_,rfl,_,eN (j:=0) rfl,h1 _ ⟨q,rfl,rfl⟩⟩
 ·have e:ys=(rs.map aX.name).map W.str:=by
   clear r hl ht
   induction rs generalizing ys with
   | nil=>cases po;rfl
   | cons q rs ih=>
    cases po with
    | cons a b=>
     obtain⟨q',e1,rfl⟩:=a
     have:q.name=q'.name:=by
      simp only[eP,W.tup.injEq,Cs,W.str.injEq] at e1
      exact e1.1
     rw[<-this,ih _ b];rfl
  rw[e];exact r
theorem zey{row:List Str}{a:Int}{t:Str}(h0:0<=a):dU (row.map W.str) (some a) (some (a + 1))=[W.str t]↔row[a.toNat]? = some t:=by
 have e:dU (row.map W.str) (some a) (some (a + 1))=((row.drop a.toNat).take 1).map W.str:=by
  unfold dU
  rw[Ab]
  have s1:HT.sIx row.length 0 (some a)=min a.toNat row.length:=if_neg (by lia)
  have s2:HT.sIx row.length row.length (some (a + 1))=min (a + 1).toNat row.length:=if_neg (by lia)
  rw[s1,s2,Kn,Mv]
  by_cases h:a.toNat < row.length
  ·rw[Ll (Je h),Ll (by lia),show(a + 1).toNat - a.toNat=1 by lia]
  ·rw[List.drop_eq_nil_of_le (by rw[Ab];lia),List.drop_eq_nil_of_le (by rw[Ab];lia)];simp
 rw[e]
 cases h:row.drop a.toNat with
 | nil=>
  have:row[a.toNat]? = none:=Em (List.drop_eq_nil_iff.mp h)
  rw[this];simp
 | cons x r=>
  have:row[a.toNat]? = some x:=by
   have:=List.getElem?_drop (xs:=row) (i:=a.toNat) (j:=0)
   rw[h,Nat.add_zero] at this
   exact this.symm
  rw[this];simp
theorem zez{row:List Str}(w:RQ row){lo hi:Option Int}:Pl 1 (.rl (dU (row.map W.str) lo hi)):=fun x hx=>by
 obtain⟨t,ht,rfl⟩:=Ba.mp (G8 hx)
 exact w.sok t ht
theorem LV{M:Mm}{q:Addr}{th:Tb}{k v:Int}{Q:Mm->Prop}(h:M q=some (.dK (bP th)))(hl:th.length<=1000)(r:Q (put M q (.dK (bP (bE th k v))))):nM (.ref q) (.int k) (.int v) M Q:=
 WN h (eC (by rw[rZ];lia)) (by rw[zev];exact r)
theorem zeA{P Q:Prop}(h:Q):if false=true then P else Q:=h
theorem LW{kvs:List (aD×W)}{M:Mm}{R:List W->(Mm->Prop)->Mm->Prop}(h:R (kvs.map fun p=>wK p.1) (fun _=>True) M):kT (.fk kvs) M R:=h
theorem LX{D:D3}{τ:S3}{M:Mm}{q:Addr}{th:Tb}{k v:Int}{A B:aJ}{tk tv:aY}(hq:M q=some (.dK (bP th)))(hk:∀ R:K3,R (.int k) M->tk τ M R)(hv:∀ R:K3,R (.int v) M->tv τ M R)
  (ha:iP th k v=true->A D τ M) (hb:iP th k v=false->B D τ M) {i:Nat} (hi:τ[i]? = some (some (.ref q))):cB (fP (bK (aE (rIn true) tk (aA i))) (bK (aE iL tv (aE aQ (aA i) tk)))) A B D τ M:=by
 refine hk _ ⟨_,hi,.inr ⟨_,.inl ⟨_,Sum.inl k,hq,rfl,rfl⟩,_,rfl,?_⟩⟩
 rw[oH]
 unfold iP at ha hb
 cases e:aG th k with
 | none=>rw[e] at ha;exact ha rfl
 | some w=>
  rw[e] at ha hb
  refine zeA (hv _ ⟨_,hi,hk _ (.inr ⟨.int w,.inl ⟨_,Sum.inl k,hq,rfl,by rw[oH,e];rfl⟩,⟨_,rfl,?_⟩⟩)⟩)
  exact b9 (fun z=>ha z) fun z=>hb z
theorem LY{M:Mm}{K:K3}{a:Int}{row:List Str}{t:Str}(k:Bool)(hk:k=true↔0<=a/\row[a.toNat]? = some t)(r:K (.fk (bP (gK row t a))) M):lM (.rl [.tup [.int (a + 1),.int 0]]) (.int (if k then 1 else 0)) M fun x M2=>tZ [x] M2 fun w M'=>∃ p,w=.ref p/\((∃ kvs,M' p=some (.dK kvs)/\K (.fk kvs) (del M' p))\/∃ kvs,M' p=some (.dT kvs)/\K (.ft kvs) (del M' p)):=by
 cases k with
 | true=>
  unfold gK at r
  rw[if_pos (hk.mp rfl)] at r
  exact⟨by decide,by decide,z1,[(Sum.inl (a + 1),.int 0)],rfl,z1,lD.frzD r⟩
 | false=>
  unfold gK at r
  rw[if_neg (fun z=>Ao (hk.mpr z))] at r
  exact⟨by decide,by decide,z0,[],rfl,z0,lD.frzD r⟩
theorem zeB{D:D3}{τ:S3}{M:Mm}{row:List Str}{t:Str}{a:Int}(w:RQ row)(hst:fG t)(ha0:0<=a)(h8:τ[8]? = some (some (.int a)))(h1:τ[1]? = some (some (d9 row)))(h6:τ[6]? = some (some (.str t)))(r:D.nx (τ.set 9 (some (.fk (bP (gK row t a))))) M) :
  a0 9 (pT (bS tZ (aB (aE lM (fR (aB (cC (aB (aE cP (aA 8) (vC (.int 1))) (aB (vC (.int 0)) aF))) aF)) (bS vJ (aB (qM (aE iL (aA 8) (bS dD (aB (aA 1) aF))) (aE (rEq false) (nP (aA 1) (kL (aA 8)) (kL (aE cP (aA 8) (vC (.int 1))))) (fR (aB (aA 6) aF)))) aF))) aF))) D τ M:=by
 refine⟨_,h8,z2,z1,_,h8,_,h1,_,rfl,b9 (fun z=>?_) fun z=>?_⟩
 ·refine⟨_,h1,_,h8,_,rfl,_,h8,_,rfl,_,h6,z1,xN 1 (by decide) (zez w) (fun x hx=>by rw[Aw.mp hx];exact hst) fun k hk=>LY (K:=fun x M1=>D.nx (τ.set 9 (some x)) M1) k ?_ r⟩
  rw[hk]
  show W.rl (dU (row.map W.str) (some a) (some (a + 1)))=W.rl [W.str t]↔_
  rw[W.rl.injEq,zey ha0]
  exact⟨fun h=>⟨ha0,h⟩,fun h=>h.2⟩
 ·refine LY (K:=fun x M1=>D.nx (τ.set 9 (some x)) M1) false ⟨fun h=>(nomatch h),fun h=>?_⟩ r
  have:=(Aj.mp h.2).1
  have z:=of_decide_eq_false z
  rw[Ab] at z
  lia
theorem zeC{ws:List W}{M:Mm}{R:K3}(h:AN ws M R):zdA (bT R) (b8 zdv ws) M:=by
 obtain⟨rs,row,T,ps,b,rfl,g,w,I,hp4,sp,hb,r⟩:=h
 have hw9:=w.few
 have hrf:=g.few
 refine fun p hp=>⟨_,rfl,aT,Sum.inl b,rfl,?_⟩
 rw[gP]
 refine⟨_,rfl,KO (eO (ws:=ps.map W.str) (fun i τ M'=>∃ (p:Addr) (o6 o7 o8 o9 o10 o11:Option W),τ=[some (bR rs),some (d9 row),some (j8 T),some (.tup (ps.map W.str)),some (.int b),some (.ref p),o6,o7,o8,o9,o10,o11]/\M p=none/\M'=put M p (.dK (bP (d7 rs row T (ps.take i) b)))) ⟨p,_,_,_,_,_,_,rfl,hp,rfl⟩ (fun _ _ _ _ _=>trivial) ?_ ?_)⟩
 ·rintro i x τ M' hx ⟨p,o6,o7,o8,o9,o10,o11,rfl,hp,rfl⟩
  rw[Av] at hx
  obtain⟨t,ht,rfl⟩:=Bj.mp hx
  obtain⟨here,hhere⟩:∃ here,here=d7 rs row T (ps.take i) b:=⟨_,rfl⟩
  have hok:fL row.length here:=by rw[hhere];exact LR g I hb _
  have hst:=sp t (Be ht)
  have hnext:d7 rs row T (ps.take (i + 1)) b=lT rs row T t here:=by rw[Bx,ht,hhere];exact rP _ _ _ _
  rw[<-hhere,hnext]
  intro q hq
  have hqp:q≠p:=fun e=>by rw[e,aT] at hq;cases hq
  have hqM:M q=none:=by rw[aN hqp] at hq;exact hq
  refine⟨p,bP here,rfl,by rw[aN (Bf hqp),aT],_,rfl,?_⟩
  rw[show del (put (put M p (.dK (bP here))) q (.dK [])) p=put M q (.dK (bP [])) by
   rw[wM (Bf hqp),i7 (by rw[aN (Bf hqp)];exact hp)];rfl]
  refine eO (ws:=(bP here).map fun p=>wK p.1) (fun j τ M'=>∃ (o8 o9 o10 o11:Option W),τ=[some (bR rs),some (d9 row),some (j8 T),some (.tup (ps.map W.str)),some (.int b),some (.fk (bP here)),some (.str t),some (.ref q),o8,o9,o10,o11]/\M'=put M q (.dK (bP ((here.take j).foldl (fun th a=>flow (jK rs row T t a) th) [])))) ⟨_,_,_,_,rfl,rfl⟩ (fun _ _ _ _ _=>trivial) ?_ ?_
  ·rintro j x τ M' hx ⟨o8,o9,o10,o11,rfl,rfl⟩
   rw[AX,Av] at hx
   obtain⟨a,haj,rfl⟩:=Bj.mp hx
   have ham:a∈here:=Be haj
   have ha:=hok.inn a.1 (Dx ham)
   obtain⟨ha0,ha1⟩:=n5.mp ha
   obtain⟨th,hth⟩:∃ th,th=(here.take j).foldl (fun th a=>flow (jK rs row T t a) th) []:=⟨_,rfl⟩
   have thok:fL row.length th:=by rw[hth];exact AY g I ⟨Cy,fun _ z=>nomatch z⟩ fun a ha=>hok.inn a.1 (Dx (Ey ha))
   rw[<-hth]
   obtain⟨G,hG⟩:∃ G,G=iQ rs row T t a.1:=⟨_,rfl⟩
   have gnd:(G.map (·.1)).Nodup:=by rw[hG];exact zew I
   have loop:∀ (D:D3),(∀ o8 o9 o10 o11:Option W,D.nx [some (bR rs),some (d9 row),some (j8 T),some (.tup (ps.map W.str)),some (.int b),some (.fk (bP here)),some (.str t),some (.ref q),o8,o9,o10,o11] (put M q (.dK (bP ((here.take (j + 1)).foldl (fun th a=>flow (jK rs row T t a) th) [])))))->∀ o10 o11:Option W,(eI (dJ kT (aA 9)) (bH 10)
     (aL (a0 11 (aE cP (aE aQ (aA 5) (aA 8)) (aE aQ (aA 9) (aA 10))))
      (cB (fP (bK (aE (rIn true) (aA 10) (aA 7))) (bK (aE iL (aA 11) (aE aQ (aA 7) (aA 10)))))
       (fQ (aA 11) (gD (aA 7) (aA 10))) cU)))
     D
     [some (bR rs),some (d9 row),some (j8 T),some (.tup (ps.map W.str)),some (.int b),some (.fk (bP here)),some (.str t),some (.ref q),some (.int a.1),some (.fk (bP G)),o10,o11] (put M q (.dK (bP th))):=fun D hD o10 o11=>by
    refine⟨_,rfl,LW (eO (fun k τ M'=>∃ (o10 o11:Option W),τ=[some (bR rs),some (d9 row),some (j8 T),some (.tup (ps.map W.str)),some (.int b),some (.fk (bP here)),some (.str t),some (.ref q),some (.int a.1),some (.fk (bP G)),o10,o11]/\M'=put M q (.dK (bP (flow ((G.take k).map fun g=>(g.1,a.2 + g.2)) th)))) ⟨_,_,rfl,rfl⟩ (fun _ _ _ _ _=>trivial) ?_ ?_)⟩
    ·rintro k x τ M' hx ⟨o10,o11,rfl,rfl⟩
     rw[AX,Av] at hx
     obtain⟨e,hek,rfl⟩:=Bj.mp hx
     have hem:e∈G:=Be hek
     obtain⟨tk,htk⟩:∃ tk,tk=flow ((G.take k).map fun g=>(g.1,a.2 + g.2)) th:=⟨_,rfl⟩
     have tkok:fL row.length tk:=by
      rw[htk]
      refine thok.flow fun x hx=>?_
      obtain⟨y,hy,rfl⟩:=Ba.mp hx
      have hy:=Ey hy
      rw[hG] at hy
      exact LQ g I ha y hy
     have hnx:flow ((G.take (k + 1)).map fun g=>(g.1,a.2 + g.2)) th=low tk e.1 (a.2 + e.2):=by
      rw[Bx,hek,htk]
      unfold flow
      rw[Ax,Eh];rfl
     rw[<-htk,hnx]
     have la:a9 (bP here) (Sum.inl a.1:aD)=some (.int a.2):=by rw[oH,lS hok.nd ham];rfl
     have le:a9 (bP G) (Sum.inl e.1:aD)=some (.int e.2):=by rw[oH,lS gnd hem];rfl
     have hlen:=tkok.len
     refine⟨_,rfl,_,rfl,_,⟨Sum.inl a.1,rfl,la.symm⟩,_,rfl,_,rfl,_,⟨Sum.inl e.1,rfl,le.symm⟩,?_⟩
     show cB (fP (bK (aE (rIn true) (aA 10) (aA 7))) (bK (aE iL (aA 11) (aE aQ (aA 7) (aA 10))))) (fQ (aA 11) (gD (aA 7) (aA 10))) cU _ [some (bR rs),some (d9 row),some (j8 T),some (.tup (ps.map W.str)),some (.int b),some (.fk (bP here)),some (.str t),some (.ref q),some (.int a.1),some (.fk (bP G)),some (.int e.1),some (.int (a.2 + e.2))] _
     refine LX (q:=q) (th:=tk) (k:=e.1) (v:=a.2 + e.2) aT (fun R h=>⟨_,rfl,h⟩) (fun R h=>⟨_,rfl,h⟩) (fun z=>⟨_,rfl,_,rfl,_,rfl,LV aT (by lia) ⟨_,Sub.refl _,_,_,rfl,?_⟩⟩) (fun z=>⟨_,Sub.refl _,_,_,rfl,?_⟩) rfl
     ·rw[gP];unfold low;rw[if_pos z]
     ·unfold low;rw[if_neg (by rw[z];exact Ao)]
    ·rintro τ M' ⟨o10,o11,rfl,rfl⟩
     have e:flow ((G.take ((bP G).map fun p=>wK p.1).length).map fun g=>(g.1,a.2 + g.2)) th=(here.take (j + 1)).foldl (fun th a=>flow (jK rs row T t a) th) []:=by
      rw[Ab,rZ,Bz,Bx,haj,Eh,<-hth,hG];rfl
     rw[e]
     exact hD _ _ _ _
   have steps:∀ (D:D3),(∀ o8 o9 o10 o11:Option W,D.nx [some (bR rs),some (d9 row),some (j8 T),some (.tup (ps.map W.str)),some (.int b),some (.fk (bP here)),some (.str t),some (.ref q),o8,o9,o10,o11] (put M q (.dK (bP ((here.take (j + 1)).foldl (fun th a=>flow (jK rs row T t a) th) [])))))->∀ o10 o11:Option W,(aL (cB (bK (aE (rIn false) (aA 6) (dS (gE (dJ gS (aA 0)) (bH 0) hZ (aE aQ (aA 0) (vC (.int 0))) [none]))))
     (a0 9 (dG "dict" mS (aA 2) (aB (cC (aB (aA 6) (aB (aA 8) aF))) (aB (pT nK) aF)))) cU) (eI (dJ kT (aA 9)) (bH 10)
     (aL (a0 11 (aE cP (aE aQ (aA 5) (aA 8)) (aE aQ (aA 9) (aA 10))))
      (cB (fP (bK (aE (rIn true) (aA 10) (aA 7))) (bK (aE iL (aA 11) (aE aQ (aA 7) (aA 10)))))
       (fQ (aA 11) (gD (aA 7) (aA 10))) cU))))
     D
     [some (bR rs),some (d9 row),some (j8 T),some (.tup (ps.map W.str)),some (.int b),some (.fk (bP here)),some (.str t),some (.ref q),some (.int a.1),some (.fk (bP (gK row t a.1))),o10,o11] (put M q (.dK (bP th))):=fun D hD o10 o11=>by
    refine⟨_,rfl,LU rfl (by lia) rfl ⟨rfl,uK _,_,rfl,?_⟩⟩
    show if inW (.str t) ((rs.map aX.name).map W.str)=true then _ else _
    rw[uJ,LS]
    refine b9 (fun z=>?_) fun z=>?_
    ·refine⟨_,rfl,rfl,_,rfl,_,rfl,z2,fun r hr=>⟨r,rfl,.inl ⟨_,aT,⟨_,⟨eK (t,a.1),rfl,rfl⟩,?_⟩⟩⟩⟩
     rw[i7 hr]
     have e:(a9 (T.map fun e=>(eK e.1,W.fk (bP e.2))) (eK (t,a.1))).getD (.fk [])=.fk (bP G):=by
      rw[j5 (f:=fun t=>W.fk (bP t)) nX,hG]
      unfold iQ inn
      rw[if_pos z]
      cases aG T (t,a.1) <;> rfl
     rw[e]
     exact loop D hD _ _
    ·have e:gK row t a.1=G:=by rw[hG];unfold iQ;rw[z];rfl
     rw[e]
     exact loop D hD _ _
   refine zeB (row:=row) (t:=t) (a:=a.1) w hst ha0 rfl rfl rfl ?_
   refine steps _ ?_ _ _
   exact fun _ _ _ _=>⟨_,Sub.refl _,_,_,_,_,rfl,rfl⟩
  ·rintro τ M' ⟨o8,o9,o10,o11,rfl,rfl⟩
   rw[Ab,rZ,Bz]
   exact⟨_,rfl,_,Sub.refl _,q,_,_,_,_,_,_,rfl,hqM,rfl⟩
 ·rintro τ M' ⟨p,o6,o7,o8,o9,o10,o11,rfl,hp,rfl⟩
  rw[Ab,Bz]
  exact⟨_,rfl,_,Sub.refl _,r p hp⟩
section
variable {κ β γ:Type}[DecidableEq κ]
theorem LZ(f:β->γ)(t:List (κ×β))(k:κ):aG (t.map fun e=>(e.1,f e.2)) k=(aG t k).map f:=by
 induction t with
 | nil=>rfl
 | cons e t ih=>
  rw[Ay,cQ,cQ,ih]
  by_cases h:e.1=k
  ·rw[if_pos h,if_pos h];rfl
  ·rw[if_neg h,if_neg h]
theorem zeD(f:β->γ)(t:List (κ×β))(k:κ)(v:β):(bE t k v).map (fun e=>(e.1,f e.2))=bE (t.map fun e=>(e.1,f e.2)) k (f v):=by
 unfold bE
 rw[f7,f7,LZ,Iu]
 split
 ·rw[Bp,Bp]
  refine Ee fun e _=>?_
  simp only[Gh]
  split <;> rfl
 ·rw[Ax];rfl
theorem zeE(t:List (κ×β))(k:κ)(v w:β):bE (bE t k v) k w=bE t k w:=by
 have h:bE (bE t k v) k w=(bE t k v).map fun e=>if e.1=k then(e.1,w) else e:=by
  generalize ht:bE t k v=t'
  unfold bE
  rw[f7,<-ht,gF,if_pos rfl];rfl
 rw[h]
 unfold bE
 rw[f7]
 split
 ·rw[Bp]
  refine Ee fun e _=>?_
  simp only[Gh]
  by_cases z:e.1=k
  ·rw[if_pos z,if_pos z,if_pos z]
  ·rw[if_neg z,if_neg z]
 ·rename_i z
  rw[Ax]
  congr 1
  ·refine(Ee fun e he=>?_).trans (List.map_id _)
   rw[if_neg (fun y=>z (gA.mpr (Ba.mpr ⟨e,he,y⟩)))];rfl
  ·simp
theorem L0{t:List (κ×β)}(nd:(t.map (·.1)).Nodup){k:κ}{v:β}(h:aG t k=some v):bE t k v=t:=by
 unfold bE
 rw[f7,h,if_pos (show(some v).isSome=true from rfl)]
 refine(Ee fun e he=>?_).trans (List.map_id _)
 split
 ·rename_i z
  have:=lS nd (show(e.1,e.2)∈t from he)
  rw[z,h] at this
  rw[Ci this];rfl
 ·rfl
theorem AZ{t:List (κ×β)}{k:κ}{v:β}{e:κ×β}(h:e∈bE t k v):e=(k,v)\/(e∈t/\e.1≠k):=by
 unfold bE at h
 split at h
 ·obtain⟨x,hx,rfl⟩:=Ba.mp h
  split
  ·rename_i z;exact .inl (by rw[z])
  ·rename_i z;exact .inr ⟨hx,z⟩
 ·rename_i z
  rcases Bo.mp h with h | h
  ·exact .inr ⟨h,fun y=>z (by rw[f7,gA];exact Ba.mpr ⟨e,h,y⟩)⟩
  ·exact .inl (Aw.mp h)
theorem L4{α:Type}{f:α->β}:∀ {l:List α},(l.map f).Nodup->∀ {x y:α},x∈l->y∈l->f x=f y->x=y
 | [],_,_,_,hx,_,_=>nomatch hx
 | a :: l,nd,x,y,hx,hy,e=>by
  rw[Ay,Cr] at nd
  rcases Ar.mp hx with rfl | hx
  ·rcases Ar.mp hy with rfl | hy
   ·rfl
   ·exact absurd (Ba.mpr ⟨y,hy,e.symm⟩) nd.1
  ·rcases Ar.mp hy with hy | hy
   ·exact absurd (by rw[<-hy];exact Ba.mpr ⟨x,hx,e⟩) nd.1
   ·exact L4 nd.2 hx hy e
end
section
variable {M0 M:Mm}{a p q e:Addr}{L:Lq}{key:Str×Int}{t t':Tb}{o:MO}
theorem vP(L:Lq)(key:Str×Int):aG (eR L) key=(aG L key).map (·.2):=LZ (fun y:Addr×Tb=>y.2) L key
theorem L5(L:Lq)(key:Str×Int)(y:Addr×Tb):eR (bE L key y)=bE (eR L) key y.2:=zeD (fun y:Addr×Tb=>y.2) L key y
theorem eS.look(h:eS M0 M a L):a9 (dC eK (fun y:Addr×Tb=>W.ref y.1) L) (eK key)=(aG L key).map fun y=>.ref y.1:=j5 nX L key
theorem eS.told(h:eS M0 M a L){x:(Str×Int)×Addr×Tb}(hx:x∈L):∃ u,M x.2.1=some u:=⟨_,(h.inn x hx).2.2⟩
theorem eS.more(h:eS M0 M a L)(hq:M q=none):eS M0 (put M q o) a L:=by
 have ne:∀ {b:Addr},(∃ u,M b=some u)->b≠q:=fun {b} ⟨u,z⟩ y=>by rw[y,hq] at z;cases z
 refine⟨fI h.sub (h.sub.non hq),h.new,by rw[aN (ne ⟨_,h.at_⟩)];exact h.at_,fun x hx=>?_,h.inj⟩
 obtain⟨h1,h2,h3⟩:=h.inn x hx
 exact⟨h1,h2,by rw[aN (ne ⟨_,h3⟩)];exact h3⟩
theorem eS.del(h:eS M0 M a L)(h0:M0 e=none)(ha:e≠a)(hl:∀ x∈L,x.2.1≠e):eS M0 (del M e) a L:=by
 refine⟨fun b u z=>?_,h.new,by rw[l8 (Bf ha)];exact h.at_,fun x hx=>?_,h.inj⟩
 ·rw[l8 (fun y=>by rw[y,h0] at z;cases z)];exact h.sub b u z
 ·obtain⟨h1,h2,h3⟩:=h.inn x hx
  exact⟨h1,h2,by rw[l8 (hl x hx)];exact h3⟩
theorem eS.wr(h:eS M0 M a L)(nd:(L.map (·.1)).Nodup)(hk:aG L key=some (p,t)):eS M0 (put M p (.dK (bP t'))) a (bE L key (p,t')):=by
 have hm:(key,p,t)∈L:=n6 hk
 obtain⟨p1,p2,p3⟩:=h.inn _ hm
 refine⟨fI h.sub p2,h.new,?_,fun x hx=>?_,?_⟩
 ·rw[aN (Bf p1),h.at_,<-rJ (f:=fun y:Addr×Tb=>W.ref y.1) nX]
  congr 2
  have:=L0 (t:=dC eK (fun y:Addr×Tb=>W.ref y.1) L) (k:=eK key) (v:=W.ref p) ?_ ?_
  ·exact this.symm
  ·rw[Bp]
   have:((fun x:List aD×W=>x.1) ∘ fun e:(Str×Int)×Addr×Tb=>(eK e.1,W.ref e.2.1))=eK ∘ fun e=>e.1:=rfl
   rw[this,<-Bp]
   rw[Hs] at nd ⊢
   rw[Km]
   exact nd.imp fun hne z=>hne (nX _ _ z)
  ·have:=h.look (key:=key)
   rw[hk] at this
   exact this
 ·rcases AZ hx with rfl | ⟨hx,hne⟩
  ·exact⟨p1,p2,aT⟩
  ·obtain⟨h1,h2,h3⟩:=h.inn x hx
   refine⟨h1,h2,?_⟩
   rw[aN (fun z=>hne (congrArg (·.1) (L4 h.inj hx hm z)))];exact h3
 ·have:(bE L key (p,t')).map (fun x=>x.2.1)=L.map fun x=>x.2.1:=by
   unfold bE
   rw[f7,hk,if_pos (show(some (p,t)).isSome=true from rfl),Bp]
   refine Ee fun x hx=>?_
   simp only[Gh]
   split
   ·rename_i z
    have:=lS nd (show(x.1,x.2)∈L from hx)
    rw[z,hk] at this
    rw[<-Ci this]
   ·rfl
  rw[this];exact h.inj
theorem eS.add(h:eS M0 M a L)(hk:aG L key=none)(hq:M q=none):eS M0 (put (put M q (.dK (bP []))) a (.dT (bZ (dC eK (fun y:Addr×Tb=>W.ref y.1) L) (eK key) (.ref q)))) a (bE L key (q,[])):=by
 have ne:∀ {b:Addr},(∃ u,M b=some u)->b≠q:=fun {b} ⟨u,z⟩ y=>by rw[y,hq] at z;cases z
 have hqa:q≠a:=Bf (ne ⟨_,h.at_⟩)
 refine⟨fI (fI h.sub (h.sub.non hq)) h.new,h.new,?_,fun x hx=>?_,?_⟩
 ·rw[aT,rJ (f:=fun y:Addr×Tb=>W.ref y.1) (v:=(q,[])) nX]
 ·rcases AZ hx with rfl | ⟨hx,_⟩
  ·exact⟨hqa,h.sub.non hq,by rw[aN hqa,aT]⟩
  ·obtain⟨h1,h2,h3⟩:=h.inn x hx
   exact⟨h1,h2,by rw[aN h1,aN (ne ⟨_,h3⟩)];exact h3⟩
 ·rw[rK hk,Ax,Ef]
  refine⟨h.inj,by simp,fun b hb c hc z=>?_⟩
  rw[Ay,Fv,Aw] at hc
  obtain⟨x,hx,rfl⟩:=Ba.mp hb
  exact ne (h.told hx) (z.trans hc)
end
theorem zeF{L:Lq}(h:((eR L).map (·.1)).Nodup):(L.map (·.1)).Nodup:=by
 unfold eR at h
 rwa [Bp] at h
theorem zeG{n j:Nat}{x:W}(h:(jV 0 (n + 1))[j]? = some x):∃ b:Int,(b7 n)[j]? = some b/\x=.int b:=by
 obtain⟨hj,rfl⟩:=p5 h
 refine⟨(j:Int),?_,by rw[Int.zero_add]⟩
 unfold b7
 rw[Av,Ii hj];rfl
theorem zeH{rs:List aX}{row:List Str}{T:Tq}(g:GQ rs)(I:IQ rs row T)(X:Str)(b:Int):fL row.length (inn T (X,b)):=by
 refine⟨I.ni _,fun k hk=>?_⟩
 rw[<-gA] at hk
 obtain⟨v,hv⟩:=Ej.mp hk
 exact(u9 g (I.so (X,b,k) v hv)).2.2.1
theorem zeI{rs:List aX}{row:List Str}{L:Lq}(g:GQ rs)(w:RQ row)(I:IQ rs row (eR L)):L.length<=100:=by
 have:=len_sub I.nd I.ky
 rw[Ab,mT (k:=row.length + 1) (fun X _=>by rw[Ab,rW]),Ab] at this
 unfold eR at this
 rw[Ab] at this
 have k1:row.length + 1<=10:=by have:=w.few;lia
 have k2:=Hw g.few k1
 lia
theorem L6{rs:List aX}{row:List Str}{M:Mm}{a e p:Addr}{ru:aX}{b:Int}{sv:Tq×Bool}{L1:Lq}{M3:Mm}{D:D3}{o10:Option W}(g:GQ rs)(w:RQ row)(hbm:b∈b7 row.length)(iqv:IQ rs row sv.1)(ct:eS M M3 a L1)(nd1:(L1.map (·.1)).Nodup)
  (hk:aG L1 (ru.name,b)=some (p,inn sv.1 (ru.name,b))) (ht:eR L1=bE sv.1 (ru.name,b) (inn sv.1 (ru.name,b))) (he:M3 e=some (.dK (bP (d7 rs row sv.1 ru.parts b)))) (hea:e≠a) (hel:∀ x∈L1,x.2.1≠e) (hM:M e=none)
  (hD:∀ (L:Lq) (o8 o9 o10:Option W) M',eS M M' a L->eR L=(gL rs row ru sv b).1->D.nx [some (bR rs),some (d9 row),some (.ref a),some (.bl (gL rs row ru sv b).2),some (.str ru.name),some (.tup (ru.parts.map W.str)),some (.int ru.cost),some (.int b),o8,o9,o10] M') :
  (vD 8 (eI (dJ kT (aA 8)) (bH 10)
    (cB (fP (bK (aE (rIn true) (aA 10) (aA 9))) (bK (aE iL (aE cP (aA 6) (aE aQ (aA 8) (aA 10))) (aE aQ (aA 9) (aA 10)))))
    (aL (fQ (aE cP (aA 6) (aE aQ (aA 8) (aA 10))) (gD (aA 9) (aA 10)))
   (a0 3 (vC (.bl true))))
    cU))) D [some (bR rs),some (d9 row),some (.ref a),some (.bl sv.2),some (.str ru.name),some (.tup (ru.parts.map W.str)),some (.int ru.cost),some (.int b),some (.ref e),some (.ref p),o10] M3:=by
 have hw9:=w.few
 obtain⟨E,hE⟩:∃ E,E=d7 rs row sv.1 ru.parts b:=⟨_,rfl⟩
 have eok:fL row.length E:=by rw[hE];exact LR g iqv hbm _
 rw[<-hE] at he
 have hv:gL rs row ru sv b=(bE sv.1 (ru.name,b) (E.foldl (d8 ru.cost) (inn sv.1 (ru.name,b),sv.2)).1,(E.foldl (d8 ru.cost) (inn sv.1 (ru.name,b),sv.2)).2):=by rw[hE];rfl
 obtain⟨t0,h0⟩:∃ t0,t0=inn sv.1 (ru.name,b):=⟨_,rfl⟩
 have tok:fL row.length t0:=by rw[h0];exact zeH g iqv _ _
 rw[hv] at hD
 rw[<-h0] at hk ht hD
 refine⟨e,_,rfl,he,_,rfl,LW (eO (fun k τ M'=>∃ (Lk:Lq) (o10:Option W),τ=[some (bR rs),some (d9 row),some (.ref a),some (.bl ((E.take k).foldl (d8 ru.cost) (t0,sv.2)).2),some (.str ru.name),some (.tup (ru.parts.map W.str)),some (.int ru.cost),some (.int b),some (.fk (bP E)),some (.ref p),o10]/\eS M M' a Lk/\(Lk.map (·.1)).Nodup/\aG Lk (ru.name,b)=some (p,((E.take k).foldl (d8 ru.cost) (t0,sv.2)).1)/\eR Lk=bE sv.1 (ru.name,b) ((E.take k).foldl (d8 ru.cost) (t0,sv.2)).1) ⟨L1,_,rfl,ct.del hM hea hel,nd1,hk,ht⟩ (fun _ _ _ _ _=>trivial) ?_ ?_)⟩
 ·rintro k x τ M' hx ⟨Lk,o10,rfl,ctk,ndk,hkk,htk⟩
  rw[AX,Av] at hx
  obtain⟨x,hxk,rfl⟩:=Bj.mp hx
  have hxm:=Be hxk
  obtain⟨sk,hsk⟩:∃ sk,sk=(E.take k).foldl (d8 ru.cost) (t0,sv.2):=⟨_,rfl⟩
  have skok:fL row.length sk.1:=by
   rw[hsk,(zF ru.cost (E.take k) (t0,sv.2)).1]
   refine tok.flow fun y hy=>?_
   obtain⟨z,hz,rfl⟩:=Ba.mp hy
   exact eok.inn z.1 (Dx (Ey hz))
  have hnx:(E.take (k + 1)).foldl (d8 ru.cost) (t0,sv.2)=d8 ru.cost sk x:=by rw[Bx,hxk,Eh,<-hsk];rfl
  rw[hnx,<-hsk]
  rw[<-hsk] at hkk htk
  have hMp:M' p=some (.dK (bP sk.1)):=(ctk.inn _ (n6 hkk)).2.2
  have le:a9 (bP E) (Sum.inl x.1:aD)=some (.int x.2):=by rw[oH,lS eok.nd hxm];rfl
  have hlen:=skok.len
  show cB (fP (bK (aE (rIn true) (aA 10) (aA 9))) (bK (aE iL (aE cP (aA 6) (aE aQ (aA 8) (aA 10))) (aE aQ (aA 9) (aA 10))))) (aL (fQ (aE cP (aA 6) (aE aQ (aA 8) (aA 10))) (gD (aA 9) (aA 10))) (a0 3 (vC (.bl true)))) cU _ [some (bR rs),some (d9 row),some (.ref a),some (.bl sk.2),some (.str ru.name),some (.tup (ru.parts.map W.str)),some (.int ru.cost),some (.int b),some (.fk (bP E)),some (.ref p),some (.int x.1)] _
  refine LX (q:=p) (th:=sk.1) (k:=x.1) (v:=ru.cost + x.2) hMp (fun R h=>⟨_,rfl,h⟩) (fun R h=>⟨_,rfl,_,rfl,_,rfl,_,⟨Sum.inl x.1,rfl,le.symm⟩,h⟩) (fun z=>?_) (fun z=>?_) rfl
  ·have e1:d8 ru.cost sk x=(bE sk.1 x.1 (ru.cost + x.2),true):=by unfold d8;rw[if_pos z]
   rw[e1]
   refine⟨_,rfl,_,rfl,_,rfl,_,⟨Sum.inl x.1,rfl,le.symm⟩,_,rfl,_,rfl,LV hMp (by lia) ⟨_,Sub.refl _,bE Lk (ru.name,b) (p,bE sk.1 x.1 (ru.cost + x.2)),_,rfl,ctk.wr ndk hkk,u6 ndk,by rw[gF,if_pos rfl],?_⟩⟩
   rw[L5,htk,zeE]
  ·have e1:d8 ru.cost sk x=sk:=by unfold d8;rw[if_neg (by rw[z];exact Ao)]
   rw[e1]
   exact⟨_,Sub.refl _,Lk,_,rfl,ctk,ndk,hkk,htk⟩
 ·rintro τ M' ⟨Lk,o10,rfl,ctk,ndk,hkk,htk⟩
  rw[Ab,rZ,Bz] at htk
  rw[Ab,rZ,Bz]
  exact hD Lk _ _ _ M' ctk htk
theorem zeJ{ws:List W}{M:Mm}{R:K3}(h:AQ ws M R):zdH (bT R) (b8 zdB ws) M:=by
 obtain⟨rs,row,rfl,g,w,r⟩:=h
 have hw9:=w.few
 have hrf:=g.few
 refine fun a ha=>?_
 obtain⟨m0,hm0⟩:=zbo (row:=row) g _ _ (JZ (rs:=rs) (row:=row)) (Ai _) (Ai _)
 have ct0:eS M (put M a (.dT [])) a []:=⟨Sub.new ha,ha,aT,(fun _ h=>nomatch h),Cy⟩
 refine⟨fun m τ M'=>∃ (L:Lq) (fl:Bool) (o4 o5 o6 o7 o8 o9 o10:Option W),τ=[some (bR rs),some (d9 row),some (.ref a),some (.bl fl),o4,o5,o6,o7,o8,o9,o10]/\eS M M' a L/\IQ rs row (eR L)/\(fl=false->pX rs row (eR L))/\(fl=true->u7 rs row m (eR L)),⟨m0,[],true,_,_,_,_,_,_,_,rfl,ct0,JZ,(fun h=>nomatch h),fun _=>hm0⟩,?_⟩
 rintro m τ M' ⟨L,fl,o4,o5,o6,o7,o8,o9,o10,rfl,ct,iq,hfix,hend⟩
 refine⟨_,rfl,b9 (fun hfl=>?_) fun hfl=>⟨_,rfl,_,Sub.refl _,r a M' L iq (hfix hfl) ct⟩⟩
 have hend:=hend hfl
 obtain⟨T,hT⟩:∃ T,T=eR L:=⟨_,rfl⟩
 rw[<-hT] at iq hend
 refine⟨_,rfl,eO (ws:=rs.map eP) (fun i τ M'=>∃ (L:Lq) (o4 o5 o6 o7 o8 o9 o10:Option W),τ=[some (bR rs),some (d9 row),some (.ref a),some (.bl ((rs.take i).foldl (kW rs row) (T,false)).2),o4,o5,o6,o7,o8,o9,o10]/\eS M M' a L/\eR L=((rs.take i).foldl (kW rs row) (T,false)).1) ⟨L,_,_,_,_,_,_,_,rfl,ct,hT.symm⟩ (fun _ _ _ _ _=>trivial) ?_ ?_⟩
 ·rintro i x τ M' hx ⟨L,o4,o5,o6,o7,o8,o9,o10,rfl,ct,hL⟩
  rw[Av] at hx
  obtain⟨ru,hru,rfl⟩:=Bj.mp hx
  have hrm:=Be hru
  have hp4:=g.fp ru hrm
  obtain⟨st,hst⟩:∃ st,st=(rs.take i).foldl (kW rs row) (T,false):=⟨_,rfl⟩
  have iqs:IQ rs row st.1:=by rw[hst];exact(zH (rs.take i) (fun r hr=>Ey hr) (st:=(T,false)) iq).1.iq
  have hnext:(rs.take (i + 1)).foldl (kW rs row) (T,false)=kW rs row st ru:=by rw[Bx,hru,Eh,<-hst];rfl
  rw[hnext,<-hst]
  rw[<-hst] at hL
  refine⟨rfl,rfl,_,rfl,_,rfl,by rw[Ab];lia,by rw[Ab];lia,?_⟩
  rw[show((((row.map W.str).length:Nat):Int) + 1).toNat=row.length + 1 by rw[Ab];lia]
  refine eO (fun j τ M'=>∃ (L:Lq) (o7 o8 o9 o10:Option W),τ=[some (bR rs),some (d9 row),some (.ref a),some (.bl (((b7 row.length).take j).foldl (gL rs row ru) st).2),some (.str ru.name),some (.tup (ru.parts.map W.str)),some (.int ru.cost),o7,o8,o9,o10]/\eS M M' a L/\eR L=(((b7 row.length).take j).foldl (gL rs row ru) st).1) ⟨L,_,_,_,_,rfl,ct,hL⟩ (fun _ _ _ _ _=>trivial) ?_ ?_
  ·rintro j x τ M' hx ⟨L,o7,o8,o9,o10,rfl,ct,hL⟩
   obtain⟨b,hb,rfl⟩:=zeG hx
   have hbm:=Be hb
   obtain⟨sv,hsv⟩:∃ sv,sv=((b7 row.length).take j).foldl (gL rs row ru) st:=⟨_,rfl⟩
   have iqv:IQ rs row sv.1:=by rw[hsv];exact(zG hrm _ (fun b hb=>Ey hb) iqs).1.iq
   have hnv:((b7 row.length).take (j + 1)).foldl (gL rs row ru) st=gL rs row ru sv b:=by rw[Bx,hb,Eh,<-hsv];rfl
   rw[hnv,<-hsv]
   rw[<-hsv] at hL
   have eft:W.ft ((L.map fun x=>(eK x.1,x.2.1,x.2.2.map fun e=>((Sum.inl e.1:aD),e.2))).map fun x=>(x.1,W.fk (gM x.2.2)))=j8 (eR L):=by
    unfold j8 eR
    rw[Bp,Bp];rfl
   have ndL:(L.map (·.1)).Nodup:=zeF (by rw[hL];exact iqv.nd)
   have lL:=zeI g w (L:=L) (by rw[hL];exact iqv)
   refine⟨a,L.map fun x=>(eK x.1,x.2.1,x.2.2.map fun e=>((Sum.inl e.1:aD),e.2)),rfl,by rw[Bp];exact ct.at_,fun x hx=>?_,?_⟩
   ·obtain⟨y,hy,rfl⟩:=Ba.mp hx
    exact(ct.inn y hy).2.2
   rw[eft,hL]
   refine⟨_,rfl,_,rfl,_,rfl,_,rfl,_,rfl,rs,row,sv.1,ru.parts,b,rfl,g,w,iqv,hp4,g.sp ru hrm,hbm,fun p _=>⟨p,_,rfl,aT,fun e he=>?_⟩⟩
   have Me:M e=none:=ct.sub.non he
   have hea:e≠a:=fun z=>by rw[z,ct.at_] at he;cases he
   have hel:∀ x∈L,x.2.1≠e:=fun x hx z=>by rw[<-z,(ct.inn x hx).2.2] at he;cases he
   have ct2:=ct.more (o:=.dK (bP (d7 rs row sv.1 ru.parts b))) he
   refine⟨_,rfl,nV ct2.at_,_,rfl,_,rfl,z2,fun q hq=>⟨_,eK (ru.name,b),(ct2.more hq).at_,rfl,eC (by rw[Ab];lia),fun w' hw=>?_,fun hn=>?_⟩⟩
   ·rw[(ct2.more (o:=.dK []) hq).look] at hw
    obtain⟨y,hy,rfl⟩:=Bj.mp hw
    have e1:y.2=inn sv.1 (ru.name,b):=by unfold inn;rw[<-hL,vP,hy];rfl
    have hqe:e≠q:=fun z=>by rw[<-z,aT] at hq;cases hq
    have hg:aG sv.1 (ru.name,b)=some (inn sv.1 (ru.name,b)):=by rw[<-e1,<-hL,vP,hy];rfl
    refine L6 g w hbm iqv (ct2.more (o:=.dK []) hq) ndL (by rw[hy,<-e1]) (by rw[hL,L0 iqv.nd hg]) (by rw[aN hqe,aT];rfl) hea hel Me ?_
    exact fun L' o8 o9 o10 M' c l=>⟨_,Sub.refl _,L',_,_,_,_,rfl,c,l⟩
   ·rw[(ct2.more (o:=.dK []) hq).look] at hn
    have hy:aG L (ru.name,b)=none:=Option.map_eq_none_iff.mp hn
    have e1:inn sv.1 (ru.name,b)=[]:=by unfold inn;rw[<-hL,vP,hy];rfl
    have hqe:e≠q:=fun z=>by rw[<-z,aT] at hq;cases hq
    have ct3:=ct2.add hy hq
    refine L6 (p:=q) (L1:=bE L (ru.name,b) (q,[])) g w hbm iqv ct3 (u6 ndL) (by rw[gF,if_pos rfl,e1]) (by rw[L5,hL,e1]) (by rw[aN hea,aN hqe,aT];rfl) hea (fun x hx z=>?_) Me ?_
    ·rcases AZ hx with rfl | ⟨hx,_⟩
     ·exact hqe z.symm
     ·exact hel x hx z
    ·exact fun L' o8 o9 o10 M' c l=>⟨_,Sub.refl _,L',_,_,_,_,rfl,c,l⟩
  ·rintro τ M' ⟨L,o7,o8,o9,o10,rfl,ct,hL⟩
   rw[rX] at hL
   rw[rX]
   have e:(b7 row.length).take (row.length + 1)=b7 row.length:=Fd (by rw[rW];exact Ai _)
   rw[e] at hL ⊢
   exact⟨_,Sub.refl _,L,_,_,_,_,_,_,_,rfl,ct,hL⟩
 ·rintro τ M' ⟨L,o4,o5,o6,o7,o8,o9,o10,rfl,ct,hL⟩
  rw[Ab,Bz] at hL
  rw[Ab,Bz]
  have hL:eR L=(j7 rs row T).1:=hL
  obtain⟨s,f⟩:=JX iq
  cases m with
  | zero=>exact hend.elim
  | succ m=>
   refine⟨m,_,Ie _,Sub.refl _,L,(j7 rs row T).2,_,_,_,_,_,_,_,rfl,ct,by rw[hL];exact s.iq,fun z=>by rw[hL];exact f z,fun z=>?_⟩
   rcases hend with h | h
   ·rw[h] at z;cases z
   ·rw[hL];exact h
theorem pY.tup{rs:List aX}:∀ {d:Nat} {x:W} {X:Str} {ts:List Str} {c:Int},pY rs d x X ts c->∃ n kids,x=.tup [.int (n:Nat),.tup kids]
 | 0,_,_,_,_,h=>h.elim
 | d + 1,x,X,ts,c,⟨n,r,kids,ps,h,_⟩=>⟨n,kids,h⟩
theorem zeK{ps:List (List Str×Int)}{k:Nat}{p:List Str×Int}(h:ps[k]? = some p):((ps.take (k + 1)).map (·.1)).flatten=((ps.take k).map (·.1)).flatten ++ p.1/\((ps.take (k + 1)).map (·.2)).sum=((ps.take k).map (·.2)).sum + p.2:=by
 rw[Bx,h]
 simp
theorem L7{ps:List (List Str×Int)}{k:Nat}:((ps.take k).map (·.1)).flatten.length<=(ps.map (·.1)).flatten.length:=by
 conv=>rhs;rw[<-Lm k ps,Ax,List.flatten_append,Ak]
 exact Nat.le_add_right _ _
theorem zeL{d:Nat}{ws:List W}{M:Mm}{R:K3}(h:rV (d + 1) ws M R):zdQ (rV d) (bT R) (b8 LD ws) M:=by
 obtain⟨rs,x,X,ts,c,rfl,g,tr,hts,r⟩:=h
 cases d with
 | zero=>exact tr.elim
 | succ d=>
  obtain⟨n,ru,kids,ps,rfl,hru,rfl,hkl,hpl,rfl,rfl,hk⟩:=tr
  have hrf:=g.few
  have hrm:=Be hru
  have hp4:=g.fp ru hrm
  obtain⟨ru',h1,hat⟩:=rN (rs:=rs) (n:=n) (Aj.mp hru).1
  cases (show some ru'=some ru from h1.symm.trans hru)
  have hn:=(Aj.mp hru).1
  refine⟨_,rfl,lU ⟨"tuple",true,rfl,by decide,⟨_,rfl,_,rfl,b9 (fun h=>nomatch (show false=true from h)) fun _=>⟨_,rfl,_,rfl,lU ⟨"tuple",true,rfl,by decide,?_⟩⟩⟩⟩⟩
  refine⟨_,rfl,_,rfl,lU ⟨"int",true,rfl,by decide,⟨_,rfl,_,rfl,lU ⟨"int",false,rfl,by decide,?_⟩⟩⟩⟩
  refine⟨_,rfl,_,rfl,_,rfl,b9 (fun _=>⟨_,rfl,_,rfl,b9 (fun z=>?_) fun z=>?_⟩) fun z=>?_⟩
  ·have z:=of_decide_eq_false (show decide ((n:Int) < (rs.map eP).length)=false by rw[<-Ld (decide _),show(!decide ((n:Int) < (rs.map eP).length))=true from z];rfl)
   rw[Ab] at z
   lia
  ·refine⟨_,rfl,_,rfl,_,rfl,_,hat,rfl,rfl,_,rfl,_,rfl,_,rfl,_,rfl,b9 (fun h=>?_) fun _=>?_⟩
   ·rw[show(!decide (((kids.length:Nat):Int)=(ru.parts.map W.str).length))=false by rw[Ab,hkl,decide_eq_true rfl];rfl] at h
    cases h
   refine⟨Bv _,fun p hp=>⟨_,rfl,_,rfl,_,rfl,?_⟩⟩
   refine eO (ws:=iN (ru.parts.map W.str) kids) (fun k τ M'=>∃ (p:Addr) (o6 o7 o8:Option W),τ=[some (bR rs),some (.tup [.int n,.tup kids]),some (.str ru.name),some (.tup (ru.parts.map W.str)),some (.int (ru.cost + ((ps.take k).map (·.2)).sum)),some (.ref p),o6,o7,o8]/\M p=none/\M'=put M p (.lst (((ps.take k).map (·.1)).flatten.map W.str))) ⟨p,_,_,_,by rw[List.take_zero,Fv,List.sum_nil,Int.add_zero];rfl,hp,rfl⟩ (fun _ _ _ _ _=>trivial) ?_ ?_
   ·rintro k y τ M' hy ⟨p,o6,o7,o8,rfl,hp,rfl⟩
    obtain⟨t,kid,pc,ht,hkid,hpc,rfl⟩:∃ t kid pc,ru.parts[k]? = some t/\kids[k]? = some kid/\ps[k]? = some pc/\y=.tup [.str t,kid]:=by
     have hk:=(Aj.mp hy).1
     rw[lN,Ab,hkl,Nat.min_self] at hk
     have e1:ru.parts[k]? = some ru.parts[k]:=An hk
     have e2:kids[k]? = some (kids[k]'(by rw[hkl];exact hk)):=An (by rw[hkl];exact hk)
     rw[tX (by rw[Av,e1];rfl) e2] at hy
     cases hy
     exact⟨_,_,_,e1,e2,An (by rw[hpl];exact hk),rfl⟩
    obtain⟨f1,f2⟩:=zeK hpc
    have fl:=L7 (ps:=ps) (k:=k)
    have fl1:=L7 (ps:=ps) (k:=k + 1)
    obtain⟨hw,hnm⟩:=hk k t pc ht hpc
    have tt:(!decide (t=t))=false:=by rw[decide_eq_true rfl];rfl
    rw[f1,Ak] at fl1
    rw[f1,f2]
    cases ho:d6 rs t with
    | false=>
     obtain⟨a1,a2⟩:=hw ho
     rw[hkid] at a1
     cases a1
     subst a2
     refine⟨rfl,rfl,_,rfl,lU ⟨"str",true,rfl,by decide,⟨_,rfl,_,rfl,_,rfl,b9 (fun h=>absurd (tt.symm.trans h) Ao) fun _=>⟨_,rfl,LU rfl (by lia) rfl ⟨rfl,uK _,_,rfl,?_⟩⟩⟩⟩⟩
     show if inW (.str t) ((rs.map aX.name).map W.str)=true then _ else _
     rw[uJ,LS,ho]
     refine⟨_,rfl,fD aT,_,rfl,_,aT,eC (by rw[Ab];lia),_,Sub.refl _,p,_,_,_,by rw[Int.add_zero];rfl,hp,?_⟩
     rw[gP,Ax];rfl
    | true=>
     obtain⟨w',a1,a2⟩:=hnm ho
     rw[hkid] at a1
     cases a1
     obtain⟨n',kids',rfl⟩:=a2.tup
     refine⟨rfl,rfl,_,rfl,lU ⟨"tuple",false,rfl,by decide,⟨_,rfl,_,rfl,rs,_,t,pc.1,pc.2,rfl,g,a2,by lia,?_⟩⟩⟩
     refine⟨_,rfl,_,rfl,⟨_,rfl,_,eN (j:=0) rfl,_,rfl,_,rfl,b9 (fun h=>absurd (tt.symm.trans h) Ao) fun _=>?_⟩⟩
     refine⟨_,rfl,_,rfl,_,eN (j:=1) rfl,_,aT,iA (by rw[Ab,Ab];lia),fun p' hp'=>?_⟩
     have hpp:p'≠p:=fun e=>by rw[e,aT] at hp';cases hp'
     rw[aN hpp] at hp'
     refine⟨_,rfl,_,rfl,_,eN (j:=2) rfl,put M p' (.lst ((((ps.take k).map (·.1)).flatten ++ pc.1).map W.str)),?_,p',_,_,_,by rw[<-Int.add_assoc];rfl,hp',rfl⟩
     rw[Ax]
     exact Sub.put (Sub.new hp)
   ·rintro τ M' ⟨p,o6,o7,o8,rfl,hp,rfl⟩
    have hlen:(iN (ru.parts.map W.str) kids).length=ps.length:=by rw[lN,Ab,hkl,Nat.min_self,hpl]
    rw[hlen,Bz]
    refine⟨_,rfl,_,rfl,.inl ⟨_,aT,_,rfl,z3,?_⟩⟩
    rw[i7 hp]
    exact⟨_,Sub.refl _,r⟩
  ·exact absurd (Int.natCast_nonneg n) (of_decide_eq_false z)
theorem zeM{rs:List aX}(g:GQ rs):Pl 3 (bR rs):=fun x hx=>by
 obtain⟨q,hq,rfl⟩:=Ba.mp hx
 intro y hy
 rcases Ar.mp hy with rfl | hy
 ·exact g.sn q hq
 rcases Ar.mp hy with rfl | hy
 ·intro z hz
  obtain⟨t,ht,rfl⟩:=Ba.mp hz
  exact g.sp q hq t ht
 ·rw[Aw.mp hy];trivial
def zeN(o:Option Int):W:=(o.map W.int).getD .non
theorem zeO{C:Cc}{ws:List W}{M:Mm}{R:K3}(h:KW ws M R):zdX C (bT R) (b8 zdR ws) M:=by
 obtain⟨zs,rfl,hz,_,r⟩:=h
 refine⟨_,rfl,zs,rfl,hz,fun d n M1 dk _ _ _=>⟨_,rfl,d,n,rfl,dk,fun rs a M2 g ma ad an dk2=>.inl ⟨_,ma,?_⟩⟩⟩
 refine⟨_,rfl,_,rfl,d,n,rs,rfl,dk2.del ad an,g,fun row M3 w=>?_⟩
 obtain⟨q,rs,rfl⟩:∃ q rs',rs=q :: rs':=by
  cases rs with
  | nil=>exact(g.ne rfl).elim
  | cons q rs=>exact⟨_,_,rfl⟩
 have e0:cG ((q :: rs).map eP) 0=some (eP q):=eN (j:=0) rfl
 have hq:q∈q :: rs:=Bd ..
 have rest:∀ (T:Tq) M4,IQ (q :: rs) row T->pX (q :: rs) row T->(aL (LF C) (aL (LG C) (aL (LH C) (aL (LI C) (aL (LJ C) (aL (LK C) (LL C))))))) (bT R) [some (.sc (zs.map W.int)),some (.ref d),some (bR (q :: rs)),some (d9 row),some (.str q.name),some (zeN (eW T (iF q row))),none,none] M4:=fun T M4 iq fx=>by
  have same:∀ {M:Mm} {R:K3},R (.bl false) M->rEq true (.tup [bR (q :: rs),d9 row]) (.tup [bR (q :: rs),d9 row]) M R:=fun h=>G4 (neg:=true) 4 (by decide) (fun w1 hw=>by
   rcases Ar.mp hw with rfl | hw
   ·exact zeM g
   ·rw[Aw.mp hw]
    exact(rY w.sok).mono (by decide)) rfl h
  refine⟨_,rfl,_,rfl,z2,_,rfl,_,rfl,_,rfl,_,rfl,q,rs,row,rfl,g,w,fun B hB=>⟨fun v hv=>?_,fun hn=>?_⟩⟩
  ·have hl:eW T (iF q row)=some v.1.1:=by rw[J0 iq fx hB,hv];rfl
   rw[hl]
   have T40:=zbx g w hB hv
   have h9:=w.few
   refine⟨_,rfl,_,rfl,_,rfl,z2,same ⟨_,rfl,?_⟩⟩
   refine⟨_,rfl,_,rfl,?_⟩
   refine⟨_,rfl,lU ⟨"tuple",true,rfl,by decide,⟨_,rfl,_,rfl,?_⟩⟩⟩
   refine⟨_,rfl,_,rfl,lU ⟨"int",true,rfl,by decide,⟨_,rfl,_,rfl,lU ⟨"int",false,rfl,by decide,?_⟩⟩⟩⟩
   refine⟨_,rfl,_,eN (j:=0) rfl,_,rfl,_,rfl,?_⟩
   rw[decide_eq_true rfl]
   refine⟨_,rfl,_,rfl,_,eN (j:=1) rfl,q :: rs,_,q.name,row,v.1.1,rfl,g,T40,by lia,_,rfl,_,rfl,_,rfl,z3,G4 (neg:=false) 2 (by decide) (fun x hx=>?_) rfl ⟨_,Sub.refl _,r _⟩⟩
   rcases Ar.mp hx with rfl | hx
   ·exact g.sn q hq
   rcases Ar.mp hx with rfl | hx
   ·exact rY w.sok
   ·rw[Aw.mp hx];trivial
  ·have hl:eW T (iF q row)=none:=by rw[J0 iq fx hB,hn];rfl
   rw[hl]
   refine⟨_,rfl,_,rfl,_,rfl,z2,same ⟨_,rfl,⟨_,rfl,_,rfl,⟨_,rfl,_,Sub.refl _,r _⟩⟩⟩⟩
 refine⟨_,rfl,_,e0,_,rfl,_,rfl,_,rfl,q :: rs,row,rfl,g,w,fun a M4 L iq fx ct=>⟨nV ct.at_,_,rfl,z2,fun b hb=>.inr (.inl ⟨_,aT,?_⟩)⟩⟩
 rw[i7 hb]
 refine⟨_,.inr ⟨_,eK (q.name,0),ct.at_,rfl,rfl⟩,?_⟩
 rw[ct.look]
 have e:∀ y,aG L (q.name,0)=y->eW (eR L) (iF q row)=aG ((y.map (·.2)).getD []) (row.length:Int):=fun y hy=>by
  unfold eW inn iF
  rw[vP,hy]
 cases hy:aG L (q.name,0) with
 | none=>
  have e:=e _ hy
  refine⟨rfl,_,rfl,_,⟨Sum.inl (row.length:Int),by rw[Ab];rfl,rfl⟩,?_⟩
  have:=rest (eR L) M4 iq fx
  rw[e] at this
  exact this
 | some y=>
  have e:=e _ hy
  have hm:=(ct.inn _ (n6 hy)).2.2
  refine⟨.inr ⟨rfl,.inl ⟨_,hm⟩⟩,_,rfl,_,.inl ⟨_,Sum.inl (row.length:Int),hm,by rw[Ab];rfl,rfl⟩,?_⟩
  rw[oH]
  have:=rest (eR L) M4 iq fx
  rw[e] at this
  exact this
structure Tx(mg:Str->Option Ae):Prop where
 abs_:mg "abs" = none
 bool_:mg "bool" = none
 dict_:mg "dict" = none
 enumerate_:mg "enumerate" = none
 int_:mg "int" = none
 isinstance_:mg "isinstance" = none
 len_:mg "len" = none
 list_:mg "list" = none
 range_:mg "range" = none
 reversed_:mg "reversed" = none
 str_:mg "str" = none
 tuple_:mg "tuple" = none
 zip_:mg "zip" = none
structure Kc(K:Ac)(mg:Str->Option Ae)(C:Cc):Prop where
 cls_Queue:gO K C.q
 at__Queue:mg "Queue" = some (.ref C.q)
 cls_Search:gO K C.s
 at__Search:mg "Search" = some (.ref C.s)
 na_costs:fX K C.q "costs"
 na_waiting:fX K C.q "waiting"
 na_grammar:fX K C.s "grammar"
 na_own:fX K C.s "own"
 na_steps:fX K C.s "steps"
 na_queue:fX K C.s "queue"
 na_reached:fX K C.s "reached"
 na_best:fX K C.s "best"
 na_ends:fX K C.s "ends"
 na_begun:fX K C.s "begun"
structure Al(K:Ac)(mg:Str->Option Ae)(C:Cc)(fa:Nat->Addr)(fb:Nat->Bl):Prop extends Tx mg,Kc K mg C where
 x0:Df K mg "names" A5 ["grammar"] (fa 0) (fb 0)
 x1:Df K mg "first_name" A6 ["grammar"] (fa 1) (fb 1)
 x2:Df K mg "marks" A7 ["things"] (fa 2) (fb 2)
 x3:Df K mg "places_of" A8 ["row"] (fa 3) (fb 3)
 x4:Df K mg "row_steps" A9 ["row"] (fa 4) (fb 4)
 x5:Df K mg "part_facts" BA ["own","parts","cut"] (fa 5) (fb 5)
 x6:Di K C.q "__init__" "Queue.__init__" BB ["self"] (fa 6) (fb 6)
 x7:Dm K C.q "is_done" "Queue.is_done" BC ["self"] (fa 7) (fb 7)
 x8:Dm K C.q "place_of" "Queue.place_of" BE ["self","cost"] (fa 8) (fb 8)
 x9:Dm K C.q "put" "Queue.put" BD ["self","cost","thing"] (fa 9) (fb 9)
 x10:Dm K C.q "take" "Queue.take" BF ["self"] (fa 10) (fb 10)
 x11:Df K mg "added" BG ["cost","other"] (fa 11) (fb 11)
 x12:Di K C.s "__init__" "Search.__init__" BH ["self","grammar","steps"] (fa 12) (fb 12)
 x13:Dm K C.s "reach" "Search.reach" BI ["self","number","cut","cost"] (fa 13) (fb 13)
 x14:Dm K C.s "settle" "Search.settle" BL ["self","number","cut","cost"] (fa 14) (fb 14)
 x15:Dm K C.s "step_by_name" "Search.step_by_name" BK ["self","number","cut","cost","key"] (fa 15) (fb 15)
 x16:Dm K C.s "take_next" "Search.take_next" BJ ["self"] (fa 16) (fb 16)
 x17:Df K mg "least_trees" BM ["grammar","places","steps","weights"] (fa 17) (fb 17)
 x18:Df K mg "facts_within" BN ["grammar","best","top"] (fa 18) (fb 18)
 x19:Df K mg "knot_of" BQ ["number","children"] (fa 19) (fb 19)
 x20:Df K mg "same_word" BP ["word","begin","end"] (fa 20) (fb 20)
 x21:Df K mg "made_of_best" BO ["grammar","best","top","of_word","of_rule"] (fa 21) (fb 21)
 x22:Df K mg "best_tree" BR ["grammar","best","top"] (fa 22) (fb 22)
 x23:Df K mg "row_trees" BS ["grammar","row","weights"] (fa 23) (fb 23)
 x24:Df K mg "whole_fact" BU ["grammar","row"] (fa 24) (fb 24)
 x25:Df K mg "rule_costs" BV ["grammar"] (fa 25) (fb 25)
 x26:Df K mg "least_reading" BW ["grammar","row"] (fa 26) (fb 26)
 x27:Df K mg "_law_cell_at" BX ["script","k"] (fa 27) (fb 27)
 x28:Df K mg "_law_mixed" BY ["cell","k"] (fa 28) (fb 28)
 x29:Df K mg "_law_deck" BZ ["script"] (fa 29) (fb 29)
 x30:Df K mg "_law_digit" B0 ["deck","many"] (fa 30) (fb 30)
 x31:Df K mg "_law_words" B1 [] (fa 31) (fb 31)
 x32:Df K mg "_law_rule" B2 ["deck","heads","name"] (fa 32) (fb 32)
 x33:Df K mg "_law_grammar" B3 ["deck"] (fa 33) (fb 33)
 x34:Df K mg "_law_made" B4 ["deck","grammar"] (fa 34) (fb 34)
 x35:Df K mg "_law_row" B5 ["deck","grammar"] (fa 35) (fb 35)
 x36:Df K mg "_law_behind" B6 ["grammar","row","costs","parts","begin"] (fa 36) (fb 36)
 x37:Df K mg "_law_costs" B7 ["grammar","row"] (fa 37) (fb 37)
 x38:Df K mg "_law_walked" B8 ["grammar","tree"] (fa 38) (fb 38)
 x39:Df K mg "law" B9 ["script"] (fa 39) (fb 39)
 f_same_word:C.f=fa 20
 f_knot_of:C.g=fa 19
section
variable {P:Bq}{w:Cj}{K:Ac}{mg:Str->Option Ae}{base:Heap}{C:Cc}{fa:Nat->Addr}{fb:Nat->Bl}(Y:Al K mg C fa fb)
seal L2.PE L2.PA L2.PS L2.fW L2.PT L2.PG L2.PI L2.PO
def A0:=cF P w mg base 0 Y.x0.fn Y.x0.bi cD ZP ZS fun hr hu nd=>(aR (bB (i:=1) nd qT)
   (aR (e7 Br rfl (kN (v 0)) (cV (i:=2) nd)
    (aW (jT kJ (w_sub hu (v 1) (aV hu (v 2) aP)))))
   (aW (b6 (jS (GG rfl) (by rfl) Y.list_ xQ (aC (v 1) aH))))))
def zeP:=cF P w mg base 0 Y.x1.fn Y.x1.bi cD ZQ ZT fun hr hu nd=>(aW (b6 (aV hu (aV hu (v 0) aP) aP)))
def A1:=cF P w mg base 0 Y.x2.fn Y.x2.bi cD zaG zaO fun hr hu nd=>(aW (b6 (jS (W8 rfl) (by rfl) Y.dict_ xR (aC (fA (mN ["thing"] [none] (kN (v 0)) (fun B=>(gN (i:=0))) (fun B=>mM) (fun B=>(cM (aC (v 0) (aC kJ aH)))))) aH))))
def zeQ:=cF P w mg base 0 Y.x3.fn Y.x3.bi cD zbN zbP fun hr hu nd=>(aW (b6 (zbd (by rfl) Y.list_ (by rfl) Y.range_ (bU dZ (cN dX (by rfl) Y.len_ d3 (aC (v 0) aH)) aP))))
def zeR:=cF P w mg base 0 Y.x4.fn Y.x4.bi cD zbO zbS fun hr hu nd=>(aW (b6 (jS (zba rfl (XM hr)) (by rfl) Y.dict_ xR (aC (fA (mN ["place","word"] [none,none] (WT (by rfl) Y.enumerate_ (aC (v 0) aH)) (fun B=>(jF rfl (dH (gN (i:=0)) (dH (gN (i:=1)) jE)))) (fun B=>mM) (fun B=>(cM (aC (cM (aC (v 1) (aC (v 0) aH))) (aC (gT (aC (cM (aC (bU dZ (v 0) aP) (aC aP aH))) aH)) aH)))))) aH))))
def zeS:=cF P w mg base 0 Y.x5.fn Y.x5.bi cD zcl zcx fun hr hu nd=>(aW (b6 (mN ["k","part","own","cut"] [none,none,some 0,some 2] (KD (by rfl) Y.enumerate_ (aC (v 1) aH)) (fun B=>(jF rfl (dH (gN (i:=0)) (dH (gN (i:=1)) jE)))) (fun B=>(xI (cA (mH hu) (v 1) (v 2)))) (fun B=>(cM (aC (v 1) (aC (aV hu (v 3) (v 0)) (aC (aV hu (v 3) (bU dZ (v 0) aP)) aH))))))))
def zeT:=cF P w mg base 0 Y.x6.fn Y.x6.bi cD Y6 ZD fun hr hu nd=>(aR (kO Y.cls_Queue Y.na_costs (v 0) (hJ aH))
   (aW (kO Y.cls_Queue Y.na_waiting (v 0) nL)))
def zeU:=cF P w mg base 0 Y.x7.fn Y.x7.bi cD Y7 ZC fun hr hu nd=>(aW (b6 (mZ (jC hr.units) (cN dX (by rfl) Y.len_ d3 (aC (dW Y.cls_Queue Y.na_costs (v 0)) aH)) aP)))
def zeV:=cF P w mg base 0 Y.x8.fn Y.x8.bi cD Y8 ZE fun hr hu nd=>(aR (bB (i:=2) nd aP)
   (aR (bB (i:=3) nd (cN dX (by rfl) Y.len_ d3 (aC (dW Y.cls_Queue Y.na_costs (v 0)) aH)))
   (aR (tR Br (cA oY (v 2) (v 3))
    (aR (bB (i:=4) nd (bU FX (bU dZ (v 2) (v 3)) aP))
   (aW (cY (cA (XR hu) (aV hu (dW Y.cls_Queue Y.na_costs (v 0)) (v 4)) (v 1))
    (aW (bB (i:=2) nd (bU dZ (v 4) aP)))
    (aW (bB (i:=3) nd (v 4)))))))
   (aW (b6 (v 2))))))
def zeW:=cF P w mg base 1 Y.x9.fn Y.x9.bi cD Y9 ZF fun hr hu nd=>(aR (cY (cA (nJ hu) (v 1) (dW Y.cls_Queue Y.na_waiting (v 0)))
    (aR (jT (hJ aH) (w_sub hu (dW Y.cls_Queue Y.na_waiting (v 0)) (v 1)))
   (aW (eU (eT Cg F.slot_list_insert F.type_list_insert XS (dW Y.cls_Queue Y.na_costs (v 0)) (aC (mR Y.cls_Queue Y.x8.me (zeV Y) (hr.mono (by decide)) Y.x8.bi (v 0) (aC (v 1) aH)) (aC (v 1) aH))))))
    dY)
   (aW (eU (eT Cg Cu De jD (aV hu (dW Y.cls_Queue Y.na_waiting (v 0)) (v 1)) (aC (v 2) aH)))))
def zeX:=cF P w mg base 0 Y.x10.fn Y.x10.bi cD ZA ZG fun hr hu nd=>(aR (bB (i:=1) nd (aV hu (dW Y.cls_Queue Y.na_costs (v 0)) (mC mF aP)))
   (aR (bB (i:=2) nd (aV hu (dW Y.cls_Queue Y.na_waiting (v 0)) (v 1)))
   (aR (bB (i:=3) nd (qN Cg Iw Ka qS (v 2)))
   (aR (cY (cA (jC hr.units) (cN dX (by rfl) Y.len_ d3 (aC (v 2) aH)) aP)
    (aR (eU (qN Cg Iw Ka qS (dW Y.cls_Queue Y.na_costs (v 0))))
   (aW (eU (eT Ep F.slot_dict_pop F.type_dict_pop (XH hu) (dW Y.cls_Queue Y.na_waiting (v 0)) (aC (v 1) aH)))))
    dY)
   (aW (b6 (cM (aC (v 1) (aC (v 3) aH)))))))))
def L8:=cF P w mg base 0 Y.x11.fn Y.x11.bi cD zaH zaP fun hr hu nd=>(aW (b6 (cM (aC (bU dZ (aV hu (v 0) aP) (aV hu (v 1) aP)) (aC (bU dZ (aV hu (v 0) aP) (aV hu (v 1) aP)) aH)))))
def zeY:=cF P w mg base 2 Y.x12.fn Y.x12.bi cD zaM zaX fun hr hu nd=>(aR (kO Y.cls_Search Y.na_grammar (v 0) (v 1))
   (aR (kO Y.cls_Search Y.na_own (v 0) (bW (A1 Y) Y.x2 hr (aC (fA (bW (A0 Y) Y.x0 hr (aC (v 1) aH))) aH)))
   (aR (kO Y.cls_Search Y.na_steps (v 0) (v 2))
   (aR (kO Y.cls_Search Y.na_queue (v 0) (XB Y.x6.mak (zeT Y) (hr.mono (by decide)) (by rfl) Y.at__Queue Y.x6.bi))
   (aR (kO Y.cls_Search Y.na_reached (v 0) nL)
   (aR (kO Y.cls_Search Y.na_best (v 0) nL)
   (aR (kO Y.cls_Search Y.na_ends (v 0) nL)
   (aW (kO Y.cls_Search Y.na_begun (v 0) nL)))))))))
def vQ:=cF P w mg base 2 Y.x13.fn Y.x13.bi cD zaI zaR fun hr hu nd=>(aR (bB (i:=4) nd (cM (aC (v 1) (aC (cN dX (by rfl) Y.len_ d3 (aC (v 2) aH)) (aC (aV hu (v 2) aP) (aC (aV hu (v 2) (mC mF aP)) aH))))))
   (aW (cY (PW.pt (jA (cA (nJ hu) (v 4) (dW Y.cls_Search Y.na_reached (v 0))) (kK (cA (HS hu) (v 3) (aV hu (dW Y.cls_Search Y.na_reached (v 0)) (v 4))))))
    (aR (jT (v 3) (w_sub hu (dW Y.cls_Search Y.na_reached (v 0)) (v 4)))
   (aW (eU (mR Y.cls_Queue Y.x9.me (zeW Y) (hr.mono (by decide)) Y.x9.bi (dW Y.cls_Search Y.na_queue (v 0)) (aC (v 3) (aC (cM (aC (v 1) (aC (v 2) aH))) aH))))))
    dY)))
def zeZ:=cF P w mg base 3 Y.x14.fn Y.x14.bi cD zaK zaU fun hr hu nd=>(aR (bB (i:=4) nd (cM (aC (aV hu (aV hu (dW Y.cls_Search Y.na_grammar (v 0)) (v 1)) aP) (aC (aV hu (v 2) aP) aH))))
   (aR (bB (i:=5) nd (bU dZ (v 4) (cM (aC (aV hu (v 2) (mC mF aP)) aH))))
   (aR (cY (cA (mH hu) (v 5) (dW Y.cls_Search Y.na_best (v 0)))
    (aW GL)
    dY)
   (aR (jT (cM (aC (v 3) (aC (v 1) (aC (v 2) aH)))) (w_sub hu (dW Y.cls_Search Y.na_best (v 0)) (v 5)))
   (aR (eU (eT Cg Cu De jD (eT Ep Lw Lv (xZ hu) (dW Y.cls_Search Y.na_ends (v 0)) (aC (v 4) (aC (hJ aH) aH))) (aC (cM (aC (aV hu (v 2) (mC mF aP)) (aC (v 3) aH))) aH)))
   (aW (e7 Br rfl (nN (eT Ep Iy Iv (pH hu) (dW Y.cls_Search Y.na_begun (v 0)) (aC (v 4) (aC (gT aH) aH)))) (jF rfl (dH (cV (i:=6) nd) (dH (cV (i:=7) nd) (dH (cV (i:=8) nd) jE))))
    (aW (eU (mR Y.cls_Search Y.x13.me (vQ Y) (hr.mono (by decide)) Y.x13.bi (v 0) (aC (v 6) (aC (bU dZ (v 7) (cM (aC (aV hu (v 2) (mC mF aP)) aH))) (aC (bW (L8 Y) Y.x11 hr (aC (v 8) (aC (v 3) aH))) aH)))))))))))))
def ze0:=cF P w mg base 3 Y.x15.fn Y.x15.bi cD zaJ zaS fun hr hu nd=>(aR (eU (eT Cg Cu De jD (eT Ep Lw Lv (xZ hu) (dW Y.cls_Search Y.na_begun (v 0)) (aC (v 4) (aC (hJ aH) aH))) (aC (cM (aC (v 1) (aC (v 2) (aC (v 3) aH)))) aH)))
   (aW (e7 Br rfl (nN (eT Ep Iy Iv (pH hu) (dW Y.cls_Search Y.na_ends (v 0)) (aC (v 4) (aC (gT aH) aH)))) (jF rfl (dH (cV (i:=5) nd) (dH (cV (i:=6) nd) jE)))
    (aW (eU (mR Y.cls_Search Y.x13.me (vQ Y) (hr.mono (by decide)) Y.x13.bi (v 0) (aC (v 1) (aC (bU dZ (v 2) (cM (aC (v 5) aH))) (aC (bW (L8 Y) Y.x11 hr (aC (v 3) (aC (v 6) aH))) aH)))))))))
def ze1:=cF P w mg base 4 Y.x16.fn Y.x16.bi cD zaL zaV fun hr hu nd=>(aR (bB (i:=1) nd (xY Y.cls_Queue Y.x10.me (zeX Y) (hr.mono (by decide)) Y.x10.bi (dW Y.cls_Search Y.na_queue (v 0))))
   (aR (bB (i:=2) nd (aV hu (v 1) aP))
   (aR (bB (i:=3) nd (aV hu (aV hu (v 1) aP) aP))
   (aR (bB (i:=4) nd (aV hu (aV hu (v 1) aP) aP))
   (aR (cY (cA (HS hu) (aV hu (dW Y.cls_Search Y.na_reached (v 0)) (cM (aC (v 3) (aC (cN dX (by rfl) Y.len_ d3 (aC (v 4) aH)) (aC (aV hu (v 4) aP) (aC (aV hu (v 4) (mC mF aP)) aH)))))) (v 2))
    (aW GL)
    dY)
   (aR (bB (i:=5) nd (aV hu (aV hu (dW Y.cls_Search Y.na_grammar (v 0)) (v 3)) aP))
   (aW (cY (cA tK (cN dX (by rfl) Y.len_ d3 (aC (v 4) aH)) (cN dX (by rfl) Y.len_ d3 (aC (v 5) aH)))
    (aW (eU (mR Y.cls_Search Y.x14.me (zeZ Y) (hr.mono (by decide)) Y.x14.bi (v 0) (aC (v 3) (aC (v 4) (aC (v 2) aH))))))
    (aW (cY (cA (mH hu) (aV hu (v 5) (bU wX (cN dX (by rfl) Y.len_ d3 (aC (v 4) aH)) aP)) (dW Y.cls_Search Y.na_own (v 0)))
    (aW (eU (mR Y.cls_Search Y.x15.me (ze0 Y) (hr.mono (by decide)) Y.x15.bi (v 0) (aC (v 3) (aC (v 4) (aC (v 2) (aC (cM (aC (aV hu (v 5) (bU wX (cN dX (by rfl) Y.len_ d3 (aC (v 4) aH)) aP)) (aC (aV hu (v 4) (mC mF aP)) aH))) aH)))))))
    (aW (e7 Br rfl (nN (eT Ep Iy Iv (pH hu) (dW Y.cls_Search Y.na_steps (v 0)) (aC (cM (aC (aV hu (v 5) (bU wX (cN dX (by rfl) Y.len_ d3 (aC (v 4) aH)) aP)) (aC (aV hu (v 4) (mC mF aP)) aH))) (aC (gT aH) aH)))) (jF rfl (dH (cV (i:=6) nd) (dH (cV (i:=7) nd) jE)))
    (aW (eU (mR Y.cls_Search Y.x13.me (vQ Y) (hr.mono (by decide)) Y.x13.bi (v 0) (aC (v 3) (aC (bU dZ (v 4) (cM (aC (v 6) aH))) (aC (cM (aC (bU dZ (aV hu (v 2) aP) (v 7)) (aC (aV hu (v 2) aP) aH))) aH))))))))))))))))))
def ze2:=cF P w mg base 5 Y.x17.fn Y.x17.bi cD zaN za3 fun hr hu nd=>(aR (bB (i:=4) nd (XA Y.x12.mak (zeY Y) (hr.mono (by decide)) (by rfl) Y.at__Search Y.x12.bi (aC (v 0) (aC (v 2) aH))))
   (aR (e7 Br rfl (nO (by rfl) Y.range_ (aC (cN dX (by rfl) Y.len_ d3 (aC (v 0) aH)) aH)) (cV (i:=5) nd)
    (aW (e7 Br rfl (kN (v 1)) (cV (i:=6) nd)
    (aW (eU (mR Y.cls_Search Y.x13.me (vQ Y) (hr.mono (by decide)) Y.x13.bi (v 4) (aC (v 5) (aC (cM (aC (v 6) aH)) (aC (cM (aC (aV hu (v 3) (v 5)) (aC aP aH))) aH)))))))))
   (aR (tR Br (nG (jR (xY Y.cls_Queue Y.x7.me (zeU Y) (hr.mono (by decide)) Y.x7.bi (dW Y.cls_Search Y.na_queue (v 4)))))
    (aW (eU (xY Y.cls_Search Y.x16.me (ze1 Y) (hr.mono (by decide)) Y.x16.bi (v 4)))))
   (aW (b6 (dW Y.cls_Search Y.na_best (v 4)))))))
def ze3:=cF P w mg base 1 Y.x18.fn Y.x18.bi cD zcm zcA fun hr hu nd=>(aR (bB (i:=3) nd (bW (A1 Y) Y.x2 hr (aC (fA (bW (A0 Y) Y.x0 hr (aC (v 0) aH))) aH)))
   (aR (bB (i:=4) nd (zbB hu (v 2) kJ))
   (aR (bB (i:=5) nd (hJ (aC (v 2) aH)))
   (aR (tR Br (jR (v 5))
    (aR (bB (i:=6) nd (aV hu (v 1) (qN Cg Iw Ka qS (v 5))))
   (aW (e7 Br rfl (kN (fA (bW (zeS Y) Y.x5 hr (aC (v 3) (aC (aV hu (aV hu (v 0) (aV hu (v 6) aP)) aP) (aC (aV hu (v 6) aP) aH)))))) (cV (i:=7) nd)
    (aW (cY (cA (nJ hu) (v 7) (v 4))
    (aR (jT kJ (w_sub hu (v 4) (v 7)))
   (aW (eU (eT Cg Cu De jD (v 5) (aC (v 7) aH)))))
    dY))))))
   (aW (b6 (mN ["fact","found"] [none,some 4] (uU (v 1)) (fun B=>(gN (i:=0))) (fun B=>(xI (cA (mH hu) (v 0) (v 1)))) (fun B=>(v 0)))))))))
def ze4:=cF P w mg base 0 Y.x19.fn Y.x19.bi cD zco zct fun hr hu nd=>(aW (b6 (cM (aC (v 0) (aC (jS xE (by rfl) Y.tuple_ pE (aC (v 1) aH)) aH)))))
def ze5:=cF P w mg base 0 Y.x20.fn Y.x20.bi cD zcn zcs fun hr hu nd=>(aW (b6 (v 0)))
def ze6:=cF P w mg base 2 Y.x21.fn Y.x21.bi cD zcp zcF fun hr hu nd=>(aR (bB (i:=5) nd (bW (A1 Y) Y.x2 hr (aC (fA (bW (A0 Y) Y.x0 hr (aC (v 0) aH))) aH)))
   (aR (bB (i:=6) nd nL)
   (aR (e7 Br rfl (kN (fA (bW (ze3 Y) Y.x18 hr (aC (v 0) (aC (v 1) (aC (v 2) aH)))))) (cV (i:=7) nd)
    (aR (bB (i:=8) nd (aV hu (aV hu (v 1) (v 7)) aP))
   (aR (bB (i:=9) nd (aV hu (aV hu (v 1) (v 7)) aP))
   (aR (bB (i:=10) nd (hJ aH))
   (aR (e7 Br rfl (KD (by rfl) Y.enumerate_ (aC (aV hu (aV hu (v 0) (v 8)) aP) aH)) (jF rfl (dH (cV (i:=11) nd) (dH (cV (i:=12) nd) jE)))
    (aW (cY (cA (mH hu) (v 12) (v 5))
    (aW (eU (eT Cg Cu De jD (v 10) (aC (aV hu (v 6) (cM (aC (v 12) (aC (aV hu (v 9) (v 11)) (aC (aV hu (v 9) (bU dZ (v 11) aP)) aH))))) aH))))
    (aW (eU (eT Cg Cu De jD (v 10) (aC (J9 (i:=3) Y.f_same_word (ze5 Y) hr Y.x20.fn.kp Y.x20.bi (aC (v 12) (aC (aV hu (v 9) (v 11)) (aC (aV hu (v 9) (bU dZ (v 11) aP)) aH)))) aH)))))))
   (aW (jT (J9 (i:=4) Y.f_knot_of (ze4 Y) hr Y.x19.fn.kp Y.x19.bi (aC (v 8) (aC (v 10) aH))) (w_sub hu (v 6) (v 7)))))))))
   (aW (b6 (aV hu (v 6) (v 2)))))))
def ze7:=cF P w mg base 3 Y.x22.fn Y.x22.bi cD zcq zcu fun hr hu nd=>(aW (b6 (bW (ze6 Y) Y.x21 hr (aC (v 0) (aC (v 1) (aC (v 2) (aC (KA Y.f_same_word Y.x20) (aC (KA Y.f_knot_of Y.x19) aH))))))))
def ze8:=cF P w mg base 6 Y.x23.fn Y.x23.bi cD zdZ zef fun hr hu nd=>(aW (b6 (bW (ze2 Y) Y.x17 hr (aC (v 0) (aC (fA (bW (zeQ Y) Y.x3 hr (aC (v 1) aH))) (aC (fA (bW (zeR Y) Y.x4 hr (aC (v 1) aH))) (aC (v 2) aH)))))))
def ze9:=cF P w mg base 1 Y.x24.fn Y.x24.bi cD zck zcr fun hr hu nd=>(aW (b6 (cM (aC (bW (zeP Y) Y.x1 hr (aC (v 0) aH)) (aC aP (aC (cN dX (by rfl) Y.len_ d3 (aC (v 1) aH)) aH))))))
def zfa:=cF P w mg base 0 Y.x25.fn Y.x25.bi cD zdY zee fun hr hu nd=>(aW (b6 (mN ["rule"] [none] (kN (v 0)) (fun B=>(gN (i:=0))) (fun B=>mM) (fun B=>(aV hu (v 0) aP)))))
def zfb:=cF P w mg base 7 Y.x26.fn Y.x26.bi cD zd0 zeh fun hr hu nd=>(aR (bB (i:=2) nd (y8 (bW (ze8 Y) Y.x23 hr (aC (v 0) (aC (v 1) (aC (fA (bW (zfa Y) Y.x25 hr (aC (v 0) aH))) aH))))))
   (aR (bB (i:=3) nd (bW (ze9 Y) Y.x24 hr (aC (v 0) (aC (v 1) aH))))
   (aR (cY (cA (nJ hu) (v 3) (v 2))
    (aW (b6 i8))
    dY)
   (aW (b6 (cM (aC (aV hu (aV hu (aV hu (v 2) (v 3)) aP) aP) (aC (bW (ze7 Y) Y.x22 hr (aC (v 0) (aC (v 2) (aC (v 3) aH)))) aH))))))))
def zfc:=cF P w mg base 0 Y.x27.fn Y.x27.bi cD zd1 zei fun hr hu nd=>(aR (cY (cA oY (v 1) (cN dX (by rfl) Y.len_ d3 (aC (v 0) aH)))
    (aW (b6 (aV hu (v 0) (v 1))))
    dY)
   (aW (b6 aP)))
def zfd:=cF P w mg base 0 Y.x28.fn Y.x28.bi cD zd2 zej fun hr hu nd=>(aR (bB (i:=2) nd (bU oX (bU pD (bU dZ (bU dZ (bU oX (v 0) (bU FY aP aP)) (bU pD aP (v 1))) aP) aP) aP))
   (aR (bB (i:=2) nd (bU oX (bU pD (v 2) (v 2)) aP))
   (aW (b6 (bU oX (bU pD (v 2) aP) aP)))))
def zfe:=cF P w mg base 1 Y.x29.fn Y.x29.bi cD zd3 zem fun hr hu nd=>(aR (bB (i:=1) nd (hJ aH))
   (aR (e7 Br rfl (zbI (by rfl) Y.reversed_ (aC (qW (v 0) (nI aP) (nI aP)) aH)) (cV (i:=2) nd)
    (aR (bB (i:=3) nd (cN WS (by rfl) Y.abs_ WJ (aC (v 2) aH)))
   (aR (cY (cA (jC hr.units) (bU oX (bW (zfc Y) Y.x27 hr (aC (v 0) (aC aP aH))) aP) aP)
    (aR (bB (i:=3) nd aP)
   (aW (e7 Br rfl (nO (by rfl) Y.range_ (aC aP aH)) (cV (i:=4) nd)
    (aW (bB (i:=3) nd (bU dZ (bU pD (v 3) aP) (bW (zfd Y) Y.x28 hr (aC (v 2) (aC (v 4) aH)))))))))
    dY)
   (aW (eU (eT Cg Cu De jD (v 1) (aC (v 3) aH)))))))
   (aW (b6 (hJ (aC (v 1) (aC aP aH)))))))
def gB:=cF P w mg base 0 Y.x30.fn Y.x30.bi cD zd4 zel fun hr hu nd=>(aR (cY (PW.pt (FQ (cA (jC hr.units) (aV hu (v 0) aP) aP) (FP (cA tK (cN dX (by rfl) Y.len_ d3 (aC (aV hu (v 0) aP) aH)) aP))))
    (aW (jT (qN Cg Iw Ka qS (aV hu (v 0) aP)) (w_sub hu (v 0) aP)))
    dY)
   (aR (bB (i:=2) nd (bU oX (aV hu (v 0) aP) (v 1)))
   (aR (jT (bU FX (aV hu (v 0) aP) (v 1)) (w_sub hu (v 0) aP))
   (aW (b6 (v 2))))))
def A2:=cF P w mg base 0 Y.x31.fn Y.x31.bi cD zd5 zek fun hr hu nd=>(aW (b6 (hJ (aC iU (aC iU (aC iU (aC iU aH)))))))
def L9:=cF P w mg base 1 Y.x32.fn Y.x32.bi cD zd6 zen fun hr hu nd=>(aR (bB (i:=3) nd (hJ aH))
   (aR (e7 Br rfl (nO (by rfl) Y.range_ (aC (bW (gB Y) Y.x30 hr (aC (v 0) (aC aP aH))) aH)) (cV (i:=4) nd)
    (aR (bB (i:=5) nd (bW (gB Y) Y.x30 hr (aC (v 0) (aC aP aH))))
   (aW (eU (eT Cg Cu De jD (v 3) (aC (aV hu (gT (aC (aV hu (fA (wR (A2 Y) (hr.mono (by decide)) (by rfl) Y.x31.at_ Y.x31.fn.kp Y.x31.bi)) (bW (gB Y) Y.x30 hr (aC (v 0) (aC aP aH)))) (aC (aV hu (v 1) (bW (gB Y) Y.x30 hr (aC (v 0) (aC (cN dX (by rfl) Y.len_ d3 (aC (v 1) aH)) aH)))) aH))) (v 5)) aH))))))
   (aR (bB (i:=6) nd (bW (gB Y) Y.x30 hr (aC (v 0) (aC aP aH))))
   (aR (cY (cA (jC hr.units) (bW (gB Y) Y.x30 hr (aC (v 0) (aC aP aH))) aP)
    (aW (bB (i:=6) nd (bW (gB Y) Y.x30 hr (aC (v 0) (aC (bU FY aP aP) aH)))))
    dY)
   (aW (b6 (cM (aC (v 2) (aC (jS xE (by rfl) Y.tuple_ pE (aC (v 3) aH)) (aC (v 6) aH))))))))))
def zff:=cF P w mg base 2 Y.x33.fn Y.x33.bi cD zd7 zep fun hr hu nd=>(aR (bB (i:=1) nd (aV hu (gT (aC (gT (aC iU (aC iU (aC iU (aC iU aH))))) (aC (gT (aC iU (aC iU (aC iU (aC iU aH))))) aH))) (bW (gB Y) Y.x30 hr (aC (v 0) (aC aP aH)))))
   (aR (bB (i:=1) nd (qW (v 1) xA (nI (bU dZ aP (bW (gB Y) Y.x30 hr (aC (v 0) (aC aP aH)))))))
   (aR (bB (i:=2) nd (hJ (aC (bW (L9 Y) Y.x32 hr (aC (v 0) (aC (v 1) (aC (aV hu (v 1) aP) aH)))) aH)))
   (aR (e7 Br rfl (nO (by rfl) Y.range_ (aC (bW (gB Y) Y.x30 hr (aC (v 0) (aC aP aH))) aH)) (cV (i:=3) nd)
    (aW (eU (eT Cg Cu De jD (v 2) (aC (bW (L9 Y) Y.x32 hr (aC (v 0) (aC (v 1) (aC (aV hu (v 1) (bW (gB Y) Y.x30 hr (aC (v 0) (aC (cN dX (by rfl) Y.len_ d3 (aC (v 1) aH)) aH)))) aH)))) aH)))))
   (aR (bB (i:=4) nd (fA (mN ["name","parts","cost"] [none,none,none] (nN (v 2)) (fun B=>(jF rfl (dH (gN (i:=0)) (dH (gN (i:=1)) (dH (gN (i:=2)) jE))))) (fun B=>mM) (fun B=>(v 0)))))
   (aR (bB (i:=5) nd (hJ aH))
   (aR (e7 Br rfl (nN (v 2)) (jF rfl (dH (cV (i:=6) nd) (dH (cV (i:=7) nd) (dH (cV (i:=8) nd) jE))))
    (aR (zL (i:=9) nd ["part","heads","known"] [none,some 1,some 4] (kN (v 7)) (fun B=>(gN (i:=0))) (fun B=>mM) (fun B=>(aV hu (gT (aC (v 0) (aC iU aH))) (jS KJ (by rfl) Y.int_ tV (aC (v_and (mZ (mH hu) (v 0) (v 1)) (wO (mZ (nJ hu) (v 0) (v 2)))) aH)))))
   (aW (eU (eT Cg Cu De jD (v 5) (aC (cM (aC (v 6) (aC (jS xE (by rfl) Y.tuple_ pE (aC (v 9) aH)) (aC (v 8) aH)))) aH))))))
   (aW (b6 (v 5))))))))))
def zfg:=cF P w mg base 1 Y.x34.fn Y.x34.bi cD zd8 zer fun hr hu nd=>(aR (bB (i:=2) nd (hJ (aC (aV hu (aV hu (v 1) aP) aP) aH)))
   (aR (bB (i:=3) nd (hJ aH))
   (aR (e7 Br rfl (nO (by rfl) Y.range_ (aC aP aH)) (cV (i:=4) nd)
    (aR (cY (PW.pt (jA (cA (jC hr.units) (v 2) (gT aH)) (kK (cA tK (cN dX (by rfl) Y.len_ d3 (aC (v 3) aH)) aP))))
    (aW VR)
    dY)
   (aR (bB (i:=5) nd (qN Cg Iw Ka qS (v 2)))
   (aR (zL (i:=6) nd ["name","parts","cost","part"] [none,none,none,some 5] (nN (v 1)) (fun B=>(jF rfl (dH (gN (i:=0)) (dH (gN (i:=1)) (dH (gN (i:=2)) jE))))) (fun B=>(xI (cA (jC hr.units) (v 0) (v 3)))) (fun B=>(v 1)))
   (aW (cY (cA (jC hr.units) (v 6) (gT aH))
    (aW (eU (eT Cg Cu De jD (v 3) (aC (v 5) aH))))
    (aW (bB (i:=2) nd (bU wV (v 2) (WY (by rfl) Y.list_ (by rfl) Y.reversed_ (aV hu (v 6) (bW (gB Y) Y.x30 hr (aC (v 0) (aC (cN dX (by rfl) Y.len_ d3 (aC (v 6) aH)) aH))))))))))))))
   (aR (cY (cA (mG hr.units) (v 2) (gT aH))
    (aW (b6 i8))
    dY)
   (aW (b6 (v 3)))))))
def zfh:=cF P w mg base 2 Y.x35.fn Y.x35.bi cD zd9 zet fun hr hu nd=>(aR (bB (i:=2) nd i8)
   (aR (cY (cA tK (bW (gB Y) Y.x30 hr (aC (v 0) (aC aP aH))) aP)
    (aW (bB (i:=2) nd (fA (bW (zfg Y) Y.x34 hr (aC (v 0) (aC (v 1) aH))))))
    dY)
   (aR (cY (cA tL (v 2) i8)
    (aW (zL (i:=2) nd ["k","deck"] [none,some 0] (nO (by rfl) Y.range_ (aC (bW (gB Y) Y.x30 hr (aC (v 0) (aC aP aH))) aH)) (fun B=>(gN (i:=0))) (fun B=>mM) (fun B=>(aV hu (fA (wR (A2 Y) (hr.mono (by decide)) (by rfl) Y.x31.at_ Y.x31.fn.kp Y.x31.bi)) (bW (gB Y) Y.x30 hr (aC (v 1) (aC aP aH)))))))
    dY)
   (aR (cY (PW.pt (FQ (cA (mG hr.units) (v 2) (gT aH)) (FP (cA (jC hr.units) (bW (gB Y) Y.x30 hr (aC (v 0) (aC aP aH))) aP))))
    (aR (bB (i:=3) nd (bW (gB Y) Y.x30 hr (aC (v 0) (aC (cN dX (by rfl) Y.len_ d3 (aC (v 2) aH)) aH))))
   (aW (bB (i:=2) nd (bU dZ (bU dZ (qW (v 2) xA (nI (v 3))) (gT (aC (aV hu (fA (wR (A2 Y) (hr.mono (by decide)) (by rfl) Y.x31.at_ Y.x31.fn.kp Y.x31.bi)) (bW (gB Y) Y.x30 hr (aC (v 0) (aC aP aH)))) aH))) (qW (v 2) (nI (bU dZ (v 3) aP)) xA)))))
    dY)
   (aW (b6 (v 2)))))))
def zfi:=cF P w mg base 0 Y.x36.fn Y.x36.bi cD zea zeC fun hr hu nd=>(aR (bB (i:=5) nd (zbF (v 4) aP))
   (aR (e7 Br rfl (kN (v 3)) (cV (i:=6) nd)
    (aR (bB (i:=7) nd qT)
   (aR (J3 (i:=5) (e7 Br rfl (uU (v 5)) (cV (i:=8) nd)
    (aR (bB (i:=9) nd (y8 (jS (W7 rfl) (by rfl) Y.dict_ xR (aC (bU pD (gT (aC (cM (aC (bU dZ (v 8) aP) (aC aP aH))) aH)) (jS KJ (by rfl) Y.int_ tV (aC (v_and (mZ oY (v 8) (cN dX (by rfl) Y.len_ d3 (aC (v 1) aH))) (wO (mZ (jC hr.units) (qW (v 1) (nI (v 8)) (nI (bU dZ (v 8) aP))) (gT (aC (v 6) aH))))) aH))) aH))))
   (aR (cY (cA (mH hu) (v 6) (fA (mN ["rule"] [none] (kN (v 0)) (fun B=>(gN (i:=0))) (fun B=>mM) (fun B=>(aV hu (v 0) aP)))))
    (aW (bB (i:=9) nd (eT Ep Iy Iv (pH hu) (v 2) (aC (cM (aC (v 6) (aC (v 8) aH))) (aC (y8 qT) aH)))))
    dY)
   (aW (e7 Br rfl (uU (v 9)) (cV (i:=10) nd)
    (aR (bB (i:=11) nd (bU dZ (aV hu (v 5) (v 8)) (aV hu (v 9) (v 10))))
   (aW (cY (PW.pt (jA (cA (nJ hu) (v 10) (v 7)) (kK (cA oY (v 11) (aV hu (v 7) (v 10))))))
    (aW (jT (v 11) (w_sub hu (v 7) (v 10))))
    dY)))))))))
   (aW (bB (i:=5) nd (v 7))))))
   (aW (b6 (v 5)))))
def zfj:=cF P w mg base 1 Y.x37.fn Y.x37.bi cD zeb zeJ fun hr hu nd=>(aR (bB (i:=2) nd nL)
   (aR (bB (i:=3) nd kJ)
   (aR (tR Br (jR (v 3))
    (aR (bB (i:=3) nd kJ)
   (aW (e7 Br rfl (nN (v 0)) (jF rfl (dH (cV (i:=4) nd) (dH (cV (i:=5) nd) (dH (cV (i:=6) nd) jE))))
    (aW (e7 Br rfl (nO (by rfl) Y.range_ (aC (bU dZ (cN dX (by rfl) Y.len_ d3 (aC (v 1) aH)) aP) aH)) (cV (i:=7) nd)
    (aR (bB (i:=8) nd (zby (i:=2) (bW (zfi Y) Y.x36 hr (aC (v 0) (aC (v 1) (aC (v 2) (aC (v 5) (aC (v 7) aH))))))))
   (aR (bB (i:=9) nd (eT Ep Lw Lv (xZ hu) (v 2) (aC (cM (aC (v 4) (aC (v 7) aH))) (aC qT aH))))
   (aW (J3 (i:=8) (e7 Br rfl (uU (v 8)) (cV (i:=10) nd)
    (aW (cY (PW.pt (jA (cA (nJ hu) (v 10) (v 9)) (kK (cA oY (bU dZ (v 6) (aV hu (v 8) (v 10))) (aV hu (v 9) (v 10))))))
    (aR (jT (bU dZ (v 6) (aV hu (v 8) (v 10))) (w_sub hu (v 9) (v 10)))
   (aW (bB (i:=3) nd kJ)))
    dY)))))))))))))
   (aW (b6 (v 2))))))
theorem MA(Y:Al K mg C fa fb):∀ n,eJ P w K mg base fN (1 + n) (fa 38) (fb 38) ["grammar","tree"] (f6 K (rV n))
 | 0=>GS (k:=0) Y.x38.fn (cD (N:=LD)) (fun _ _ _ h=>h.elim) fun _ _ _ _ _ _ _ _ _ _ h=>h.elim
 | n + 1=>cF P w mg base (1 + n) Y.x38.fn Y.x38.bi cD (zec (n + 1)) zeL fun hr hu nd=>(aR (cY (PW.pt (jA (nG (jR (cN mO (by rfl) Y.isinstance_ mP (aC (v 1) (aC (mB (by rfl) Y.tuple_ pE (y:=.ty "tuple") rfl (fun _ _=>.ty _)) aH))))) (jA (cA (mG hr.units) (cN dX (by rfl) Y.len_ d3 (aC (v 1) aH)) aP) (kK (nG (jR (cN mO (by rfl) Y.isinstance_ mP (aC (aV hu (v 1) aP) (aC (mB (by rfl) Y.tuple_ pE (y:=.ty "tuple") rfl (fun _ _=>.ty _)) aH)))))))))
    (aW (b6 i8))
    dY)
   (aR (cY (PW.pt (jA (nG (jR (cN mO (by rfl) Y.isinstance_ mP (aC (aV hu (v 1) aP) (aC (mB (by rfl) Y.int_ tV (y:=.ty "int") rfl (fun _ _=>.ty _)) aH))))) (jA (jR (cN mO (by rfl) Y.isinstance_ mP (aC (aV hu (v 1) aP) (aC (mB (by rfl) Y.bool_ G7 (y:=.ty "bool") rfl (fun _ _=>.ty _)) aH)))) (kK (nG (WR U4 oY aP (aV hu (v 1) aP) (cN dX (by rfl) Y.len_ d3 (aC (v 0) aH))))))))
    (aW (b6 i8))
    dY)
   (aR (jT (aV hu (v 0) (aV hu (v 1) aP)) (jF rfl (dH (cV (i:=2) nd) (dH (cV (i:=3) nd) (dH (cV (i:=4) nd) jE)))))
   (aR (cY (cA (mG hr.units) (cN dX (by rfl) Y.len_ d3 (aC (aV hu (v 1) aP) aH)) (cN dX (by rfl) Y.len_ d3 (aC (v 3) aH)))
    (aW (b6 i8))
    dY)
   (aR (bB (i:=5) nd (hJ aH))
   (aR (e7 Br rfl (WX (by rfl) Y.zip_ (aC (v 3) (aC (aV hu (v 1) aP) aH))) (jF rfl (dH (cV (i:=6) nd) (dH (cV (i:=7) nd) jE)))
    (aW (cY (jR (cN mO (by rfl) Y.isinstance_ mP (aC (v 7) (aC (mB (by rfl) Y.str_ WI (y:=.ty "str") rfl (fun _ _=>.ty _)) aH))))
    (aR (cY (PW.pt (jA (cA (mG hr.units) (v 7) (v 6)) (kK (cA (mH hu) (v 6) (fA (mN ["rule"] [none] (kN (v 0)) (fun B=>(gN (i:=0))) (fun B=>mM) (fun B=>(aV hu (v 0) aP))))))))
    (aW (b6 i8))
    dY)
   (aW (eU (eT Cg Cu De jD (v 5) (aC (v 7) aH)))))
    (aR (bB (i:=8) nd (FU (MA Y n) (hr.mono (by omega)) (by rfl) Y.x38.at_ Y.x38.fn.kp Y.x38.bi (aC (v 0) (aC (v 7) aH))))
   (aR (cY (PW.pt (jA (cA tL (v 8) i8) (kK (cA (mG hr.units) (aV hu (v 8) aP) (v 6)))))
    (aW (b6 i8))
    dY)
   (aR (bB (i:=5) nd (bU wV (v 5) (aV hu (v 8) aP)))
   (aW (bB (i:=4) nd (bU dZ (v 4) (aV hu (v 8) aP))))))))))
   (aW (b6 (cM (aC (v 2) (aC (fA (v 5)) (aC (v 4) aH))))))))))))
def zfk:=MA (P:=P) (w:=w) (base:=base) Y 41
def zfl:=cF P w mg base 42 Y.x39.fn Y.x39.bi cD zed zeO fun hr hu nd=>(aR (bB (i:=1) nd (bW (zfe Y) Y.x29 hr (aC (v 0) aH)))
   (aR (bB (i:=2) nd (fA (bW (zff Y) Y.x33 hr (aC (v 1) aH))))
   (aR (bB (i:=3) nd (fA (bW (zfh Y) Y.x35 hr (aC (v 1) (aC (v 2) aH)))))
   (aR (bB (i:=4) nd (aV hu (aV hu (v 2) aP) aP))
   (aR (bB (i:=5) nd (eT Ep Iy Iv (pH hu) (eT Ep Iy Iv (pH hu) (bW (zfj Y) Y.x37 hr (aC (v 2) (aC (v 3) aH))) (aC (cM (aC (v 4) (aC aP aH))) (aC (fA qT) aH))) (aC (cN dX (by rfl) Y.len_ d3 (aC (v 3) aH)) aH)))
   (aR (bB (i:=6) nd (cM (aC (jS (G0 rfl) (by rfl) Y.list_ xQ (aC (v 2) aH)) (aC (jS (G0 rfl) (by rfl) Y.list_ xQ (aC (v 3) aH)) aH))))
   (aR (bB (i:=7) nd (bW (zfb Y) Y.x26 hr (aC (aV hu (v 6) aP) (aC (aV hu (v 6) aP) aH))))
   (aR (cY (cA (mG hr.units) (v 6) (cM (aC (v 2) (aC (v 3) aH))))
    (aW (b6 kJ))
    dY)
   (aR (cY (cA tL (v 5) i8)
    (aW (b6 (mZ tL (v 7) i8)))
    dY)
   (aR (cY (PW.pt (jA (nG (jR (cN mO (by rfl) Y.isinstance_ mP (aC (v 7) (aC (mB (by rfl) Y.tuple_ pE (y:=.ty "tuple") rfl (fun _ _=>.ty _)) aH))))) (kK (cA (mG hr.units) (cN dX (by rfl) Y.len_ d3 (aC (v 7) aH)) aP))))
    (aW (b6 kJ))
    dY)
   (aR (cY (PW.pt (jA (nG (jR (cN mO (by rfl) Y.isinstance_ mP (aC (aV hu (v 7) aP) (aC (mB (by rfl) Y.int_ tV (y:=.ty "int") rfl (fun _ _=>.ty _)) aH))))) (kK (jR (cN mO (by rfl) Y.isinstance_ mP (aC (aV hu (v 7) aP) (aC (mB (by rfl) Y.bool_ G7 (y:=.ty "bool") rfl (fun _ _=>.ty _)) aH)))))))
    (aW (b6 kJ))
    dY)
   (aW (b6 (v_and (mZ (jC hr.units) (aV hu (v 7) aP) (v 5)) (wO (mZ (jC hr.units) (bW (zfk Y) Y.x38 hr (aC (v 2) (aC (aV hu (v 7) aP) aH))) (cM (aC (v 4) (aC (v 3) (aC (v 5) aH))))))))))))))))))))
end
section
variable {w:Cj}{h:Heap}{mg:Str->Option Ae}
theorem mn{x:Str}(X:(hpK w.params).In h)(G:h.Ns Dz mg)(e:PySem.W.nsIn (hpK w.params) Dz x=some none:=by kernel_rfl):mg x=none:=PySem.W.mg_none_of X G e
theorem zfm(X:(hpK w.params).In h)(G:h.Ns Dz mg):Tx mg:=⟨mn X G,mn X G,mn X G,mn X G,mn X G,mn X G,mn X G,mn X G,mn X G,mn X G,mn X G,mn X G,mn X G⟩
theorem zfn(X:(hpK w.params).In h)(G:h.Ns Dz mg):Kc (hpK w.params) mg ⟨95,151,181,188,0⟩:=⟨⟨by kernel_rfl,by kernel_rfl,by kernel_rfl,by kernel_rfl⟩,Ly (v:=.ref 95) X G (by kernel_rfl),⟨by kernel_rfl,by kernel_rfl,by kernel_rfl,by kernel_rfl⟩,Ly (v:=.ref 151) X G (by kernel_rfl),(show Cd (hpK w.params) (.ref 95) "costs" = some none by kernel_rfl),(show Cd (hpK w.params) (.ref 95) "waiting" = some none by kernel_rfl),(show Cd (hpK w.params) (.ref 151) "grammar" = some none by kernel_rfl),(show Cd (hpK w.params) (.ref 151) "own" = some none by kernel_rfl),(show Cd (hpK w.params) (.ref 151) "steps" = some none by kernel_rfl),(show Cd (hpK w.params) (.ref 151) "queue" = some none by kernel_rfl),(show Cd (hpK w.params) (.ref 151) "reached" = some none by kernel_rfl),(show Cd (hpK w.params) (.ref 151) "best" = some none by kernel_rfl),(show Cd (hpK w.params) (.ref 151) "ends" = some none by kernel_rfl),(show Cd (hpK w.params) (.ref 151) "begun" = some none by kernel_rfl)⟩
def zfo(i:Nat):Addr:=([21,28,33,40,45,50,64,71,85,78,92,106,120,127,148,141,134,162,167,188,181,174,195,202,209,214,221,228,235,242,249,256,263,268,273,278,283,290,295,302]:List Addr).getD i 0
noncomputable def zfp(i:Nat):Bl:=[CA,CB,CC,CD,CF,CG,CH,CI,CK,CJ,CL,CM,CN,CO,CS,CQ,CP,CT,CU,CY,CW,CV,CZ,C0,C1,C2,C3,C4,C5,C6,C7,C8,C9,DA,DB,DC,DD,DE,DF,r6].getD i r6
theorem zfq(X:(hpK w.params).In h)(G:h.Ns Dz mg):Al (hpK w.params) mg ⟨95,151,181,188,0⟩ zfo zfp:=⟨zfm X G,zfn X G,dF X G,dF X G,dF X G,dF X G,dF X G,dF X G,dI,dM,dM,dM,dM,dF X G,dI,dM,dM,dM,dM,dF X G,dF X G,dF X G,dF X G,dF X G,dF X G,dF X G,dF X G,dF X G,dF X G,dF X G,dF X G,dF X G,dF X G,dF X G,dF X G,dF X G,dF X G,dF X G,dF X G,dF X G,dF X G,dF X G,rfl,rfl⟩
end
theorem zfr{l:PySem.W.OpenLaw}{w:Cj}{h:Heap}{mg:Str->Option Ae}{fa:Addr}(X:(hpK w.params).In h)(G:h.Ns Dz mg)(hfa:mg "law" = some (.ref fa)) :
  ∃ fd:Bl,(∀ (s:Ag) (v:Ae),BindsTo s fd ⟨[v],[]⟩ [("script",v)])/\∀ base:Heap,(hpK w.params).In base->base.Ns Dz mg->eJ l.prog w (hpK w.params) mg base fN 43 fa fd ["script"] (f6 (hpK w.params) qV):=by
 have e:=hfa.symm.trans (Ly (v:=.ref 302) X G (by kernel_rfl))
 cases e
 exact⟨r6,fun s v=>.of_eq rfl,fun base _ _=>zfl (zfq X G)⟩
theorem zfs{l:PySem.W.OpenLaw}{q:Bq}{loose:List Str}{XP:(Str->Option Ae)->Heap->Prop}{YP:Cj->Heap->Prop}{d:DefRec}{K:Params->Ac}(hn:l.most=some 63)(hdf:d.params.defaults=[])
  (hY:∀ (w:Cj) (h:Heap),YP w h->(K w.params).In h)
  (F:∀ (w:Cj) (mg:Str->Option Ae) (fa:Addr) (h:Heap),(K w.params).In h->h.Ns Dz mg->mg d.name=some (.ref fa)->
   ∃ fd:Bl,(∀ (s:Ag) (u:Ae),BindsTo s fd ⟨[u],[]⟩ [("script",u)])/\∀ base:Heap,(K w.params).In base->base.Ns Dz mg->eJ l.prog w (K w.params) mg base fN 43 fa fd ["script"] (f6 (K w.params) qV)) :
  PySem.W.WalkO q loose XP YP l.row.toRowW d [] (fun f vs=>PySem.call f vs):=
 L2.SI (n:=63) (k:=43) (x:="script") (CX:=fun _=>fN) (sp:=fun w=>f6 (K w.params) qV) hn (by decide) hdf ⟨rfl,by decide,by decide⟩ hY F (fun _ _ a ns hl ho hS=>V2 hl ho hS) fun _ _ _ _ _ z=>z
end Rg
open PySem PySem.W PyProof.Rows
set_option maxRecDepth 100000 in
set_option maxHeartbeats 0 in
theorem PySem.Challenge.cw_readgrove_k33_least_readings_holds : PySem.Challenge.rw_readgrove_k33_least_readings.Holds := by
 w_on; o_law
 refine PySem.W.holds_open (r := PySem.Challenge.rw_readgrove_k33_least_readings.row) (q := Rg.qv) (loose := []) (N := 3544)
  (Xt := fun s => xlAt Rg.qv [] s && recOk (RowW.records (OpenRow.toRowW PySem.Challenge.rw_readgrove_k33_least_readings.row)) s)
  (XP := XL Rg.qv []) (Yf := Rg.hk.obs) (Ya := Rg.hk.val) (YP := Rg.hk.says) ?hl Rg.hk.of Rg.hk.keeps
  (fun s e => xl_of s (Bool.and_eq_true_iff.mp e).1) XL.keeps (by rfl) (by rfl) (by rfl) (fun s e => recFacts_of (Bool.and_eq_true_iff.mp e).2)
  (by rfl) (by assumption) (by decide +kernel) ⟨rfl, rfl, rfl, rfl, rfl, by decide +kernel⟩ ?hw ?hc
 case hw => w_witness2
 case hc => exact Rg.zfs (l := PySem.Challenge.rw_readgrove_k33_least_readings) rfl rfl (fun w h Y => PySem.W.kIn_of Y) (fun w mg fa h KX G hmg => Rg.zfr KX G hmg)
 case hl => exact Rg.MD
