import PyProof.Rows.All
import Wide.All
import OpenK.AllK
import Wide.FinOn
import PyProof.EqAt
import PyProof.EqKinds
import PyProof.TupleCall
import KE.BitLaws
import Open.SpecLaws
import KE.OsHead
import KE.OsGo
import PySem.Challenge.RW_reportstold_s01_answers
import VblaanSpec
import PySem.SetOps
import PyProof.SetScanFacts
import PyProof.Rows.SetFrom
import KE.KDictList
import KE.KEqDict
import PyFlatLaws
import PyVblaan
import KE.OsArgs
import KE.OsEnd
set_option Elab.async false
set_option linter.all false
set_option maxRecDepth 100000
structure PySem.W.Fast:Prop where(tw8485169658366315552 tw8829580341346344064 tw3715852781596544 tw5640993793748379905 tw11147544141167355907 tw4389574375316029635 tw16220899039894738980 tw1891467760993601284 tw16672799226229843429 tw15704513441030322406 tw10652740705209507078 tw7399595926044944806 tw10220962203248782919 tw9326773705627532041 tw15397397064548912073 tw9976952349984341771 tw4024731036537446764 tw816663932190661965 tw1751852039695140207 tw3507616174499565872 tw3840835761003463378 tw2165971071869686706 tw3359696820867257139 tw10266925216068300180 tw7278071551719438324 tw15702206326547837237 tw16817682116104320661 tw1845525453293353174 tw17814488260684122200 tw17632647162757486680 tw3508945171666908312 tw12973469802880334329 tw4025962377661418715 tw12458913846820089916 tw13552936136990230780 tw1439800284024773532 tw2126479687292088541 tw7337444871065575741 tw11993109040827029917 tw10010995393780140383 tw16555045094327288082 tw11874086091238289229 tw4545622126132933128 tw7389698652629375187 tw7288878891630001377 tw9005195388328028789 tw12051306231069684923 tw12069250900870054696 tw7048951394503258217 tw9446535816676040237 tw18310460655768266328 tw4282566117249492061 tw4615000138761595320 tw3230669184935270367 tw18320353660237145616 tw3421720619620211172 tw4071192506410659841 tw4019726677319480223 tw1639923927707352339 tw10117410986680031677 tw6243038627456120787 tw14419562390724796091 tw6458930318864202110 tw15891487254799353956 tw10254061717089270027 tw16993334446765574582 tw2023432647711560495 tw10993026617588346469 tw982415598896551494 tw4189413645368256378 tw14464571694325521583 tw14036423272628537784 tw8869809333884787878 tw17774436599310387927 tw4901051049830747145 tw624717109090829573 tw991501398519430997 tw5072266056050255864 tw13582691071482991305 tw11188128635718905870 tw14185296984231930372 tw2729302168009837559 tw7296890649911382509 tw10467410631594648539 tw17196463937977352278 tw5395130507546898464 tw3008932271831595142 tw8034164172021424776 tw11492536471628101107 tw17957414727319333629 tw7133699271583016171 tw9731025152357898796 tw7086510174231470992 tw6893226902022186174 tw2107320381631098884 tw7373919859455136313 tw15642224836811548359 tw620544043929228839 tw8044026459159088992 tw3767923792777383616 tw14006095765865314697 tw12714831462488254121 tw386136107914680108 tw4231903546556748903 tw1005130558496757233 tw10615606638384314278 tw8152378813871836929 tw10687036535659313130 tw12275162276054548345 tw17732003242861357637 tw16550062065345389484 tw1675760863002172842 tw585016956498952957 tw3455646380612367882 tw6043911429093359005 tw4532317974311272552 tw16137179403713923106 tw6357028297595299918 tw18349568686773772600 tw17865207370381985197 tw17626485632907890670 tw10672488836662776126 tw14726419825484731373 tw1440023140364610671 tw8569676098755410124 tw4042271668669521347 tw7298125521244834035 tw8699720696962481396 tw8386409653898589626 tw10714581137054726159 tw6169108173887679915 tw17815241218700641711 tw473133307242644327 tw9317184798245402226 tw16149200745889973912 tw12292884661775923688 tw17474395540566722306 tw5117946427979621534 tw17923756961452990705 tw2414327698682956724 tw16341574093172139552 tw18339859918000567193 tw15295484920945510853 tw17532424896731040033 tw4973650555100014689 tw7188205014831386747 tw6169472705032837267 tw11938570013311657727 tw6070967762785138933 tw14381942572583310600 tw5802714063181291720 tw13851994314255247692 tw16869426012917654450 tw1664029000969135261 tw13290316329648434392 tw16601196052256897826 tw12974890046150880340 tw4317143343925757350 tw5833321268559614604 tw2866571001864748310 tw4115414518449927623 tw4890416521264302286 tw10646777064979930944 tw266596697107667404 tw10145908151168545127 tw17965383450716924614 tw4258627297434603314 tw4944753721674707537 tw7353501424814850306 tw1617976392251600162 tw3584389876105280125 tw977690695953451766 tw2993813356069483441 tw4555880571672336034 tw5715856310194909029 tw11256868667811945183 tw14657147520710310833 tw12908979781751826524 tw6307385818929410573 tw5731581040315269712 tw15375005622133413304 tw2821630807552199978 tw10888309561326028845 tw1754286931651253186 tw16817119589656202717 tw17338043676855141369 tw9297633658616318487 tw12730656658711342996 tw15553988251558732902 tw14954403837925881698 tw6591449176799066860 tw5108565975796052668 tw1391447961595509519 tw6184738987760711254 tw10426975862742112192 tw7920575172749616304 tw6798745089075398320 tw12977508425729853208 tw11617777531812729204 tw6921469337259289753 tw3015398895716113468 tw6429182927823506105 tw6597969818724678026 tw16013759342714183157 tw3575729638513924771 tw10203932194880931536 tw2020546723916611999 tw12396273560522995141 tw15803249940519457690 tw5008911781202252353 tw7267968833555134246 tw6370293477443607307 tw17460015829232465847 tw17553675107676131814 tw13139314633062130335 tw244261217819969036 tw13134413952279691193 tw441222209453839204 tw11101825847677450635 tw11499205259555711616 tw8797319878367404827 tw8428919417268329035 tw975104099953234197 tw8873209882810000696 tw4738324640579559952 tw7214582510203911068 tw4632257886252763150 tw999583485321619388 tw11052770821838768782 tw2271587446256123486 tw2492324455183762258 tw8681146726112088920 tw898772821627964895 tw13294804723392655712 tw5110562509033606260 tw1265101269611734601 tw4698808176146831517 tw10036384147844266422 tw17981330417093499969 tw13005641842871595209 tw5653878464304913080 tw5199535211695354984 tw14981177944973246012 tw12194430536929973032 tw7199178084907273096 tw196591649476400725 tw10142665948289321864 tw7558692920904428365 tw12204445719822298547 tw2373617289775485938 tw15940850493272204961 tw17607764137978615550 tw7630493620784038229 tw11461752443753948202 tw10403471020261199680 tw7711647686002886560 tw13121313268124119597 tw1072327721080143138 tw2187839698724806175 tw15345243714430720433 tw17677696664049538151:True)
section
open PySem PySem.W PyProof.Rows
def r2:OpenSpec:=OpenSpec.mk @PySem.Challenge.pw_reportstold_s01_answers "is_digit" [.int 48 57] .bool (λ_=>true) (λ_=>true)
theorem p0{n:Int}(h:r2.pre [WData.int n]=true):Codec.decAll r2.args [WData.int n]=some (n,())/\48<=n/\n<=57:=by
 have e:Codec.decAll r2.args [WData.int n]=Codec.both Prod.mk (if Codec.inInt 48 57 n=true then some n else none) (some ()):=rfl;cases c:Codec.inInt 48 57 n with
 |true=>unfold Codec.inInt at c;rw[Bool.and_eq_true,decide_eq_true_eq,decide_eq_true_eq]at c;refine⟨?_,c⟩;rw[e,if_pos (by unfold Codec.inInt;rw[decide_eq_true c.1,decide_eq_true c.2];rfl)];rfl
 |false=>rw[c]at e;unfold OpenSpec.pre at h;rw[e]at h;cases h
theorem p1{n:Int}(h:r2.pre [WData.int n]=true)(h1:48<=n):r2.post [WData.int n] (WData.bool (decide (n<=57)))=true:=by obtain⟨e,_,h2⟩:=p0 h;unfold OpenSpec.post;rw[e,decide_eq_true h2];exact same_self (.bool true)
theorem p2{n:Int}(h:r2.pre [WData.int n]=true)(h1:¬48<=n):r2.post [WData.int n] (WData.bool (decide (48<=n)))=true:=absurd (p0 h).2.1 h1
set_option maxRecDepth 100000 in
set_option maxHeartbeats 0 in
theorem T0:r2.Holds:=by
 open_ks with[.int 50]
 .exact p1 hpre (by assumption)
 .exact p2 hpre (by assumption)
end
set_option Elab.async false
set_option linter.all false
set_option maxRecDepth 100000
set_option maxHeartbeats 4000000
set_option compiler.extract_closed false
open Array renaming getElem?_eq_none→wV,getElem?_toList→oM,length_toList→gW,getD→uw,getElem?_eq_getElem→rN,size_range→DU
open Bool renaming and_eq_true→eC,and_false→DV,eq_iff_iff→kN,false_and→zA,false_eq_true→rO,false_ne_true→dP,false_or→wW,or_eq_true→uz,or_false→DW,true_and→wX,and_eq_true_iff→uy
open Int renaming toNat_natCast→eN,zero_add→DZ
open List renaming all_cons→qi,all_eq_true→qj,all_map→D1,any_cons→uA,append_assoc→eZ,append_nil→ee,cons_append→nJ,filterMap_cons→nK,find?_cons→mS,flatten_cons→rX,foldl→wZ,foldl_cons→gF,getD_eq_getElem?_getD→kS,getElem?_append_left→w4,getElem?_append_right→rY,getElem?_cons_succ→d4,getElem?_cons_zero→d5,getElem?_eq_getElem→dA,getElem?_eq_none→qm,getElem?_eq_some_iff→dW,getElem?_map→eP,getElem?_set_ne→zS,getElem?_set_self→zT,getElem?_take_of_lt→Lf,length→uC,length_append→aP,length_cons→aG,length_drop→iI,length_dropLast→w8,length_map→ay,length_nil→dC,length_replicate→oS,length_reverse→zV,length_set→uD,length_take→ff,lookup→qp,lookup_cons→rZ,map_cons→eD,map_nil→nL,mem_append→eA,mem_append_left→Eb,mem_append_right→qt,mem_cons→bG,mem_cons_of_mem→du,mem_cons_self→cZ,mem_filter→ki,mem_filterMap→qu,mem_map→dM,mem_of_getElem?→dD,mem_range→r8,nil_append→zY,nodup_cons→mU,of_mem_zip→Ee,range→gG,range_succ_eq_map→Eg,replicate→fc,replicate_succ→qw,reverse_cons→xb,size_toArray→fg,dropLast_eq_take→Le,drop_eq_nil_of_le→uB,drop_zero→D2,map→qr,map_append→fk,map_drop→zW,map_take→zX,mem_iff_getElem→oU,mem_singleton→iw,take_length→gk,take_of_length_le→nM,take_succ_cons→Eh,drop_drop→mR,drop_eq_getElem_cons→kQ,eq_nil_of_length_eq_zero→iX,filter_cons→kR,flatMap_cons→kg,getElem?_drop→w6,getLast?_cons_cons→Lg,length_pos_iff→qo,map_congr_left→oT,map_map→gd,mem_flatMap→lV,ne_nil_of_length_pos→Lm,take_append_drop→jQ,filter_sublist→D3,pairwise_cons→lW,pairwise_lt_range→Ef,pairwise_map→qv,foldl_append→ql,length_range→mT,mem_of_find?_eq_some→Ll,range_succ→xa,nodup_append→w9,not_mem_nil→gz,length_eraseIdx_of_lt→Lj,ext_getElem?→zP,getElem?_range→D5,cons→rV,flatMap_append→gc,getLast?_eq_getElem?→zU,find?_eq_none→zQ,flatMap_nil→zR,getLast?_eq_none_iff→Lh,getLastD_eq_getLast?→D7,length_zipIdx→D9,length_filter_le→D8,length_filterMap_le→Lk,mem_of_mem_drop→Ec,mem_of_mem_take→oV,flatMap_singleton→D4,drop_length→rW,length_eq_one_iff→kT,any_eq_true→zN,getElem?_zipIdx→D6,map_inj_right→Ea,idxOf_lt_length_of_mem→Li,perm_ext_iff_of_nodup→Ln,mk_mem_zipIdx_iff_getElem?→Ed,drop_left→zO,headD_cons→kh
open List.Perm renaming refl→rT
open Nat renaming add_comm→Ej,le_of_eq→Aa,le_of_lt→sg,le_of_succ_le→Ab,le_refl→bo,le_succ→nN,le_trans→dE,lt_irrefl→kU,lt_of_lt_of_le→gY,lt_succ_of_lt→xh,lt_succ_self→kW,lt_trans→xi,mul_comm→xj,ne_of_gt→oX,ne_of_lt→eU,succ_mul→kX,zero_le→cT,add_div_right→zZ,div_eq_of_lt→xg,min_eq_left→Ae,sub_zero→xm,succ_le_succ→si,mul_le_mul_left→xk,not_lt_zero→xl,sub_self→mV,zero_add→Em,lt_of_le_of_lt→Ac,add_zero→xf,mul_le_mul_right→kj,add_le_add→sf,mul_le_mul→El,mul_assoc→Ek,add_mul→xc
open Option renaming isSome_iff_exists→Er,isSome_map→Ag,map_eq_some_iff→mX,map_some→xo,some→df,toList→sm,mem_toList→xp
open PyFlat renaming okCall→Et
open PyProof renaming noPylong_small→Lr
open PyProof.Rows renaming IntsAre→nI,callWith_type1→xw
open PyProof.Rows.F renaming entry_set_update_loop→Lq,plain_set_update_loop→Eu
open PySem renaming Addr→ab,Around→dj,FuncData→mN,Heap→aH,Keyword→lU,NameKind→jy,Program→aE,PyData→nP,Within→ED,mem_of_lookup→jR,Shared→ao,Stmt→aT,Value→af,World→aC,call_meets→sQ,codeAny_mono→sR,compareOp→fT,pushCells_keeps→Cn,sizeLine→dc,sizeLine_eq→aQ,starEach→dY,tupleKind_room_in1→wJ,wpAny→aM,wpAny_Call_Name_kw→wL,wpAny_bind→aN,wpAny_execs_nil→DP,wpAny_mono→lL,wpAny_newObj_type→ur,wpAny_passesOwn→uu,wpAny_pure→bD,wpAny_pyIter_enum→DR,wpAny_pyIter_list→wO,wpAny_truthy_bool→qc,intKind→km,wpAny_holding→uq,wpAny_setState_of→wQ,codeAny_builtin→pB,codeAny_call_builtin→Fx,plainId_quiet→vY,wpAny_call_entry→p8,wpAny_attempt→DO,wpAny_callSpecial?_slot→wM,wpAny_ite_split→wN,wpAny_loadPart'→DQ
open PySem.F renaming args_dict_get_2→Ls,args_dict_get_3→Lu,entry_dict_get→Aj,plainAttrs_dict→Lx,slot_dict_get→uQ,type_dict_get→LF,plainAttrs_list→kZ,slot_list_append→sr,slot_list_extend→LB,slot_list_pop→LC,type_list_append→su,type_list_extend→LG,type_list_pop→LH,plain_set_new→LA,entry_list_iadd→Lv,entry_proto_collect→Lw,plain_list_iadd→Ak,plain_proto_collect→Lz,slot_set_iter→LD,plain_extend_loop→Ly
open PySem.Heap renaming SameBut→mO,get?_push_of_some→ed,get?_push_size→fj,get?_update_other→zC,lt_size→dU,size_push→iH,get?_update_self→zD
open PySem.Heap.SameBut renaming update→DY
open PySem.PyData renaming eqv→uN,canLay0→xu,canLayAll0→uL,depth→uM,depthAll→qz,eqvAll→uO,int→uP
open PySem.W renaming Frag→aw,callWith_K→Ew,cellsFrom_some→LI,codeIn→Ex,emptyDict→oZ,findIn→sv,fnOf→uR,hasDictIn→Ey,instObj→qA,keepIn→uS,lookIn→Ez,methodObj→EA,plainGet→EB,takerIn→EC
open PyVblaan renaming answers_asked→LJ,shape→xx,whole→EE
open Vblaan renaming digits→cV,isDigit→jB,isLetter→ph,isName→eQ,isWord→pj,padTo→fJ,printable→me,trimmed→kx,linesOf→gA,wrap→mh,Answer→dg,File→bB,Version→iJ,newest→i4,standing→xD,within→dQ,answerOf→fI,fileOf→dH,onDay→l9,putNat→As,later→Ar,text→au,valueText→px,rowLine→xC,tableDays→i5,tableLines→xF,Where→jk,Sent→lg,House→bz,answerAt→lh,due→l8,dueTo→ef,lastVersion→gf,told→qF,duties→lj,letterLine→sE,spaced→lr,letterBytes→EG,ops→qD,Part→jA,Template→iZ,partLine→ll,nums→eW,onS→pw,row→ei,step→dF,no→jl,onA→nR,onT→qC,printTemplate→sF,withVersion→Au,start→xE,hole→sy,isHole→Aq,wordsOf→EH,fillAll→Ap,filled→uV,holesOk→sD,isText→uW,number→xB,bodyFrom→pf,bytesOfPages→uU,laid→ng,valueTests→xH,showsFrom→mf,shows→qE,Got→fR,addPart→pd,afterWord→iy,early→qB,takeLine→fm,takeLines→xG
open VblaanNeutral renaming bytesOf→iK,long→EI,place→EJ,step→Av
local macro_rules|`(tactic|exists $es,*)=>`(tactic|refine ⟨$es,*, ?_⟩)
local macro_rules|`(tactic|show $t)=>`(tactic|refine $t)
local macro_rules|`(tactic|subst $h:ident $a:ident)=>`(tactic|(clear $h;subst $a))
local macro_rules|`(command|def $n:declId $s:optDeclSig $v:declVal)=>`(command|noncomputable def $n:declId $s:optDeclSig $v:declVal)
local macro_rules|`(command|abbrev $n:declId $s:optDeclSig $v:declVal)=>`(command|noncomputable abbrev $n:declId $s:optDeclSig $v:declVal)
theorem QA {p : Prop} (h : p := by lia) : p := h
theorem QB {p : Prop} (h : p := by decide) : p := h
theorem QC {p : Prop} (h : p := by decide +kernel) : p := h
theorem QD {p : Prop} (h : p := by simp) : p := h
theorem QE {p : Prop} (h : p := by rfl) : p := h
theorem QF {p : Prop} (h : p := by assumption) : p := h
theorem QG {c : Prop} {h : Decidable c} (x : c) {A : Sort _} {t e : A} : ite c t e = t := if_pos x
theorem QH {c : Prop} {h : Decidable c} (x : ¬c) {A : Sort _} {t e : A} : ite c t e = e := if_neg x
theorem QI {p : Prop} [Decidable p] (h : p) : decide p = true := decide_eq_true h
theorem QJ {p : Prop} [Decidable p] (h : ¬p) : decide p = false := decide_eq_false h
theorem QK {p : Prop} [Decidable p] : (decide p = true) = p := decide_eq_true_eq
namespace L2
section
variable {A B C D E F I J K L M N:Sort _}{G:Prop}
def eg{p q:Prop}(h:p/\q)(g:p->q->G):G:=g h.1 h.2
def cY{p q r:Prop}(h:p/\q/\r)(g:p->q->r->G):G:=eg h.2 (g h.1)
def j0{p q r s:Prop}(h:p/\q/\r/\s)(g:p->q->r->s->G):G:=cY h.2 (g h.1)
def i8{p q r s t:Prop}(h:p/\q/\r/\s/\t)(g:p->q->r->s->t->G):G:=j0 h.2 (g h.1)
def fK{p q r s t u:Prop}(h:p/\q/\r/\s/\t/\u)(g:p->q->r->s->t->u->G):G:=i8 h.2 (g h.1)
def e0_7{p q r s t u v:Prop}(h:p/\q/\r/\s/\t/\u/\v)(g:p->q->r->s->t->u->v->G):G:=fK h.2 (g h.1)
def e0_8{p q r s t u v w:Prop}(h:p/\q/\r/\s/\t/\u/\v/\w)(g:p->q->r->s->t->u->v->w->G):G:=e0_7 h.2 (g h.1)
def e0_9{p q r s t u v w x:Prop}(h:p/\q/\r/\s/\t/\u/\v/\w/\x)(g:p->q->r->s->t->u->v->w->x->G):G:=e0_8 h.2 (g h.1)
def e0_10{p q r s t u v w x y:Prop}(h:p/\q/\r/\s/\t/\u/\v/\w/\x/\y)(g:p->q->r->s->t->u->v->w->x->y->G):G:=e0_9 h.2 (g h.1)
def e0_11{p q r s t u v w x y z:Prop}(h:p/\q/\r/\s/\t/\u/\v/\w/\x/\y/\z)(g:p->q->r->s->t->u->v->w->x->y->z->G):G:=e0_10 h.2 (g h.1)
def e0_12{p q r s t u v w x y z o:Prop}(h:p/\q/\r/\s/\t/\u/\v/\w/\x/\y/\z/\o)(g:p->q->r->s->t->u->v->w->x->y->z->o->G):G:=e0_11 h.2 (g h.1)
def e0_13{p q r s t u v w x y z o a:Prop}(h:p/\q/\r/\s/\t/\u/\v/\w/\x/\y/\z/\o/\a)(g:p->q->r->s->t->u->v->w->x->y->z->o->a->G):G:=e0_12 h.2 (g h.1)
def e0_14{p q r s t u v w x y z o a b:Prop}(h:p/\q/\r/\s/\t/\u/\v/\w/\x/\y/\z/\o/\a/\b)(g:p->q->r->s->t->u->v->w->x->y->z->o->a->b->G):G:=e0_13 h.2 (g h.1)
def jC{p:A->Prop}(h:∃a,p a)(g:∀a,p a->G):G:=h.elim g
def ic{p:A->B->Prop}(h:∃a b,p a b)(g:∀a b,p a b->G):G:=h.elim λa h=>jC h (g a)
def jD{p:A->B->C->Prop}(h:∃a b c,p a b c)(g:∀a b c,p a b c->G):G:=h.elim λa h=>ic h (g a)
def kz{p:A->B->C->D->Prop}(h:∃a b c d,p a b c d)(g:∀a b c d,p a b c d->G):G:=h.elim λa h=>jD h (g a)
def e5_1{p:A->B->C->D->E->Prop}(h:∃a b c d e,p a b c d e)(g:∀a b c d e,p a b c d e->G):G:=h.elim λa h=>kz h (g a)
def e6_1{p:A->B->C->D->E->F->Prop}(h:∃a b c d e f,p a b c d e f)(g:∀a b c d e f,p a b c d e f->G):G:=h.elim λa h=>e5_1 h (g a)
def e7_1{p:A->B->C->D->E->F->I->Prop}(h:∃a b c d e f i,p a b c d e f i)(g:∀a b c d e f i,p a b c d e f i->G):G:=h.elim λa h=>e6_1 h (g a)
def e8_1{p:A->B->C->D->E->F->I->J->Prop}(h:∃a b c d e f i j,p a b c d e f i j)(g:∀a b c d e f i j,p a b c d e f i j->G):G:=h.elim λa h=>e7_1 h (g a)
def kB{p:A->B->C->D->E->F->I->J->K->Prop}(h:∃a b c d e f i j k,p a b c d e f i j k)(g:∀a b c d e f i j k,p a b c d e f i j k->G):G:=h.elim λa h=>e8_1 h (g a)
def e10_1{p:A->B->C->D->E->F->I->J->K->L->Prop}(h:∃a b c d e f i j k l,p a b c d e f i j k l)(g:∀a b c d e f i j k l,p a b c d e f i j k l->G):G:=h.elim λa h=>kB h (g a)
def e11_1{p:A->B->C->D->E->F->I->J->K->L->M->Prop}(h:∃a b c d e f i j k l m,p a b c d e f i j k l m)(g:∀a b c d e f i j k l m,p a b c d e f i j k l m->G):G:=h.elim λa h=>e10_1 h (g a)
def ai{p q:A->Prop}(h:∃a,p a/\q a)(g:∀a,p a->q a->G):G:=jC h λa h=>eg h (g a)
def bA{p q r:A->Prop}(h:∃a,p a/\q a/\r a)(g:∀a,p a->q a->r a->G):G:=jC h λa h=>cY h (g a)
def sV{p q r s:A->Prop}(h:∃a,p a/\q a/\r a/\s a)(g:∀a,p a->q a->r a->s a->G):G:=jC h λa h=>j0 h (g a)
def sW{p q r s t:A->Prop}(h:∃a,p a/\q a/\r a/\s a/\t a)(g:∀a,p a->q a->r a->s a->t a->G):G:=jC h λa h=>i8 h (g a)
def eB{p q:A->B->Prop}(h:∃a b,p a b/\q a b)(g:∀a b,p a b->q a b->G):G:=ic h λa b h=>eg h (g a b)
def bp{p q r:A->B->Prop}(h:∃a b,p a b/\q a b/\r a b)(g:∀a b,p a b->q a b->r a b->G):G:=ic h λa b h=>cY h (g a b)
def fO{p q r s:A->B->Prop}(h:∃a b,p a b/\q a b/\r a b/\s a b)(g:∀a b,p a b->q a b->r a b->s a b->G):G:=ic h λa b h=>j0 h (g a b)
def ja{p q r s t:A->B->Prop}(h:∃a b,p a b/\q a b/\r a b/\s a b/\t a b)(g:∀a b,p a b->q a b->r a b->s a b->t a b->G):G:=ic h λa b h=>i8 h (g a b)
def sX{p q r s t u v:A->B->Prop}(h:∃a b,p a b/\q a b/\r a b/\s a b/\t a b/\u a b/\v a b)(g:∀a b,p a b->q a b->r a b->s a b->t a b->u a b->v a b->G):G:=ic h λa b h=>e0_7 h (g a b)
def nX{p q:A->B->C->Prop}(h:∃a b c,p a b c/\q a b c)(g:∀a b c,p a b c->q a b c->G):G:=jD h λa b c h=>eg h (g a b c)
def gJ{p q r:A->B->C->Prop}(h:∃a b c,p a b c/\q a b c/\r a b c)(g:∀a b c,p a b c->q a b c->r a b c->G):G:=jD h λa b c h=>cY h (g a b c)
def iN{p q r s:A->B->C->Prop}(h:∃a b c,p a b c/\q a b c/\r a b c/\s a b c)(g:∀a b c,p a b c->q a b c->r a b c->s a b c->G):G:=jD h λa b c h=>j0 h (g a b c)
def jE{p q r s t:A->B->C->Prop}(h:∃a b c,p a b c/\q a b c/\r a b c/\s a b c/\t a b c)(g:∀a b c,p a b c->q a b c->r a b c->s a b c->t a b c->G):G:=jD h λa b c h=>i8 h (g a b c)
def nj{p q r s t u:A->B->C->Prop}(h:∃a b c,p a b c/\q a b c/\r a b c/\s a b c/\t a b c/\u a b c)(g:∀a b c,p a b c->q a b c->r a b c->s a b c->t a b c->u a b c->G):G:=jD h λa b c h=>fK h (g a b c)
def vw{p q r s t u v:A->B->C->Prop}(h:∃a b c,p a b c/\q a b c/\r a b c/\s a b c/\t a b c/\u a b c/\v a b c)(g:∀a b c,p a b c->q a b c->r a b c->s a b c->t a b c->u a b c->v a b c->G):G:=jD h λa b c h=>e0_7 h (g a b c)
def vy{p q:A->B->C->D->Prop}(h:∃a b c d,p a b c d/\q a b c d)(g:∀a b c d,p a b c d->q a b c d->G):G:=kz h λa b c d h=>eg h (g a b c d)
def kA{p q r s:A->B->C->D->Prop}(h:∃a b c d,p a b c d/\q a b c d/\r a b c d/\s a b c d)(g:∀a b c d,p a b c d->q a b c d->r a b c d->s a b c d->G):G:=kz h λa b c d h=>j0 h (g a b c d)
def jb{p q r s t:A->B->C->D->Prop}(h:∃a b c d,p a b c d/\q a b c d/\r a b c d/\s a b c d/\t a b c d)(g:∀a b c d,p a b c d->q a b c d->r a b c d->s a b c d->t a b c d->G):G:=kz h λa b c d h=>i8 h (g a b c d)
def qM{p q r s t u:A->B->C->D->Prop}(h:∃a b c d,p a b c d/\q a b c d/\r a b c d/\s a b c d/\t a b c d/\u a b c d)(g:∀a b c d,p a b c d->q a b c d->r a b c d->s a b c d->t a b c d->u a b c d->G):G:=kz h λa b c d h=>fK h (g a b c d)
def nk{p q r:A->B->C->D->E->Prop}(h:∃a b c d e,p a b c d e/\q a b c d e/\r a b c d e)(g:∀a b c d e,p a b c d e->q a b c d e->r a b c d e->G):G:=e5_1 h λa b c d e h=>cY h (g a b c d e)
def jo{p q r s t:A->B->C->D->E->Prop}(h:∃a b c d e,p a b c d e/\q a b c d e/\r a b c d e/\s a b c d e/\t a b c d e)(g:∀a b c d e,p a b c d e->q a b c d e->r a b c d e->s a b c d e->t a b c d e->G):G:=e5_1 h λa b c d e h=>i8 h (g a b c d e)
def sY{p q r s t u v w x y:A->B->C->D->E->Prop}(h:∃a b c d e,p a b c d e/\q a b c d e/\r a b c d e/\s a b c d e/\t a b c d e/\u a b c d e/\v a b c d e/\w a b c d e/\x a b c d e/\y a b c d e)(g:∀a b c d e,p a b c d e->q a b c d e->r a b c d e->s a b c d e->t a b c d e->u a b c d e->v a b c d e->w a b c d e->x a b c d e->y a b c d e->G):G:=e5_1 h λa b c d e h=>e0_10 h (g a b c d e)
def mj{p q r s t:A->B->C->D->E->F->Prop}(h:∃a b c d e f,p a b c d e f/\q a b c d e f/\r a b c d e f/\s a b c d e f/\t a b c d e f)(g:∀a b c d e f,p a b c d e f->q a b c d e f->r a b c d e f->s a b c d e f->t a b c d e f->G):G:=e6_1 h λa b c d e f h=>i8 h (g a b c d e f)
def ml{p q r s t u v w x y:A->B->C->D->E->F->I->J->Prop}(h:∃a b c d e f i j,p a b c d e f i j/\q a b c d e f i j/\r a b c d e f i j/\s a b c d e f i j/\t a b c d e f i j/\u a b c d e f i j/\v a b c d e f i j/\w a b c d e f i j/\x a b c d e f i j/\y a b c d e f i j)(g:∀a b c d e f i j,p a b c d e f i j->q a b c d e f i j->r a b c d e f i j->s a b c d e f i j->t a b c d e f i j->u a b c d e f i j->v a b c d e f i j->w a b c d e f i j->x a b c d e f i j->y a b c d e f i j->G):G:=e8_1 h λa b c d e f i j h=>e0_10 h (g a b c d e f i j)
def iM{p q:A->B->C->D->E->F->I->J->K->L->M->Prop}(h:∃a b c d e f i j k l m,p a b c d e f i j k l m/\q a b c d e f i j k l m)(g:∀a b c d e f i j k l m,p a b c d e f i j k l m->q a b c d e f i j k l m->G):G:=e11_1 h λa b c d e f i j k l m h=>eg h (g a b c d e f i j k l m)
def i9{p q r s t u v w:A->B->C->D->E->F->I->J->K->L->M->Prop}(h:∃a b c d e f i j k l m,p a b c d e f i j k l m/\q a b c d e f i j k l m/\r a b c d e f i j k l m/\s a b c d e f i j k l m/\t a b c d e f i j k l m/\u a b c d e f i j k l m/\v a b c d e f i j k l m/\w a b c d e f i j k l m)(g:∀a b c d e f i j k l m,p a b c d e f i j k l m->q a b c d e f i j k l m->r a b c d e f i j k l m->s a b c d e f i j k l m->t a b c d e f i j k l m->u a b c d e f i j k l m->v a b c d e f i j k l m->w a b c d e f i j k l m->G):G:=e11_1 h λa b c d e f i j k l m h=>e0_8 h (g a b c d e f i j k l m)
def aZ{p:A->B->Prop}(a:A)(b:B)(h:p a b):∃a b,p a b:=⟨a,b,h⟩
def aJ{p:A->B->C->Prop}(a:A)(b:B)(c:C)(h:p a b c):∃a b c,p a b c:=⟨a,b,c,h⟩
def eY{p:A->B->C->D->Prop}(a:A)(b:B)(c:C)(d:D)(h:p a b c d):∃a b c d,p a b c d:=⟨a,b,c,d,h⟩
def gD{p:A->B->C->D->E->Prop}(a:A)(b:B)(c:C)(d:D)(e:E)(h:p a b c d e):∃a b c d e,p a b c d e:=⟨a,b,c,d,e,h⟩
def wR{p:A->B->C->D->E->F->Prop}(a:A)(b:B)(c:C)(d:D)(e:E)(f:F)(h:p a b c d e f):∃a b c d e f,p a b c d e f:=⟨a,b,c,d,e,f,h⟩
def wU{p:A->B->C->D->E->F->I->Prop}(a:A)(b:B)(c:C)(d:D)(e:E)(f:F)(i:I)(h:p a b c d e f i):∃a b c d e f i,p a b c d e f i:=⟨a,b,c,d,e,f,i,h⟩
def gy{p:A->B->C->D->E->F->I->J->Prop}(a:A)(b:B)(c:C)(d:D)(e:E)(f:F)(i:I)(j:J)(h:p a b c d e f i j):∃a b c d e f i j,p a b c d e f i j:=⟨a,b,c,d,e,f,i,j,h⟩
end
end L2
namespace L2
open PySem PySem.Spec PyProof.Rows
abbrev Key:=Sum Int Str
def oj:Key->af->Bool
 |.inl k,v=>Value.isInt k v
 |.inr x,v=>Value.isStrOf x v
def Qs(w:aC):Key->Int
 |.inl k=>hashInt k
 |.inr x=>hashStr w x
def mw:∀{k:Key}{v:af},oj k v=true->(∃i t,k=Sum.inl i/\v=Value.int i t)\/(∃x t,k=Sum.inr x/\v=Value.str x t)
 |.inl i,v,h=>by obtain⟨t,e⟩:=Value.isInt_shape (k:=i) (v:=v) h;show .inl ⟨i,t,rfl,e⟩
 |.inr x,v,h=>by obtain⟨t,e⟩:=Value.isStrOf_shape (x:=x) (v:=v) h;show .inr ⟨x,t,rfl,e⟩
def Qt(i:Int)(t:Tok):oj (.inl i) (.int i t)=true:=by simp[oj,Value.isInt]
def Qu(x:Str)(t:Tok):oj (.inr x) (.str x t)=true:=by simp[oj,Value.isStrOf]
def Qx(a b:Int):decide ((Sum.inl a:Key)=Sum.inl b)=(a==b):=by
 by_cases e:a=b
 .subst e;simp
 .have h:¬ (Sum.inl a:Key)=Sum.inl b:=λq=>e (Sum.inl.inj q);rw[QJ h];show(beq_eq_false_iff_ne.mpr e).symm
def QL(a b:Str):decide ((Sum.inr a:Key)=Sum.inr b)=decide (a=b):=by
 by_cases e:a=b
 .subst e;simp
 .have h:¬ (Sum.inr a:Key)=Sum.inr b:=λq=>e (Sum.inr.inj q);rw[QJ h,QJ e]
def Qy(a:Int)(b:Str):decide ((Sum.inl a:Key)=Sum.inr b)=false:=QJ (λq=>nomatch q)
def Qz(a:Str)(b:Int):decide ((Sum.inr a:Key)=Sum.inl b)=false:=QJ (λq=>nomatch q)
def fQ(prog:aE)(w:aC):PySem.KeyKind prog w Key where
 is:=oj
 hash:=Qs w
 inj:=λv a b B z=>by
  rcases mw B with⟨i,t,rfl,rfl⟩ | ⟨x,t,rfl,rfl⟩
  .rcases mw z with⟨j,u,rfl,e⟩ | ⟨y,u,rfl,e⟩
   .injection e with n _;rw[n]
   .show nomatch e
  .rcases mw z with⟨j,u,rfl,e⟩ | ⟨y,u,rfl,e⟩
   .show nomatch e
   .injection e with n _;rw[n]
 byValue:=λk v h=>by rcases mw h with⟨i,t,rfl,rfl⟩ | ⟨x,t,rfl,rfl⟩<;>rfl
 pyHash:=λq h=>by
  rcases mw q with⟨i,t,rfl,rfl⟩ | ⟨x,t,rfl,rfl⟩
  .show wpAny_pyHash_int h
  .show wpAny_pyHash_str h
 eqBool:=λD q h=>by
  rcases mw D with⟨i,t,rfl,rfl⟩ | ⟨x,t,rfl,rfl⟩
  .rcases mw q with⟨j,u,rfl,rfl⟩ | ⟨y,u,rfl,rfl⟩
   .rw[Qx]at h;show wpAny_eqBool_int h
   .rw[Qy]at h;show SeqAt.EqAt.int_str i t y u _ _ _ _ h
  .rcases mw q with⟨j,u,rfl,rfl⟩ | ⟨y,u,rfl,rfl⟩
   .rw[Qz]at h;show SeqAt.EqAt.str_int x t j u _ _ _ _ h
   .rw[QL]at h;show wpAny_eqBool_str h
 «strs»:=λk x t v h=>by
  rcases mw h with⟨i,u,rfl,e⟩ | ⟨y,u,rfl,e⟩
  .show nomatch e
  .injection e with n _
   subst n;cases v<;>rfl
def Q7(prog:aE)(w:aC)(i:Int)(t:Tok):(fQ prog w).is (.inl i) (.int i t)=true:=Qt i t
def Q8(prog:aE)(w:aC)(x:Str)(t:Tok):(fQ prog w).is (.inr x) (.str x t)=true:=Qu x t
end L2
namespace L2
open PySem PySem.Spec PyProof.Rows
inductive V where
 |a9 | bl (b:Bool) | int (i:Int) | str (x:Str) | jV (b:Array UInt8) | x5 (b:UInt64) | ref (a:ab) | ty (n:String)
 deriving DecidableEq
def RelV:V->af->Prop
 |.a9,u=>u=Value.none
 |.bl b,u=>u=Value.bool b
 |.int i,u=>∃t,u=Value.int i t
 |.str x,u=>∃t,u=Value.str x t
 |.jV b,u=>∃t,u=Value.bytes b t
 |.x5 b,u=>∃t,u=Value.float b t
 |.ref a,u=>u=Value.ref a
 |.ty n,u=>u=Value.type n
abbrev Vals:List V->List af->Prop:=Paired RelV
def Vals.length{xs:List V}{us:List af}(r:Vals xs us):xs.length=us.length:=Paired.length r
def Vals.get:∀{xs:List V}{us:List af}{i:Nat}{x:V},Vals xs us->xs[i]? =some x->∃u,us[i]? =some u/\RelV x u
 |_,_,_,_,.nil,e=>by simp at e
 |_,_,0,_,.cons r _,e=>by simp at e;subst e;show⟨_,rfl,r⟩
 |_,_,i+1,x,.cons _ t,e=>by obtain⟨u,h1,h2⟩:=Vals.get (i:=i) (x:=x) t (by simpa using e);show⟨u,by simpa using h1,h2⟩
def Vals.append:∀{xs ys:List V}{us j:List af},Vals xs us->Vals ys j->Vals (xs++ys) (us++j)
 |_,_,_,_,.nil,s=>s
 |_,_,_,_,.cons r t,s=> .cons r (Vals.append t s)
def Vals.take:∀{xs:List V}{us:List af}(n:Nat),Vals xs us->Vals (xs.take n) (us.take n)
 |_,_,0,_=> .nil
 |_,_,_+1,.nil=> .nil
 |_,_,n+1,.cons r t=> .cons r (Vals.take n t)
def Vals.drop:∀{xs:List V}{us:List af}(n:Nat),Vals xs us->Vals (xs.drop n) (us.drop n)
 |_,_,0,r=>r
 |_,_,_+1,.nil=> .nil
 |_,_,n+1,.cons _ t=>Vals.drop n t
def ji:Option V->Option af->Prop
 |some v,some u=>RelV v u
 |none,none=>True
 |_,_=>False
def KV{κ:Type}:List (κ×V)->List (κ×af)->Prop:=Paired λ(p:κ×V) (q:κ×af)=>p.1=q.1/\RelV p.2 q.2
def kV:Key->V
 |.inl i=> .int i
 |.inr x=> .str x
inductive HO where
 |lst (xs:List V)
 |tup (xs:List V)
 |dK (kvs:List (Key×V)) | dT (kvs:List (List Key×V))
 |set (S:Int->Bool) (n:Nat)
 |ins (C dx:ab) (fs:List (Str×V))
 |own (x:ab)
 |xd (fs:List (Str×V))
 |met (f x:ab)
 |Cv (lo hi:Int)
 |fe (o:Obj) (u:HO)
 |rJ (ps:Array af)
 |ext (φ:aH->Prop)
abbrev Hp:=ab->Option HO
def upd(H:Hp)(a:ab)(o:HO):Hp:=λb=>if b=a then some o else H b
def ar{H:Hp}{a:ab}{o:HO}:upd H a o a=some o:=by unfold upd;rw[QG rfl]
def az{H:Hp}{a b:ab}{o:HO}(h:b≠a):upd H a o b=H b:=by unfold upd;rw[QH h]
def kI{H:Hp}{a b:ab}{o u:HO}(h:H a=some o)(h':H b=some u)(d:o≠u):a≠b:=by intro e;subst e;rw[h]at h';show d (df.inj h')
def eu{H:Hp}{a b:ab}{o:HO}(h:H a=some o)(h':H b=none):a≠b:=by intro e;subst e;rw[h]at h';cases h'
section
variable (P:aE) (w:aC)
def fC(H:Hp)(h:aH)(a:ab):HO->Prop
 |.lst xs=>xs.length<=dc/\∃(its:List af)(n:Nat),Vals xs its/\h.get? a=some {cls:= .type "list",data:= .seq its.toArray n}
 |.tup xs=>xs.length<=dc/\∃its:List af,Vals xs its/\IsTup h a its.toArray
 |.dK kvs=>kvs.length<=dc/\(a==sysModules)=false/\∃j,KV kvs j/\h.DictOf (fQ P w) a j
 |.dT kvs=>kvs.length<=dc/\(a==sysModules)=false/\∃xs:List (List Key×ab×af),
   Paired (λ(p:List Key×V) (q:List Key×ab×af)=>p.1=q.1/\H q.2.1=some (.tup (p.1.map kV))/\RelV p.2 q.2.2) kvs xs/\
   ∃o es ep,h.get? a=some o/\o.ExactDict/\o.data= .dict es ep/\es.toList=xs.map (entryOfKey (tupleKind (fQ P w)))/\(xs.map (·.1)).Nodup
 |.set S n=>h.SetOf (intKind P w) a S n
 |.ins C dx fs=>H dx=some (.own a)/\fs.length<=1000/\dx≠a/\h.get? a=some (qA C dx)/\
   ∃mA,h.Ns1 dx mA/\(∀f,ji (fs.lookup f) (mA f))/\ED mA (fs.map (·.1))
 |.own _=>∃o,h.get? a=some o
 |.xd fs=>∃mA,h.Ns1 a mA/\∀f,ji (fs.lookup f) (mA f)
 |.Cv lo hi=>∃t u v,h.get? a=some {cls:= .type "range",data:= .fields #[.int lo t,.int hi u,.int 1 v]}
 |.fe o u=>h.get? a=some o/\fC H h a u
 |.rJ ps=>h.get? a=some {cls:= .none,data:= .fields ps}
 |.met f x=>h.get? a=some (EA (.ref f) (.ref x))
 |.ext φ=>φ h/\(∃o,h.get? a=some o)/\∀h1 h2:aH,φ h1->(∀o,h1.get? a=some o->h2.get? a=some o)->φ h2
def fB(H:Hp)(h:aH):Prop:=∀a o,H a=some o->fC P w H h a o
end
section
variable {P:aE}{w:aC}{H H':Hp}{h h':aH}{a:ab}{o:HO}
def fC.lt(x:fC P w H h a o):a<h.objs.size:=by
 cases o with
 |lst xs=>obtain⟨_,_,_,_,e⟩:=x;show dU e
 |tup xs=>obtain⟨_,_,_,p⟩:=x;show p.lt
 |dK kvs=>obtain⟨_,_,_,_,o,_,_,e,_⟩:=x;show dU e
 |dT kvs=>obtain⟨_,_,_,_,o,_,_,e,_⟩:=x;show dU e
 |set S n=>obtain⟨o,_,_,_,e,_⟩:=x;show dU e
 |ins C dx fs=>obtain⟨_,_,_,e,_⟩:=x;show dU e
 |own y=>obtain⟨_,e⟩:=x;show dU e
 |xd fs=>obtain⟨_,⟨_,_,_,e,_⟩,_⟩:=x;show dU e
 |Cv lo hi=>obtain⟨_,_,_,e⟩:=x;show dU e
 |fe j u=>obtain⟨e,_⟩:=x;show dU e
 |rJ ps=>show dU (show h.get? a=some _ from x)
 |met f y=>show dU (show h.get? a=some _ from x)
 |ext φ=>obtain⟨_,⟨_,e⟩,_⟩:=x;show dU e
def Paired.dS{α β:Type}{F G:α->β->Prop}:∀{l₁:List α}{l₂:List β},Paired F l₁ l₂->(∀a b,F a b->G a b)->Paired G l₁ l₂
 |_,_,.nil,_=> .nil
 |_,_,.cons r t,f=> .cons (f _ _ r) (Paired.dS t f)
def fC.oE(x:fC P w H h a o)(k:∀b u,(b=a\/H b=some (.own a))->h.get? b=some u->h'.get? b=some u)
  (J:∀b,H b=some (.own a)->H' b=some (.own a)) (L:∀b xs,H b=some (.tup xs)->H' b=some (.tup xs)):fC P w H' h' a o:=by
 induction o with
 |lst xs=>obtain⟨z,its,n,r,e⟩:=x;show⟨z,its,n,r,k _ _ (.inl rfl) e⟩
 |tup xs=>obtain⟨z,its,r,B,e,c⟩:=x;show⟨z,its,r,B,k _ _ (.inl rfl) e,c⟩
 |dK kvs=>obtain⟨z,y,N,r,B,es,ep,e,c⟩:=x;show⟨z,y,N,r,B,es,ep,k _ _ (.inl rfl) e,c⟩
 |dT kvs=>show cY x λz y j=>ai j λxs r j=>nX j λB es ep e c=>?_;clear j;clear j;clear x;show⟨z,y,xs,Paired.dS r λp q z=>⟨z.1,L _ _ z.2.1,z.2.2⟩,B,es,ep,k _ _ (.inl rfl) e,c⟩
 |set S n=>obtain⟨B,es,ep,t,e,c⟩:=x;show⟨B,es,ep,t,k _ _ (.inl rfl) e,c⟩
 |ins C dx fs=>show i8 x λd z ne e D=>ai D λmA F r=>?_;clear D;clear x;obtain⟨G,es,ep,I,c⟩:=F;show⟨J _ d,z,ne,k _ _ (.inl rfl) e,mA,⟨G,es,ep,k _ _ (.inr d) I,c⟩,r⟩
 |own y=>obtain⟨B,e⟩:=x;show⟨B,k _ _ (.inl rfl) e⟩
 |xd fs=>obtain⟨mA,⟨G,es,ep,e,c⟩,r⟩:=x;show⟨mA,⟨G,es,ep,k _ _ (.inl rfl) e,c⟩,r⟩
 |Cv lo hi=>obtain⟨t,u,v,e⟩:=x;show⟨t,u,v,k _ _ (.inl rfl) e⟩
 |fe B u M=>obtain⟨e,q⟩:=x;show⟨k _ _ (.inl rfl) e,M q⟩
 |rJ ps=>have e:h.get? a=some {cls:= .none,data:= .fields ps}:=x;show h'.get? a=some {cls:= .none,data:= .fields ps};show k a _ (.inl rfl) e
 |met f y=>have e:h.get? a=some (EA (.ref f) (.ref y)):=x;show h'.get? a=some (EA (.ref f) (.ref y));show k a _ (.inl rfl) e
 |ext φ=>obtain⟨p,⟨o,e⟩,st⟩:=x;show⟨st _ _ p λo q=>k _ _ (.inl rfl) q,⟨o,k _ _ (.inl rfl) e⟩,st⟩
def fB.lt(x:fB P w H h)(e:H a=some o):a<h.objs.size:=(x a o e).lt
def fB.fresh(x:fB P w H h)(e:h.objs.size<=a):H a=none:=by
 cases q:H a with
 |none=>rfl
 |some u=>show absurd (gY (x.lt q) e) (kU _)
def fB.kept(x:fB P w H h)(k:∀b u,h.get? b=some u->h'.get? b=some u):fB P w H h':=λa o e=>
 (x a o e).oE (λb u _ q=>k b u q) (λ_ q=>q) λ_ _ q=>q
def fB.laid(x:fB P w H h)(k:∀b u,h.get? b=some u->h'.get? b=some u)(B:h.objs.size<=a)(j:fC P w (upd H a o) h' a o):fB P w (upd H a o) h':=λb u e=>by
 have z:=x.fresh B;by_cases n:b=a
 .subst n;rw[ar]at e;cases e;show j
 .rw[az n]at e;show(x b u e).oE (λc v _ q=>k c v q) (λc q=>by rw[az (eu q z)];show q) λc xs q=>by rw[az (eu q z)];show q
end
def Rd(H:Hp)(a:ab)(u:HO):Prop:=H a=some u\/∃o,H a=some (.fe o u)
def Rd.ok{P:aE}{w:aC}{H:Hp}{h:aH}{a:ab}{u:HO}(r:Rd H a u)(x:fB P w H h):fC P w H h a u:=by
 rcases r with r | ⟨o,r⟩
 .show x a u r
 .obtain⟨_,q⟩:=x a _ r;show q
def oW:Option HO->Prop
 |some (.lst _)=>True
 |some (.dK _)=>True
 |some (.dT _)=>True
 |some (.set _ _)=>True
 |some (.ins _ _ _)=>True
 |some (.ext _)=>True
 |_=>False
section
variable {P:aE}{w:aC}{H:Hp}{h h':aH}{x e:ab}{o':HO}
def fB.write(O:fB P w H h)(G:oW (H x))(L:e=x\/H e=some (.own x))(k:∀b u,b≠e->h.get? b=some u->h'.get? b=some u)(I:∃u,h'.get? e=some u)
  (J:fC P w (upd H x o') h' x o'):fB P w (upd H x o') h':=λb u q=>by
 have n:∀c y,H c=some (.own y)->c≠x:=λc y r z=>by subst z;rw[r]at G;show G
 have B:∀c xs,H c=some (.tup xs)->c≠x:=λc xs r z=>by subst z;rw[r]at G;show G
 by_cases D:b=x
 .subst D;rw[ar]at q;cases q;show J
 .rw[az D]at q;by_cases j:b=e
  .have M:H b=some (.own x):=by
    rcases L with z | z
    .show absurd (j.trans z) D
    .rw[j];show z
   rw[q]at M;cases M;obtain⟨v,N⟩:=I;show⟨v,by rw[j];show N⟩
  .show(O b u q).oE (λc v F r=>k c v ?_ r) (λc r=>by rw[az (n c b r)];show r) λc xs r=>by rw[az (B c xs r)];show r
   rcases F with rfl | F
   .show j
   .rintro rfl;rcases L with z | z
    .show n c b F z
    .rw[F]at z;cases z;show D rfl
end
structure Un(fs ex:List ab)(H H':Hp)(h h':aH):Prop where
 keep:∀b o,h.get? b=some o->H b=none->b∉fs->b∉ex->h'.get? b=some o
 slot:∀b o,h.get? b=some o->H b=none->b∈fs->b∉ex->∃sl,h'.get? b=some {o with slots:=sl}
 free:∀b o,h.get? b=some o->H b=none->b∉ex->H' b=none
 there:∀b o,h.get? b=some o->b∉ex->∃o',h'.get? b=some o'
 oG:∀b xs,H b=some (.tup xs)->H' b=some (.tup xs)
 mq:∀b o u,H b=some (.fe o u)->H' b=some (.fe o u)
 oF:∀b ps,H b=some (.rJ ps)->∃more,H' b=some (.rJ (ps++more))
section
variable {fs fs' ex ex':List ab}{H H1 H2:Hp}{h h1 h2 h':aH}{a x e:ab}{o:HO}
def Un.any(u:Un fs ex H H1 h h1){b:ab}{j:Obj}(q:h.get? b=some j)(n:H b=none)(B:b∉ex):∃D,h1.get? b=some {j with slots:=D}:=by
 by_cases z:b∈fs
 .show u.slot b j q n z B
 .show⟨j.slots,u.keep b j q n z B⟩
def Un.kept(k:∀b u,h.get? b=some u->h'.get? b=some u):Un fs ex H H h h':=
 ⟨λb j q _ _ _=>k b j q,λb j q _ _ _=>⟨j.slots,k b j q⟩,λ_ _ _ n _=>n,λb j q _=>⟨j,k b j q⟩,λ_ _ q=>q,λ_ _ _ q=>q,λ_ ps q=>⟨#[],by rw[q];simp⟩⟩
def Un.refl:Un fs ex H H h h:=Un.kept λ_ _ q=>q
def Un.laid(k:∀b u,h.get? b=some u->h'.get? b=some u)(z:h.objs.size<=a)(j:H a=none):Un fs ex H (upd H a o) h h' where
 keep:=λb u q _ _ _=>k b u q
 slot:=λb u q _ _ _=>⟨u.slots,k b u q⟩
 free:=λb u q n _=>by rw[az (eU (gY (dU q) z))];show n
 there:=λb u q _=>⟨u,k b u q⟩
 oG:=λb xs q=>by rw[az (eu q j)];show q
 mq:=λb u xs q=>by rw[az (eu q j)];show q
 oF:=λb ps q=>⟨#[],by rw[az (eu q j),q];simp⟩
def Un.write(B:oW (H x))(J:e=x\/H e=some (.own x))(k:∀b u,b≠e->h.get? b=some u->h'.get? b=some u)(D:∃u,h'.get? e=some u):Un fs ex H (upd H x o) h h':=by
 have I:∀b,H b=none->b≠x:=λb n z=>by subst z;rw[n]at B;show B
 have G:∀b,H b=none->b≠e:=λb n z=>by
  subst z;rcases J with r | r
  .show I b n r
  .rw[n]at r;cases r
 have F:∀b u,H b=some u->¬oW (some u)->b≠x:=λb u q nm z=>by subst z;rw[q]at B;show nm B
 show⟨λb u q n _ _=>k b u (G b n) q,λb u q n _ _=>⟨u.slots,k b u (G b n) q⟩,λb u q n _=>by rw[az (I b n)];show n,λb u q _=>?_,
  λb xs q=>by rw[az (F b _ q λz=>z)];show q,λb u xs q=>by rw[az (F b _ q λz=>z)];show q,λb ps q=>⟨#[],by rw[az (F b _ q λz=>z),q];simp⟩⟩
 by_cases j:b=e
 .subst j;show D
 .show⟨u,k b u j q⟩
end
def zo(h:aH)(H:Hp):List ab:=(gG h.objs.size).filter λa=>(H a).isSome
def pF(h:aH)(H:Hp):aH:=PySem.W.hideAll h (zo h H)
def P5(h:aH)(H:Hp):(pF h H).objs.size=h.objs.size:=PySem.W.hideAll_size _ _
def P4{h:aH}{H:Hp}{b:ab}{o:Obj}(e:h.get? b=some o)(n:H b=none):(pF h H).get? b=some o:=
 PySem.W.hideAll_get _ e λj=>by have q:(H b).isSome=true:=(ki.mp j).2;rw[n]at q;simp at q
def Rv{h:aH}{H:Hp}{b:ab}{o:Obj}(e:(pF h H).get? b=some o):h.get? b=some o/\H b=none:=by
 have j:h.get? b=some o:=PySem.W.of_hideAll (zo h H) e;exists j;cases q:H b with
 |none=>rfl
 |some x=>have n:b∈zo h H:=ki.mpr ⟨r8.mpr (dU j),by simp[q]⟩;have z:(pF h H).get? b=none:=PySem.W.hideAll_none (zo h H) n;rw[z]at e;cases e
end L2
namespace L2
open PySem PySem.Spec PyProof.Rows
structure Mod(K:aw)(mg:Str->Option af)(base:aH):Prop where
 vJ:K.In base
 glob:base.Ns mainGlobals mg
 blt:∃mb,base.Ns builtinsNs mb/\∀x:Str,x≠"__name__"->mb x=bootBuiltins x
 nolimit:base.NoLimit
structure Cx where
 prog:aE
 w:aC
 K:aw
 mg:Str->Option af
 base:aH
 A:dj
 N:List Str
 iT:ao
 qe:Hp
 env:Env
 outer:List Env
 stack:List Env
 ex:List ab
 fn:Str->Bool
 calm:Bool
 pn:List (ab×Obj)
 xe:af->ao->Prop
def mn(l:List Env):List ab:=l.filterMap (·.frame)
abbrev Cx.fs(X:Cx):List ab:=mn X.outer
def sG(j:Scope)(x:Str):Prop:=j.names.lookup x=some .local\/j.names.lookup x=some .cell\/j.names.lookup x=some .free
def Loc(j:Scope)(x:Str):Prop:=j.names.lookup x=some .local\/j.names.lookup x=some .cell
def Look(env:Env)(h:aH)(m:Str->Option af)(x:Str)(u:af):Prop:=
 (env.kindOf x=some .local/\m x=some u)\/((env.kindOf x=some .cell\/env.kindOf x=some .free)/\∃c,env.cells.lookup x=some c/\h.IsCell c (some u))
structure Cx.Ok(X:Cx):Prop where
 mod:Mod X.K X.mg X.base
 kind:X.env.scope.kind= .function
 glob:X.env.globals=mainGlobals
 blt:X.env.builtins=builtinsNs
 above:X.iT.heap.objs.size<=X.env.locals
 inj:∀x y c,X.env.cells.lookup x=some c->X.env.cells.lookup y=some c->x=y
 has:∀x,(X.env.kindOf x=some .cell\/X.env.kindOf x=some .free)->∃c,X.env.cells.lookup x=some c
 vf:∀x c,X.fn x=true->X.env.cells.lookup x=some c->X.iT.heap.objs.size<=c
 hd:X.calm=true->X.A.handled=none
 frames:X.A.frames=some X.stack
 zl:X.stack=X.outer\/(X.stack=X.env::X.outer/\X.env.frame=some X.env.locals)
 xZ:∀b∈X.ex,b≠X.env.locals/\∀x c,X.env.cells.lookup x=some c->c≠b
 bs:∀b o,X.base.get? b=some o->X.iT.heap.get? b=some o/\X.qe b=none
 nS:X.base.objs.size<=X.iT.heap.objs.size
 vO:∀b o,X.base.get? b=some o->b∉X.ex
 vz:∀b∈X.ex,b∉X.fs
 lD:X.iT.heap.FunFrames X.base X.outer
 qR:∀b∈X.fs,X.qe b=none
structure Inv(X:Cx)(pins:List (ab×Obj))(σ:List (Option V))(H:Hp)(s:ao):Prop where
 ok:X.Ok
 os:s.os=X.iT.os
 bare:AllBare s.gens
 base:Un X.fs X.ex X.qe H X.iT.heap s.heap
 loc:∃m,s.heap.Ns X.env.locals m/\∀(i:Nat)(x:Str)(v:V),X.N[i]? =some x->σ[i]? =some (some v)->sG X.env.scope x->∃u,RelV v u/\Look X.env s.heap m x u
 cell:∀x c,X.env.cells.lookup x=some c->∃v,s.heap.IsCell c v
 free:H X.env.locals=none
 kF:∀x c,X.env.cells.lookup x=some c->H c=none
 pin:∀p∈X.pn++pins,s.heap.get? p.1=some p.2/\H p.1=none/\p.1≠X.env.locals/\p.1∉X.fs/\∀v,p.2.data≠ .cell v
 aA:fB X.prog X.w H s.heap
 len:σ.length=X.N.length
section
variable {X:Cx}{pins:List (ab×Obj)}{σ:List (Option V)}{H H':Hp}{s:ao}{h':aH}
def Cx.Ok.Rn(n:X.Ok){b:ab}{o:Obj}(e:X.base.get? b=some o):b∉X.fs:=λj=>by have:=(n.lD.mem j).1;rw[e]at this;cases this
def Inv.bs(I:Inv X pins σ H s):∀b o,X.base.get? b=some o->s.heap.get? b=some o/\H b=none:=λb o e=>
 ⟨I.base.keep b o (I.ok.bs b o e).1 (I.ok.bs b o e).2 (I.ok.Rn e) (I.ok.vO b o e),I.base.free b o (I.ok.bs b o e).1 (I.ok.bs b o e).2 (I.ok.vO b o e)⟩
def Inv.bk(I:Inv X pins σ H s):∀b o,X.base.get? b=some o->s.heap.get? b=some o:=λb o e=>(I.bs b o e).1
def Inv.mod(I:Inv X pins σ H s):Mod X.K X.mg X.base:=I.ok.mod
def Inv.j5(I:Inv X pins σ H s):X.K.In s.heap:=I.ok.mod.vJ.keeps I.bk
def Inv.lt(I:Inv X pins σ H s):X.env.locals<s.heap.objs.size:=let⟨_,j,_⟩:=I.loc;j.lt
def Inv.sz(I:Inv X pins σ H s):X.iT.heap.objs.size<=s.heap.objs.size:=dE I.ok.above (sg I.lt)
def Inv.Rq(I:Inv X pins σ H s){a:ab}(h:s.heap.objs.size<=a):a∉X.fs:=λn=>by show eg (I.ok.lD.mem n) λ_ j=>ai j λo q _=>?_;clear j;show absurd (gY (dU q) (dE I.sz h)) (kU _)
def Inv.qK(I:Inv X pins σ H s):∀x c,X.env.cells.lookup x=some c->c≠X.env.locals:=λx c e z=>by show eB (I.cell x c e) λv o B hd=>?_;show ai I.loc λm j _=>?_;obtain⟨o',es,ep,q,n,_⟩:=j;rw[z,q]at B;cases B;rw[n]at hd;cases hd
def Inv.lD(I:Inv X pins σ H s):s.heap.FunFrames X.base X.outer:=by
 have all:∀(l:List Env),(∀b∈mn l,b∈X.fs)->X.iT.heap.FunFrames X.base l->s.heap.FunFrames X.base l:=by
  intro l;induction l with
  |nil=>intro _ _;trivial
  |cons env r O=>intro F D;show cY D λG j N=>?_;clear D;obtain⟨L,o,B,J,M,hd⟩:=j;have n:L∈X.fs:=F L (by unfold mn;rw[nK,B];show cZ);obtain⟨S,e⟩:=I.base.slot L o M (I.ok.qR L n) n λz=>I.ok.vz L z n;show⟨G,⟨L,_,B,J,e,hd⟩,O (λb q=>F b (by unfold mn;rw[nK,B];show du _ q)) N⟩
 show all X.outer (λ_ q=>q) I.ok.lD
def Inv.stack(I:Inv X pins σ H s):s.heap.FunFrames X.base X.stack:=by
 rcases I.ok.zl with e | ⟨e,j⟩
 .rw[e];show I.lD
 .rw[e];show ai I.loc λm n _=>?_;show .cons (by rw[I.ok.kind];decide) j n ?_ I.lD;show Heap.get?_none_of_le (dE I.ok.nS I.ok.above)
def Inv.Dn(I:Inv X pins σ H s):∀b∈mn X.stack,b∈X.env.locals::X.fs:=λb j=>by
 rcases I.ok.zl with e | ⟨e,n⟩
 .rw[e]at j;show du _ j
 .rw[e]at j;unfold mn at j;rw[nK,n]at j;show j
def Inv.Kz(I:Inv X pins σ H s):∀b∈mn X.stack,H b=none:=λb n=>by
 rcases bG.mp (I.Dn b n)with e | n
 .rw[e];show I.free
 .show eg (I.ok.lD.mem n) λ_ j=>ai j λo q _=>?_;clear j;show I.base.free b o q (I.ok.qR b n) λz=>I.ok.vz b z n
def Inv.step{g':Array GenState}{t':Nat}{d':Drawn}{ch:List ab}(I:Inv X pins σ H s)
  (F:∀b∈ch,(b∈X.ex\/X.iT.heap.objs.size<=b)/\b≠X.env.locals/\(∀x c,X.env.cells.lookup x=some c->c≠b)/\∀p∈X.pn++pins,p.1≠b)
  (G:∀b o,b≠X.env.locals->b∉X.fs->b∉ch->s.heap.get? b=some o->H b=none->h'.get? b=some o)
  (N:∀b o,b≠X.env.locals->b∈X.fs->b∉ch->s.heap.get? b=some o->H b=none->∃sl,h'.get? b=some {o with slots:=sl}) (B:∀b o,b∉ch->s.heap.get? b=some o->H b=none->H' b=none)
  (S:∀b o,b∉ch->s.heap.get? b=some o->∃o',h'.get? b=some o')
  (oG:∀b xs,H b=some (.tup xs)->H' b=some (.tup xs)) (mq:∀b o u,H b=some (.fe o u)->H' b=some (.fe o u)) (oF:∀b ps,H b=some (.rJ ps)->∃W,H' b=some (.rJ (ps++W)))
  (ns:∀m,s.heap.Ns X.env.locals m->h'.Ns X.env.locals m) (aA:fB X.prog X.w H' h') (hg:AllBare g'):
  Inv X pins σ H' {s with heap:=h',gens:=g',drawn:=d',toks:=t'}:=by
 have Y:∀b o,X.iT.heap.get? b=some o->b≠X.env.locals:=λb o e=>eU (gY (dU e) I.ok.above);have M:∀b o,X.iT.heap.get? b=some o->b∉X.ex->b∉ch:=λb o e j O=>by
  rcases(F b O).1 with z | z
  .show j z
  .show absurd (gY (dU e) z) (kU _)
 have D:∀x c,X.env.cells.lookup x=some c->∀v,s.heap.IsCell c v->h'.IsCell c v:=λx c e v ⟨o,U,hd⟩=>by
  have J:c∉ch:=λz=>(F c z).2.2.1 x c e rfl;by_cases hc:c∈X.fs
  .obtain⟨sl,q⟩:=N c o (I.qK x c e) hc J U (I.kF x c e);show⟨_,q,hd⟩
  .show⟨o,G c o (I.qK x c e) hc J U (I.kF x c e),hd⟩
 show⟨I.ok,I.os,hg,⟨λb o e n O j=>?_,λb o e n O j=>?_,λb o e n j=>?_,λb o e j=>?_,λb xs e=>oG b xs (I.base.oG b xs e),λb o xs e=>mq b o xs (I.base.mq b o xs e),λb ps e=>?_⟩,?_,λx c e=>?_,?_,λx c e=>?_,λp hp=>?_,aA,I.len⟩
 .show G b o (Y b o e) O (M b o e j) (I.base.keep b o e n O j) (I.base.free b o e n j)
 .obtain⟨sl,L⟩:=I.base.slot b o e n O j;obtain⟨a0,V⟩:=N b _ (Y b o e) O (M b o e j) L (I.base.free b o e n j);show⟨a0,V⟩
 .obtain⟨o',L⟩:=I.base.there b o e j;show B b o' (M b o e j) L (I.base.free b o e n j)
 .obtain⟨o',L⟩:=I.base.there b o e j;show S b o' (M b o e j) L
 .obtain⟨m1,L⟩:=I.base.oF b ps e;obtain⟨m2,V⟩:=oF b _ L;show⟨m1++m2,by rw[V,Array.append_assoc]⟩
 .show ai I.loc λm hn hl=>?_;show⟨m,ns m hn,λi x v L V e3=>?_⟩;show ai (hl i x v L V e3) λu r l=>?_;exists u,r;rcases l with l | ⟨k,c,e,z⟩
  .show .inl l
  .show .inr ⟨k,c,e,D x c e _ z⟩
 .obtain⟨v,z⟩:=I.cell x c e;show⟨v,D x c e v z⟩
 .show ai I.loc λm Z _=>?_;obtain⟨o,_,_,U,_⟩:=Z;show B _ o (λz=>(F _ z).2.1 rfl) U I.free
 .show eB (I.cell x c e) λv o U hd=>?_;show B c o (λz=>(F c z).2.2.1 x c e rfl) U (I.kF x c e)
 .show i8 (I.pin p hp) λe n ne nf d=>?_;have J:p.1∉ch:=λz=>(F p.1 z).2.2.2 p hp rfl;show⟨G p.1 p.2 ne nf J e n,B p.1 p.2 J e n,ne,nf,d⟩
def Inv.un{t':Nat}(I:Inv X pins σ H s)(u:Un X.fs [] H H' s.heap h')(M:fB X.prog X.w H' h'):Inv X pins σ H' {s with heap:=h',toks:=t'}:=by show ai (id I.loc) λm q _=>?_;obtain⟨o,es,ep,J,r⟩:=q;obtain⟨S,L⟩:=u.any J I.free QD;show I.step (g':=s.gens) (d':=s.drawn) (ch:= []) (λ_ z=>nomatch z) (λb o _ F _ e n=>u.keep b o e n F QD) (λb o _ F _ e n=>u.slot b o e n F QD) (λb o _ e n=>u.free b o e n QD) (λb o _ e=>u.there b o e QD) u.oG u.mq u.oF (λO G=>by show nX G λo' D B j N=>?_;clear G;rw[J]at j;cases j;show⟨_,D,B,L,N⟩) M I.bare
def Inv.call{g':Array GenState}{t':Nat}{d':Drawn}{ch:List ab}(I:Inv X pins σ H s)(u:Un (mn X.stack) ch H H' s.heap h')(S:fB X.prog X.w H' h')(O:AllBare g')
  (q:∀b∈ch,(b∈X.ex\/X.iT.heap.objs.size<=b)/\b≠X.env.locals/\(∀x c,X.env.cells.lookup x=some c->c≠b)/\∀p∈X.pn++pins,p.1≠b):
  Inv X pins σ H' {s with heap:=h',gens:=g',drawn:=d',toks:=t'}:=by
 show ai (id I.loc) λm D _=>?_;obtain⟨o,es,ep,M,r⟩:=D;obtain⟨W,J⟩:=u.any M I.free λz=>(q _ z).2.1 rfl;show I.step (ch:=ch) q (λb o J N j e n=>u.keep b o e n (λz=>(bG.mp (I.Dn b z)).elim J N) j) (λb o _ _ j e n=>u.any e n j) (λb o j e n=>u.free b o e n j) (λb o j e=>u.there b o e j) u.oG u.mq u.oF (λV L=>by show nX L λo' G F B U=>?_;clear L;rw[M]at B;cases B;show⟨_,G,F,J,U⟩) S O
def Inv.turned{t':Nat}{it:ab}(I:Inv X pins σ H s)(k:∀b o,b≠it->s.heap.get? b=some o->h'.get? b=some o)(L:H it=none)(D:it≠X.env.locals)
  (h1:it∈X.ex\/X.iT.heap.objs.size<=it) (h2:∀x c,X.env.cells.lookup x=some c->c≠it) (G:∀p∈X.pn++pins,p.1≠it):Inv X pins σ H {s with heap:=h',toks:=t'}:=by
 have B:∀b u,H b=some u->b≠it:=λb u e z=>by rw[z,L]at e;cases e
 show I.step (g':=s.gens) (d':=s.drawn) (ch:= [it]) (λb J=>?_) (λb o _ _ j e _=>k b o (λz=>j (by simp[z])) e) (λb o _ _ j e _=>⟨o.slots,k b o (λz=>j (by simp[z])) e⟩) (λ_ _ _ _ n=>n)
  (λb o j e=>⟨o,k b o (λz=>j (by simp[z])) e⟩) (λ_ _ e=>e) (λ_ _ _ e=>e) (λb ps e=>⟨#[],by rw[e];simp⟩) (λm F=>?_) (λb u e=>?_) I.bare
 .have e:b=it:=by simpa using J
  subst e;show⟨h1,D,h2,G⟩
 .show nX F λo es ep M r=>?_;clear F;show⟨o,es,ep,k _ o (Ne.symm D) M,r⟩
 .show(I.aA b u e).oE (λc v j q=>k c v ?_ q) (λ_ q=>q) λ_ _ q=>q;rcases j with z | z
  .rw[z];show B b u e
  .show B c _ z
def Inv.tok(I:Inv X pins σ H s)(t:Nat):Inv X pins σ H {s with toks:=t}:=I.un (h':=s.heap) (t':=t) Un.refl I.aA
def Inv.kept{t':Nat}(I:Inv X pins σ H s)(k:∀b u,s.heap.get? b=some u->h'.get? b=some u):Inv X pins σ H {s with heap:=h',toks:=t'}:=I.un (Un.kept k) (I.aA.kept k)
def Inv.laid{a:ab}{o:HO}{t':Nat}(I:Inv X pins σ H s)(k:∀b u,s.heap.get? b=some u->h'.get? b=some u)(j:s.heap.objs.size<=a)(n:fC X.prog X.w (upd H a o) h' a o):
  Inv X pins σ (upd H a o) {s with heap:=h',toks:=t'}:=I.un (Un.laid k j (I.aA.fresh j)) (I.aA.laid k j n)
def Inv.write{x e:ab}{o:HO}{t':Nat}(I:Inv X pins σ H s)(z:oW (H x))(q:e=x\/H e=some (.own x))(k:∀b u,b≠e->s.heap.get? b=some u->h'.get? b=some u)(j:∃u,h'.get? e=some u)
  (n:fC X.prog X.w (upd H x o) h' x o):Inv X pins σ (upd H x o) {s with heap:=h',toks:=t'}:=I.un (Un.write z q k j) (I.aA.write z q k j n)
def Inv.weak{σ':List (Option V)}(I:Inv X pins σ H s)(B:σ'.length=σ.length)(w:∀(i:Nat) v,σ'[i]? =some (some v)->σ[i]? =some (some v)):Inv X pins σ' H s:=
 ⟨I.ok,I.os,I.bare,I.base,let⟨m,D,j⟩:=I.loc;⟨m,D,λi x v n q z=>j i x v n (w i v q) z⟩,I.cell,I.free,I.kF,I.pin,I.aA,B.trans I.len⟩
def Inv.HY{j:List (ab×Obj)}(I:Inv X pins σ H s)(h:∀p∈j,s.heap.get? p.1=some p.2/\H p.1=none/\p.1≠X.env.locals/\p.1∉X.fs/\∀v,p.2.data≠ .cell v):Inv X j σ H s:=
 ⟨I.ok,I.os,I.bare,I.base,I.loc,I.cell,I.free,I.kF,λp n=>(eA.mp n).elim (λz=>I.pin p (Eb _ z)) (h p),I.aA,I.len⟩
def BR{N:List Str}(z:N.Nodup){i j:Nat}{x:Str}(a:N[i]? =some x)(b:N[j]? =some x):i=j:=by obtain⟨h1,n⟩:=dW.mp a;obtain⟨h2,q⟩:=dW.mp b;show(List.getElem_inj z).mp (n.trans q.symm)
def Wf{M:Model}{A:dj}{E:af->ao->Prop}{i:Nat}{x:Str}{v:V}{u:af}{Q:Unit->ao->Prop}(I:Inv X pins σ H s)(hN:X.N.Nodup)(hi:X.N[i]? =some x)(J:Loc X.env.scope x)(r:RelV v u)
  (h:∀s',Inv X pins (σ.set i (some v)) H s'->(∃a,mO a s.heap s'.heap/\(a=X.env.locals\/X.env.cells.lookup x=some a))->Q () s') (hf:X.fn x=true\/X.env.scope.names.lookup x=some .local:=by first | show .inl rfl | show .inr rfl | assumption):aM M A (storeName X.env x u) Q E s:=by
 show ai (id I.loc) λm hn hl=>?_;have a3:(X.env.scope.kind == .class||(X.env.scope.kind == .module&&X.env.locals != X.env.globals))=false:=by rw[I.ok.kind];rfl
 have hiσ:i<σ.length:=by rw[I.len];show(dW.mp hi).1
 have qK:=I.qK;have F:∀{a:ab}{h':aH},(∃o,s.heap.get? a=some o/\H a=none)->mO a s.heap h'->fB X.prog X.w H h':=λ{a h'} ha B b ob e=>by
  show ai ha λ_ _ L=>?_;clear ha;show(I.aA b ob e).oE (λc w' G q=>(B.2 c ?_).trans q) (λ_ q=>q) λ_ _ q=>q;rintro rfl;rcases G with rfl | G
  .rw[L]at e;cases e
  .rw[L]at G;cases G
 rcases J with S | S
 .show wpAny_storeName_local S hn (λh' b0 B=>?_) a3;show nX (id hn) λoL _ _ b1 _=>?_;show h _ ⟨I.ok,I.os,I.bare,⟨λb o e n U J=>?_,λb o e n U J=>?_,I.base.free,λb o e J=>?_,I.base.oG,I.base.mq,I.base.oF⟩,⟨_,b0,λj y v' D O e3=>?_⟩,λy c e=>?_,I.free,I.kF,λp hp=>?_,F ⟨oL,b1,I.free⟩ B,by simpa using I.len⟩ ⟨_,B,.inl rfl⟩
  .show(B.2 b (eU (gY (dU e) I.ok.above))).trans (I.base.keep b o e n U J)
  .obtain⟨sl,D⟩:=I.base.slot b o e n U J;show⟨sl,(B.2 b (eU (gY (dU e) I.ok.above))).trans D⟩
  .obtain⟨o',D⟩:=I.base.there b o e J;show⟨o',(B.2 b (eU (gY (dU e) I.ok.above))).trans D⟩
  .by_cases Y:j=i
   .subst Y;rw[hi]at D;cases D;rw[zT hiσ]at O;cases O;show⟨u,r,.inl ⟨S,QD⟩⟩
   .rw[zS (Ne.symm Y)]at O;show ai (hl j y v' D O e3) λu' r' q=>?_;exists u',r';rcases q with⟨k,e⟩ | ⟨k,c,e,z⟩
    .show .inl ⟨k,?_⟩;have:y≠x:=λe=>Y (BR hN D (e▸hi));simp[this,e]
    .show .inr ⟨k,c,e,z.sameBut B (qK y c e)⟩
  .obtain⟨w',z⟩:=I.cell y c e;show⟨w',z.sameBut B (qK y c e)⟩
  .show i8 (I.pin p hp) λe n ne nf d=>?_;show⟨(B.2 p.1 ne).trans e,n,ne,nf,d⟩
 .have W:X.fn x=true:=by
   rcases hf with z | z
   .show z
   .rw[z]at S;cases S
  obtain⟨c,G⟩:=I.ok.has x (.inl S);obtain⟨w',z⟩:=I.cell x c G;show wpAny_storeName_cell I.ok.kind S G z (λh' Z B=>?_);show ai (id z) λoc a4 a5=>?_;show h {s with heap:=h'} ⟨I.ok,I.os,I.bare,⟨λb o e n U J=>?_,λb o e n U J=>?_,I.base.free,λb o e J=>?_,I.base.oG,I.base.mq,I.base.oF⟩,⟨m,hn.sameBut B (Ne.symm (qK x c G)),λj y v' D O e3=>?_⟩,λy c' e=>?_,I.free,I.kF,λp hp=>?_,F ⟨oc,a4,I.kF x c G⟩ B,by simpa using I.len⟩ ⟨c,B,.inr G⟩
  .show(B.2 b (eU (gY (dU e) (I.ok.vf x c W G)))).trans (I.base.keep b o e n U J)
  .obtain⟨sl,D⟩:=I.base.slot b o e n U J;show⟨sl,(B.2 b (eU (gY (dU e) (I.ok.vf x c W G)))).trans D⟩
  .obtain⟨o',D⟩:=I.base.there b o e J;show⟨o',(B.2 b (eU (gY (dU e) (I.ok.vf x c W G)))).trans D⟩
  .by_cases Y:j=i
   .subst Y;rw[hi]at D;cases D;rw[zT hiσ]at O;cases O;show⟨u,r,.inr ⟨.inl S,c,G,Z⟩⟩
   .rw[zS (Ne.symm Y)]at O;show ai (hl j y v' D O e3) λu' r' q=>?_;exists u',r';rcases q with q | ⟨k,c',e,z'⟩
    .show .inl q
    .show .inr ⟨k,c',e,z'.sameBut B ?_⟩;rintro rfl;show Y (BR hN D (I.ok.inj _ _ _ e G▸hi))
  .by_cases a0:c'=c
   .subst a0;show⟨_,Z⟩
   .obtain⟨w2,z2⟩:=I.cell y c' e;show⟨w2,z2.sameBut B a0⟩
  .show i8 (I.pin p hp) λe n ne nf d=>?_;show⟨(B.2 p.1 ?_).trans e,n,ne,nf,d⟩;intro q;rw[q,a4]at e;have q':oc=p.2:=df.inj e;show d w' (by rw[<-q'];show a5)
def Dq{M:Model}{A:dj}{E:af->ao->Prop}{i:Nat}{x:Str}{v:V}{u:af}{Q:Unit->ao->Prop}(I:Inv X pins σ H s)(n:X.N.Nodup)(hi:X.N[i]? =some x)(z:Loc X.env.scope x)(r:RelV v u)
  (h:∀s',Inv X pins (σ.set i (some v)) H s'->Q () s') (q:X.fn x=true\/X.env.scope.names.lookup x=some .local:=by first | show .inl rfl | show .inr rfl | assumption):aM M A (storeName X.env x u) Q E s:=
 Wf I n hi z r (λs' j _=>h s' j) q
def Inv.MN{s':ao}{ch:List ab}(I:Inv X pins σ H s)(q:s'.os=s.os)(u:Un (mn X.stack) ch H H' s.heap s'.heap)(z:fB X.prog X.w H' s'.heap)(n:AllBare s'.gens)
  (j:∀b∈ch,(b∈X.ex\/X.iT.heap.objs.size<=b)/\b≠X.env.locals/\(∀x c,X.env.cells.lookup x=some c->c≠b)/\∀p∈X.pn++pins,p.1≠b):Inv X pins σ H' s':=by
 obtain⟨h',g',d',t',o'⟩:=s';have e:o'=s.os:=q;subst e;show I.call (g':=g') (t':=t') (d':=d') u z n j
end
abbrev XK:=af->Option ab->Hp->Prop
abbrev St:=List (Option V)
abbrev VK:=V->Hp->Prop
abbrev TE:=St->Hp->VK->Prop
abbrev TT:=St->Hp->(Bool->Hp->Prop)->Prop
abbrev TA:=St->Hp->(List V->Hp->Prop)->Prop
structure Ends where
 nx:St->Hp->Prop
 rt:VK
 bk:St->Hp->Prop:=λ_ _=>False
 ct:St->Hp->Prop:=λ_ _=>False
abbrev TS:=Ends->St->Hp->Prop
def EP(X:Cx)(pins:List (ab×Obj))(σ:St)(Q:VK)(u:af)(s':ao):Prop:=∃v H',Inv X pins σ H' s'/\RelV v u/\Q v H'
def TP(X:Cx)(pins:List (ab×Obj))(σ:St)(Q:Bool->Hp->Prop)(b:Bool)(s':ao):Prop:=∃H',Inv X pins σ H' s'/\Q b H'
def AP(X:Cx)(pins:List (ab×Obj))(σ:St)(Q:List V->Hp->Prop)(us:List af)(s':ao):Prop:=∃j H',Inv X pins σ H' s'/\Vals j us/\Q j H'
def SP(X:Cx)(pins:List (ab×Obj))(D:Ends)(f:Flow)(s':ao):Prop:=
 match f with
 |.next=>∃σ' H',Inv X pins σ' H' s'/\D.nx σ' H'
 |.brk=>∃σ' H',Inv X pins σ' H' s'/\D.bk σ' H'
 |.cont=>∃σ' H',Inv X pins σ' H' s'/\D.ct σ' H'
 |.ret u=>∃v σ' H',Inv X pins σ' H' s'/\RelV v u/\D.rt v H'
def PE(X:Cx)(e:Expr)(t:TE):Prop:=
 ∀(pins:List (ab×Obj))(s:ao)(σ:St)(H:Hp)(Q:VK),Inv X pins σ H s->t σ H Q->aM (model X.prog X.w) X.A (eval e X.env) (EP X pins σ Q) X.xe s
def PT(X:Cx)(e:Expr)(t:TT):Prop:=
 ∀(pins:List (ab×Obj))(s:ao)(σ:St)(H:Hp)(Q:Bool->Hp->Prop),Inv X pins σ H s->t σ H Q->aM (model X.prog X.w) X.A (isTrue e X.env (eval e X.env)) (TP X pins σ Q) X.xe s
def PW(X:Cx)(e:Expr)(t:TT):Prop:=
 ∀(j:Sem af)(pins:List (ab×Obj))(s:ao)(σ:St)(H:Hp)(Q:Bool->Hp->Prop),Inv X pins σ H s->t σ H Q->aM (model X.prog X.w) X.A (isTrue e X.env j) (TP X pins σ Q) X.xe s
def PW.pt{X:Cx}{e:Expr}{t:TT}(h:PW X e t):PT X e t:=h _
def PA(X:Cx)(es:List Expr)(t:TA):Prop:=
 ∀(pos:Pos)(pins:List (ab×Obj))(s:ao)(σ:St)(H:Hp)(Q:List V->Hp->Prop),Inv X pins σ H s->t σ H Q->aM (model X.prog X.w) X.A (spliced (backTo pos (dY es X.env))) (AP X pins σ Q) X.xe s
def PS(X:Cx)(st:aT)(t:TS):Prop:=
 ∀(pins:List (ab×Obj))(s:ao)(σ:St)(H:Hp)(D:Ends),Inv X pins σ H s->t D σ H->aM (model X.prog X.w) X.A (exec st X.env) (SP X pins D) X.xe s
def iY(X:Cx)(st:List aT)(t:TS):Prop:=
 ∀(pins:List (ab×Obj))(s:ao)(σ:St)(H:Hp)(D:Ends),Inv X pins σ H s->t D σ H->aM (model X.prog X.w) X.A (execs st X.env) (SP X pins D) X.xe s
def br{α:Type}{t:Sem α}{Q j:α->ao->Prop}{M:Model}{A:dj}{E:af->ao->Prop}{s:ao}(h:aM M A t Q E s)(n:∀a s,Q a s->j a s):aM M A t j E s:=lL h n λ_ _ x=>x
end L2
namespace L2
open PySem PySem.Spec PyProof.Rows
section
variable {X:Cx}
def onS(o:Option (Option V))(k:V->Prop):Prop:=match o with
 |some (some v)=>k v
 |_=>False
def iQ(x:V)(k:Bool->Prop):Prop:=match x with
 |.bl c=>k c
 |_=>False
def gn(x:V)(k:Int->Prop):Prop:=match x with
 |.int c=>k c
 |_=>False
def mB(x:V)(k:ab->Prop):Prop:=match x with
 |.ref a=>k a
 |_=>False
def aW{a:ab}{k:ab->Prop}:mB (.ref a) k=k a:=rfl
def mB.ex{x:V}{k:ab->Prop}(h:mB x k):∃a,x= .ref a/\k a:=by
 match x,h with
 |.ref a,h=>show⟨a,rfl,h⟩
def cy{a b:Prop}:(if true=true then a else b)=a:=rfl
def cv{a b:Prop}:(if false=true then a else b)=b:=rfl
def aX{v:V}{k:V->Prop}:onS (some (some v)) k=k v:=rfl
def aU{c:Bool}{k:Bool->Prop}:iQ (.bl c) k=k c:=rfl
def aV{c:Int}{k:Int->Prop}:gn (.int c) k=k c:=rfl
def onS.ex{o:Option (Option V)}{k:V->Prop}(h:onS o k):∃v,o=some (some v)/\k v:=by
 match o,h with
 |some (some v),h=>show⟨v,rfl,h⟩
def iQ.ex{x:V}{k:Bool->Prop}(h:iQ x k):∃c,x= .bl c/\k c:=by
 match x,h with
 |.bl v,h=>show⟨v,rfl,h⟩
def gn.ex{x:V}{k:Int->Prop}(h:gn x k):∃c,x= .int c/\k c:=by
 match x,h with
 |.int v,h=>show⟨v,rfl,h⟩
def onS.mk{o:Option (Option V)}{k:V->Prop}{v:V}(e:o=some (some v))(h:k v):onS o k:=by subst e;show h
def aB(i:Nat):TE:=λσ H Q=>onS σ[i]? λv=>Q v H
def tC(v:V):TE:=λ_ H Q=>Q v H
def SM{i:Nat}{x:Str}{pos:Pos}(D:X.N[i]? =some x)(L:sG X.env.scope x)(z:(x==("__debug__":Str))=false:=by decide)(q:(x==("__classdict__":Str))=false:=by decide):PE X (.Name x pos) (aB i):=by
 intro pins s σ H Q I h;show ai (onS.ex h) λv e h=>?_;show ai I.loc λm J F=>?_;show ai (F i x v D e L) λu r l=>?_;have fin:EP X pins σ Q u s:=⟨v,H,I,r,h⟩;rcases l with⟨n,G⟩ | ⟨n,c,B,j⟩
 .show wpAny_Name (wpAny_loadName_local I.ok.kind n J G fin) z
 .rcases n with n | n
  .show wpAny_Name (wpAny_loadName_cell I.ok.kind n B j fin) z
  .show wpAny_Name (wpAny_loadName_free I.ok.kind n B j fin q) z
def aD{i j pos}:PE X (.Constant (.int i) j pos) (tC (.int i)):=λ_ _ _ H _ I h=>wpAny_Constant_int ⟨.int i,H,I.tok _,⟨_,rfl⟩,h⟩
def SA{b j pos}:PE X (.Constant (.bool b) j pos) (tC (.bl b)):=λ_ _ _ H _ I h=>Constant_bool ⟨.bl b,H,I,rfl,h⟩
def gp{j pos}:PE X (.Constant .none j pos) (tC .a9):=λ_ _ _ H _ I h=>Constant_none ⟨.a9,H,I,rfl,h⟩
def dX{x j pos}:PE X (.Constant (.str x) j pos) (tC (.str x)):=λ_ _ _ H _ I h=>Calls.Constant_str ⟨.str x,H,I.tok _,⟨_,rfl⟩,h⟩
def Gl(X:Cx)(x:Str):Prop:=X.env.kindOf x=some .globalImplicit
def yi{E:af->ao->Prop}{pins:List (ab×Obj)}{s:ao}{σ:St}{H:Hp}{x:Str}{u:af}{pos:Pos}{Q:af->ao->Prop}(I:Inv X pins σ H s)(n:Gl X x)(q:X.mg x=some u)(h:Q u s)
  (j:(x==("__debug__":Str))=false:=by decide):aM (model X.prog X.w) X.A (eval (.Name x pos) X.env) Q E s:=
 Calls.Name_function_global I.ok.kind n (Calls.loadGlobal_global (by rw[I.ok.glob];show I.mod.glob.keeps I.bk) q h) j
def qV{E:af->ao->Prop}{pins:List (ab×Obj)}{s:ao}{σ:St}{H:Hp}{x:Str}{u:af}{pos:Pos}{Q:af->ao->Prop}(I:Inv X pins σ H s)(n:Gl X x)(q:X.mg x=none)(B:bootBuiltins x=some u)(h:Q u s)
  (z:x≠"__name__":=by decide) (j:(x==("__debug__":Str))=false:=by decide):aM (model X.prog X.w) X.A (eval (.Name x pos) X.env) Q E s:=by
 show ai I.mod.blt λD h1 h2=>?_;show Calls.Name_function_global I.ok.kind n (Calls.loadGlobal_builtin (by rw[I.ok.glob];show I.mod.glob.keeps I.bk) q (by rw[I.ok.blt];show h1.keeps I.bk) ((h2 x z).trans B) h) j
def HR{x:Str}{v:V}{u:af}{pos:Pos}(n:Gl X x)(q:X.mg x=some u)(r:RelV v u)(j:(x==("__debug__":Str))=false:=by decide):PE X (.Name x pos) (tC v):=
 λ_ _ _ H _ I h=>yi I n q ⟨v,H,I,r,h⟩ j
variable {a b:Expr}{ta tb:TE}{pos:Pos}
def PC(X:Cx)(j:CmpOp)(a b:Expr)(t:TE):Prop:=
 ∀(pins:List (ab×Obj))(s:ao)(σ:St)(H:Hp)(Q:VK),Inv X pins σ H s->t σ H Q->
  aM (model X.prog X.w) X.A (eval a X.env) (λv s₁=>aM (model X.prog X.w) X.A (eval b X.env) (λu s₂=>aM (model X.prog X.w) X.A (fT j v u) (EP X pins σ Q) X.xe s₂) X.xe s₁) X.xe s
def tB(t:TE):TT:=λσ H Q=>t σ H λx H1=>iQ x λc=>Q c H1
def SE{j:CmpOp}{t:TE}(h:PC X j a b t)(h1:behindInMarks j b=false:=by first | show Rm _ QB QB | rfl):PE X (.Compare a [j] [b] pos) t:=λpins s σ H Q I n=>wpAny_Compare1 (h pins s σ H Q I n) h1
def tR{n:CmpOp}{t:TE}(h:PC X n a b t)(h1:behindInMarks n b=false:=by first | show Rm _ QB QB | rfl):PT X (.Compare a [n] [b] pos) (tB t):=by intro pins s σ H Q I B;show wpAny_isTrue_Compare1 (br (h pins s σ H _ I B) λv J h1=>br h1 λu L h2=>br h2 λc M D=>bp D λx H1 z G F=>?_) h1;show ai (iQ.ex F) λd j q=>?_;subst j;cases G;show qc ⟨H1,z,q⟩
def ez{e:Expr}{t:TE}(h:PE X e t)(he:∀whole,isTrue e X.env whole=(do let v <-whole;standAt e.pos;holding [v] (truthy v)):=by intro _;rfl):PT X e (tB t):=by intro pins s σ H Q I hw;show isTrue_plain (br (h pins s σ H _ I hw) λv s1 hz=>bp hz λx H1 I1 r1 q1=>?_) (he _);show ai (iQ.ex q1) λd ez_1 q=>?_;subst ez_1;cases r1;show qc ⟨H1,I1,q⟩
variable {tA tB':TT}{rest:List Expr}
def cf(t u:TT):TT:=λσ H Q=>t σ H λc H1=>if c=true then u σ H1 Q else Q false H1
def ck(t u:TT):TT:=λσ H Q=>t σ H λc H1=>if c=true then Q true H1 else u σ H1 Q
def bZ(t:TT):TT:=λσ H Q=>t σ H λc H1=>Q (!c) H1
def ju(j:PT X a tA):PW X (.BoolOp .And [a] pos) tA:=by
 intro q pins s σ H Q I h;show isTrue_and (br (j pins s σ H Q I h) λc n e=>?_);cases c with
 |true=>show isTrue_and_nil e
 |false=>show e
def tS(j:PT X a tA):PW X (.BoolOp .Or [a] pos) tA:=by
 intro q pins s σ H Q I h;show isTrue_or (br (j pins s σ H Q I h) λc n e=>?_);cases c with
 |false=>show isTrue_or_nil e
 |true=>show e
def gS(q:PT X a tA)(z:PW X (.BoolOp .And (b::rest) pos) tB'):PW X (.BoolOp .And (a::b::rest) pos) (cf tA tB'):=by
 intro F pins s σ H Q I h;show isTrue_and (br (q pins s σ H _ I h) λc D B=>ai B λH1 j n=>?_);cases c with
 |true=>show z F pins D σ H1 Q j n
 |false=>show⟨H1,j,n⟩
def rA(q:PT X a tA)(z:PW X (.BoolOp .Or (b::rest) pos) tB'):PW X (.BoolOp .Or (a::b::rest) pos) (ck tA tB'):=by
 intro F pins s σ H Q I h;show isTrue_or (br (q pins s σ H _ I h) λc D B=>ai B λH1 j n=>?_);cases c with
 |true=>show⟨H1,j,n⟩
 |false=>show z F pins D σ H1 Q j n
def fZ(j:PT X a tA):PT X (.UnaryOp .Not a pos) (bZ tA):=by intro pins s σ H Q I h;show isTrue_not (j pins s σ H (λc H1=>Q (!c) H1) I h)
def cg(ta tb:TE):TE:=λσ H Q=>ta σ H λx H1=>iQ x λc=>if c=true then tb σ H1 Q else Q (.bl false) H1
def cn(ta tb:TE):TE:=λσ H Q=>ta σ H λx H1=>iQ x λc=>if c=true then Q (.bl true) H1 else tb σ H1 Q
def cI(ta:TE):TE:=λσ H Q=>ta σ H λx H1=>iQ x λc=>Q (.bl (!c)) H1
def tP{op}{t:TE}(h:PE X a t):PE X (.BoolOp op [a] pos) t:=λpins s σ H Q I j=>BoolOp_one (h pins s σ H Q I j)
def yJ(z:PE X a ta)(B:PE X (.BoolOp .And (b::rest) pos) tb):PE X (.BoolOp .And (a::b::rest) pos) (cg ta tb):=by
 intro pins s σ H Q I h;show BoolOp_and (br (z pins s σ H _ I h) λv G D=>bp D λx H1 q F n=>?_);show ai (iQ.ex n) λc j n=>?_;subst j;cases F;show qc ?_;cases c with
 |true=>show B pins G σ H1 Q q n
 |false=>show⟨.bl false,H1,q,rfl,n⟩
def Ce(z:PE X a ta)(B:PE X (.BoolOp .Or (b::rest) pos) tb):PE X (.BoolOp .Or (a::b::rest) pos) (cn ta tb):=by
 intro pins s σ H Q I h;show BoolOp_or (br (z pins s σ H _ I h) λv G D=>bp D λx H1 q F n=>?_);show ai (iQ.ex n) λc j n=>?_;subst j;cases F;show qc ?_;cases c with
 |false=>show B pins G σ H1 Q q n
 |true=>show⟨.bl true,H1,q,rfl,n⟩
def bO(t:TT)(ta tb:TE):TE:=λσ H Q=>t σ H λc H1=>if c=true then ta σ H1 Q else tb σ H1 Q
def pR{c:Expr}(D:PT X c tA)(z:PE X a ta)(B:PE X b tb):PE X (.IfExp c a b pos) (bO tA ta tb):=by
 intro pins s σ H Q I h;show wpAny_IfExp (br (D pins s σ H _ I h) λd q F=>ai F λH1 j n=>?_);cases d with
 |true=>show z pins q σ H1 Q j n
 |false=>show B pins q σ H1 Q j n
end
end L2
namespace L2
open PySem PySem.Spec PyProof.Rows
def aj(K:aw)(H:Hp)(a:ab)(xs:List V):Prop:=
 Rd H a (.lst xs)\/
  ∃(o:Obj)(its:Array af)(n:Nat),K.lookup a=some o/\o.cls= .type "list"/\o.dict=none/\o.data= .seq its n/\its.size<=dc/\Vals xs its.toList
def eV(K:aw)(H:Hp)(a:ab)(xs:List V):Prop:=
 Rd H a (.tup xs)\/
  ∃(o:Obj)(its:Array af)(n:Nat),K.lookup a=some o/\o.cls= .type "tuple"/\o.data= .seq its n/\its.size<=dc/\Vals xs its.toList
def LN:af->Option V
 |.none=>some .a9
 |.bool b=>some (.bl b)
 |.int i _=>some (.int i)
 |.str x _=>some (.str x)
 |.bytes b _=>some (.jV b)
 |.float b _=>some (.x5 b)
 |.ref a=>some (.ref a)
 |.type n=>some (.ty n)
 |_=>none
def RelV.abs{x:V}{u:af}(r:RelV x u):LN u=some x:=by
 cases x with
 |a9=>cases r;rfl
 |bl _=>cases r;rfl
 |int _=>obtain⟨t,rfl⟩:=r;rfl
 |str _=>obtain⟨t,rfl⟩:=r;rfl
 |jV _=>obtain⟨t,rfl⟩:=r;rfl
 |x5 _=>obtain⟨t,rfl⟩:=r;rfl
 |ref _=>cases r;rfl
 |ty _=>cases r;rfl
def RelV.inj{x y:V}{u:af}(r:RelV x u)(q:RelV y u):x=y:=df.inj (r.abs.symm.trans q.abs)
def Vals.inj:∀{xs ys:List V}{us:List af},Vals xs us->Vals ys us->xs=ys
 |_,_,_,.nil,.nil=>rfl
 |_,_,_,.cons r t,.cons j n=>by rw[r.inj j,Vals.inj t n]
section
variable {X:Cx}{pins:List (ab×Obj)}{σ:St}{H:Hp}{s:ao}{a:ab}{xs ys:List V}
def aj.of{K:aw}(h:H a=some (.lst xs)):aj K H a xs:= .inl (.inl h)
def eV.of{K:aw}(h:H a=some (.tup xs)):eV K H a xs:= .inl (.inl h)
def Inv.list(I:Inv X pins σ H s)(h:aj X.K H a xs):∃its:List af,Vals xs its/\PlainL s.heap a its.toArray/\xs.length<=dc:=by
 rcases h with h | ⟨o,its,n,B,q,hd,D,F,r⟩
 .show eg (h.ok I.aA) λz j=>eB j λits n r e=>?_;clear j;show⟨its,r,⟨_,n,e,rfl,rfl,rfl⟩,z⟩
 .exists its.toList,r,⟨o,n,I.j5 a o B,q,hd,by simpa using D⟩;have e:=r.length;simp only[gW]at e;omega
def Inv.tuple(I:Inv X pins σ H s)(h:eV X.K H a xs):∃its:List af,Vals xs its/\IsTup s.heap a its.toArray/\xs.length<=dc:=by
 rcases h with h | ⟨o,its,n,B,q,D,F,r⟩
 .show eg (h.ok I.aA) λz j=>ai j λits r p=>?_;clear j;show⟨its,r,p,z⟩
 .exists its.toList,r,⟨o,I.j5 a o B,q,n,by simpa using D⟩;have e:=r.length;simp only[gW]at e;omega
def Inv.ym(I:Inv X pins σ H s)(h:aj X.K H a xs)(h':aj X.K H a ys):xs=ys:=by
 show bA (I.list h) λits r j _=>?_;obtain⟨o,n,e,_,_,d⟩:=j;show bA (I.list h') λq D j _=>?_;obtain⟨o',F,B,_,_,z⟩:=j;rw[e]at B;cases B;rw[d]at z;injection z with d1 _
 have:its=q:=by simpa using congrArg Array.toList d1
 subst this;show r.inj D
def Inv.WN(I:Inv X pins σ H s)(h:eV X.K H a xs)(h':eV X.K H a ys):xs=ys:=by
 show bA (I.tuple h) λits r j _=>?_;obtain⟨o,e,_,n,d⟩:=j;show bA (I.tuple h') λq D j _=>?_;obtain⟨o',B,_,F,z⟩:=j;rw[e]at B;cases B;rw[d]at z;injection z with d1 _
 have:its=q:=by simpa using congrArg Array.toList d1
 subst this;show r.inj D
end
abbrev Cx.nH(X:Cx)(E:af->ao->Prop):Cx:={X with xe:=E}
abbrev Cx.rb(X:Cx):Cx:=X.nH λ_ _=>False
def Cx.Ok.nH{X:Cx}(j:X.Ok)(E:af->ao->Prop):(X.nH E).Ok:=
 ⟨j.mod,j.kind,j.glob,j.blt,j.above,j.inj,j.has,j.vf,j.hd,j.frames,j.zl,j.xZ,j.bs,j.nS,j.vO,j.vz,j.lD,j.qR⟩
def Cx.Ok.pZ{X:Cx}{E:af->ao->Prop}(j:(X.nH E).Ok):X.Ok:=
 ⟨j.mod,j.kind,j.glob,j.blt,j.above,j.inj,j.has,j.vf,j.hd,j.frames,j.zl,j.xZ,j.bs,j.nS,j.vO,j.vz,j.lD,j.qR⟩
section
variable {X:Cx}{pins:List (ab×Obj)}{σ:St}{H:Hp}{s:ao}{E:af->ao->Prop}
def Inv.nH(I:Inv X pins σ H s)(E:af->ao->Prop):Inv (X.nH E) pins σ H s:=⟨I.ok.nH E,I.os,I.bare,I.base,I.loc,I.cell,I.free,I.kF,I.pin,I.aA,I.len⟩
def Inv.pZ(I:Inv (X.nH E) pins σ H s):Inv X pins σ H s:=⟨I.ok.pZ,I.os,I.bare,I.base,I.loc,I.cell,I.free,I.kF,I.pin,I.aA,I.len⟩
def SP.pZ{D:Ends}{f:Flow}{s':ao}(h:SP (X.nH E) pins D f s'):SP X pins D f s':=by
 cases f with
 |next=>obtain⟨σ',H',I,q⟩:=h;show⟨σ',H',I.pZ,q⟩
 |brk=>obtain⟨σ',H',I,q⟩:=h;show⟨σ',H',I.pZ,q⟩
 |cont=>obtain⟨σ',H',I,q⟩:=h;show⟨σ',H',I.pZ,q⟩
 |ret u=>obtain⟨v,σ',H',I,r,q⟩:=h;show⟨v,σ',H',I.pZ,r,q⟩
def iY.rb{st:List aT}{t:TS}(h:iY X.rb st t):iY X st t:=λpins s σ H D I j=>
 lL (h pins s σ H D (I.nH _) j) (λ_ _ q=>q.pZ) λ_ _ z=>False.elim z
end
section
variable {X:Cx}{st:aT}{rest:List aT}{t u:TS}{e:Expr}{te:TE}{pos:Pos}
def bY:TS:=λD σ H=>D.nx σ H
def bg(t u:TS):TS:=λD σ H=>t {D with nx:=u D} σ H
def de:iY X [] bY:=λ_ _ σ H _ I h=>DP ⟨σ,H,I,h⟩
def ak(h1:PS X st t)(h2:iY X rest u):iY X (st::rest) (bg t u):=by
 intro pins s σ H D I h;show wpAny_execs_cons (br (h1 pins s σ H {D with nx:=u D} I h) λf n q=>?_);cases f with
 |next=>show eB q λσ' H' j q=>?_;show h2 pins n σ' H' D j q
 |ret v=>show q
 |brk=>show q
 |cont=>show q
def aq(h1:PS X st t):iY X [st] t:=by
 intro pins s σ H D I h;show wpAny_execs_cons (br (h1 pins s σ H D I h) λf j q=>?_);cases f with
 |next=>show DP q
 |ret v=>show q
 |brk=>show q
 |cont=>show q
def Inv.quiet{pins:List (ab×Obj)}{σ:St}{H:Hp}{s:ao}(I:Inv X pins σ H s):interactive X.env=false:=by simp[interactive,I.ok.kind]
def bK(te:TE):TS:=λD σ H=>te σ H λ_ H1=>D.nx σ H1
def dR(n:PE X e te)(q:swapsWith e none pos.line X.env=pure false:=by rfl):PS X (.Expr e pos) (bK te):=by intro pins s σ H D I h;show wpAny_Expr_any (br (n pins s σ H _ I h) λv G z=>bp z λx H1 j F B=>⟨σ,H1,j,B⟩) I.quiet q
def bC(te:TE):TS:=λD σ H=>te σ H D.rt
def aK(n:PE X e te):PS X (.Return (some e) pos) (bC te):=by intro pins s σ H D I h;show wpAny_Return_some (br (n pins s σ H _ I h) λv F q=>bp q λx H1 j B z=>⟨x,σ,H1,j,B,z⟩)
def cJ:TS:=λD _ H=>D.rt .a9 H
def bX(c:TT)(t u:TS):TS:=λD σ H=>c σ H λb H1=>if b=true then t D σ H1 else u D σ H1
def bL{c:Expr}{a b:List aT}{tc:TT}(F:PT X c tc)(z:iY X a t)(B:iY X b u):PS X (.If c a b pos) (bX tc t u):=by
 intro pins s σ H D I h;show wpAny_If (br (F pins s σ H _ I h) λd q G=>ai G λH1 j n=>?_);cases d with
 |true=>show z pins q σ H1 D j n
 |false=>show B pins q σ H1 D j n
end
abbrev TG:=V->St->Hp->(St->Hp->Prop)->Prop
abbrev o9:=List V->St->Hp->(St->Hp->Prop)->Prop
def PG(X:Cx)(j:Expr)(t:TG):Prop:=
 ∀(pins:List (ab×Obj))(s:ao)(σ:St)(H:Hp)(v:V)(u:af)(Q:St->Hp->Prop),Inv X pins σ H s->RelV v u->t v σ H Q->
  aM (model X.prog X.w) X.A (assign j X.env u) (λ_ s'=>∃σ' H',Inv X pins σ' H' s'/\Q σ' H') X.xe s
def uG(X:Cx)(j:List Expr)(t:o9):Prop:=
 ∀(pins:List (ab×Obj))(s:ao)(σ:St)(H:Hp)(vs:List V)(us:List af)(Q:St->Hp->Prop),Inv X pins σ H s->Vals vs us->t vs σ H Q->
  aM (model X.prog X.w) X.A (assignInOrder ((assignEach j X.env).map (·.2)) us) (λ_ s'=>∃σ' H',Inv X pins σ' H' s'/\Q σ' H') X.xe s
abbrev xy:=V->V->Hp->VK->Prop
def Ah(X:Cx)(j:Operator)(t:xy):Prop:=
 ∀(pins:List (ab×Obj))(s:ao)(σ:St)(H:Hp)(x y:V)(v u:af)(Q:VK),Inv X pins σ H s->RelV x v->RelV y u->t x y H Q->
  aM (model X.prog X.w) X.A (inplaceOp j v u) (EP X pins σ Q) X.xe s
section
variable {X:Cx}{pos:Pos}
def aY(i:Nat):TG:=λv σ H Q=>Q (σ.set i (some v)) H
def SN{i:Nat}{x:Str}(n:X.N.Nodup)(hi:X.N[i]? =some x)(z:Loc X.env.scope x)(q:X.fn x=true\/X.env.scope.names.lookup x=some .local:=by first | show .inl rfl | show .inr rfl | assumption):PG X (.Name x pos) (aY i):=by intro pins s σ H v u Q I r h;show wpAny_assign_Name (Dq I n hi z r (λs' j=>⟨_,H,j,h⟩) q)
def x9:o9:=λj σ H Q=>j= []/\Q σ H
def qS(t:TG)(u:o9):o9:=λj σ H Q=>∃v r,j=v::r/\t v σ H λσ' H'=>u r σ' H' Q
def vV:uG X [] x9:=by intro pins s σ H n j Q I r h;obtain⟨e,h⟩:=h;subst e;cases r;show assignInOrder_nil ⟨σ,H,I,h⟩
def nF{e:Expr}{es:List Expr}{t:TG}{u:o9}(h1:PG X e t)(h2:uG X es u)
  (z:(assignEach (e::es) X.env).map (·.2)=assign e X.env::(assignEach es X.env).map (·.2):=by rfl):uG X (e::es) (qS t u):=by
 intro pins s σ H M J Q I r h;revert h;intro j;show eB j λv L q h=>?_;subst j q;cases r with
 |cons r F=>rw[z];show assignInOrder_cons (br (h1 pins s σ H _ _ _ I r h) λ_ G B=>eB B λσ1 H1 n D=>?_);show h2 pins G σ1 H1 _ _ Q n F D
def vE(K:aw)(n:Nat)(t:o9):TG:=λv σ H Q=>∃a xs,v= .ref a/\eV K H a xs/\xs.length=n/\t xs σ H Q
def HU{es:List Expr}{k:Nat}{t:o9}{n:Nat}(G:X.calm=true)(h:uG X es t)
  (L:(assignEach es X.env).length=n:=by rfl) (q:(assignEach es X.env).findIdx? (·.1)=none:=by rfl):PG X (.Tuple es k pos) (vE X.K n t):=by
 intro pins s σ H v u Q I r z;revert z;intro j;show fO j λa xs F M J z=>?_;subst j F;cases r;show bA (I.tuple M) λits B N S=>?_;show assign_Tuple_tuple (I.ok.hd G) N (by simp[L,<-J,B.length]) q λh' O=>?_;have D:Inv X pins σ H {s with heap:=h'}:=I.kept (t':=s.toks) λb o e=>O b o (eU (dU e)) e;show h pins _ σ H xs _ Q D (by simpa using B) z
def bf(te:TE)(g:TG):TS:=λD σ H=>te σ H λx H1=>g x σ H1 D.nx
def Tg{i:Nat}{x:Str}{e:Expr}{te:TE}{pos':Pos}(q:X.N.Nodup)(hi:X.N[i]? =some x)(G:Loc X.env.scope x)(z:PE X e te)(F:swapsWith e (some (.Name x pos')) pos.line X.env=pure false:=by rfl)(B:X.fn x=true\/X.env.scope.names.lookup x=some .local:=by first | show .inl rfl | show .inr rfl | assumption):
  PS X (.Assign [.Name x pos'] e pos) (bf te (aY i)):=by
 intro pins s σ H D I h;show wpAny_Assign_Name (br (z pins s σ H _ I h) λv O J=>bp J λy H1 j M L=>?_) F;show Dq j q hi G M (λS n=>⟨_,H1,n,L⟩) B
def cj(i:Nat)(te:TE)(j:xy):TS:=λD σ H=>onS σ[i]? λx=>te σ H λy H1=>j x y H1 λz H2=>D.nx (σ.set i (some z)) H2
def ro{i:Nat}{x:Str}{e:Expr}{te:TE}{F:Operator}{J:xy}{pos':Pos}(U:X.N.Nodup)(hi:X.N[i]? =some x)(q:Loc X.env.scope x)(W:PE X e te)(ho:Ah X F J)(Y:X.fn x=true\/X.env.scope.names.lookup x=some .local:=by first | show .inl rfl | show .inr rfl | assumption):
  PS X (.AugAssign (.Name x pos') F e pos) (cj i te J):=by
 intro pins s σ H D I h;show ai (onS.ex h) λv S h=>?_;show ai I.loc λm hn Z=>?_;have G:sG X.env.scope x:=by rcases q with k | k;show .inl k;show .inr (.inl k)
 show ai (Z i x v hi S G) λu r l=>?_;show wpAny_AugAssign_Name ?_;have go:aM (model X.prog X.w) X.A (eval e X.env) (λw s₂=>aM (model X.prog X.w) X.A (inplaceOp F u w) (λr s₃=>aM (model X.prog X.w) X.A (storeName X.env x r) (λ_=>SP X pins D .next) X.xe s₃) X.xe s₂) X.xe s:=by show br (W pins s σ H _ I h) λw s1 B=>bp B λy H1 L r1 q1=>?_;show br (ho pins s1 σ H1 v y u w _ L r r1 q1) λz s2 B=>bp B λzv H2 M r2 q2=>?_;show Dq M U hi q r2 (λs3 O=>⟨_,H2,O,q2⟩) Y
 rcases l with⟨j,hm⟩ | ⟨j,c,V,n⟩
 .show wpAny_loadName_local I.ok.kind j hn hm go
 .rcases j with j | j
  .show wpAny_loadName_cell I.ok.kind j V n go
  .rcases q with k | k
   .have:X.env.scope.names.lookup x=some .free:=j;rw[k]at this;cases this
   .have:X.env.scope.names.lookup x=some .free:=j;rw[k]at this;cases this
def bR(f:Int->Int->Int):xy:=λx y H Q=>gn x λi=>gn y λj=>Q (.int (f i j)) H
def yg:Ah X .Add (bR λi j=>i+j):=by intro pins s σ H x y v u Q I B D h;show ai (gn.ex h) λi n h'=>?_;show ai (gn.ex h') λj z q=>?_;subst n;subst z;obtain⟨t,rfl⟩:=B;obtain⟨F,rfl⟩:=D;show iadd_int ⟨.int _,H,I.tok _,⟨_,rfl⟩,q⟩
def BA:Ah X .Sub (bR λi j=>i-j):=by intro pins s σ H x y v u Q I B D h;show ai (gn.ex h) λi n h'=>?_;show ai (gn.ex h') λj z q=>?_;subst n;subst z;obtain⟨t,rfl⟩:=B;obtain⟨F,rfl⟩:=D;show isub_int ⟨.int _,H,I.tok _,⟨_,rfl⟩,q⟩
end
section
variable {X:Cx}{pos:Pos}
def KN(c:TT)(tb:TS):TS:=λD σ H=>∃W:Nat->St->Hp->Prop,(∃m,W m σ H)/\∀m σ H,W m σ H->
 c σ H λb H1=>if b=true then ∃N:St->Hp->Prop,(∀σ' H',N σ' H'->∃j,j<m/\W j σ' H')/\tb {D with nx:=N,ct:=N,bk:=D.nx} σ H1 else D.nx σ H1
def Ck{c:Expr}{z:List aT}{tc:TT}{tb:TS}(hp:PassesOwn (model X.prog X.w) X.A X.env X.xe)(hc:PT X c tc)(hb:iY X z tb):PS X (.While c z [] pos) (KN tc tb):=by
 intro pins s σ H D I h;show ai h λW F G=>?_;clear h;obtain⟨m0,w0⟩:=F;show wpAny_While (codeAny_whileLoop (λn s'=>∃σ' H',Inv X pins σ' H' s'/\W n σ' H') ?_ m0 ⟨σ,H,I,w0⟩);intro n s1 j;show eB j λσ1 H1 I1 w1=>?_;clear j;show uu hp (br (hc pins s1 σ1 H1 _ I1 (G n σ1 H1 w1)) λb s2 hz=>ai hz λH2 Y J=>?_);cases b with
 |true=>
  revert J;intro q;show ai q λN Z J=>?_;clear q;rw[QG rfl];show uu hp (br (hb pins s2 σ1 H2 _ Y J) λf s3 L=>?_);cases f with
  |next=>show eB L λσ3 B M U=>?_;show ai (Z σ3 B U) λS O V=>?_;show⟨S,O,σ3,B,M,V⟩
  |cont=>show eB L λσ3 B M U=>?_;show ai (Z σ3 B U) λS O V=>?_;show⟨S,O,σ3,B,M,V⟩
  |brk=>show L
  |ret v=>show L
 |false=>rw[QH dP];show DP ⟨σ1,H2,Y,J⟩
end
structure It where
 go:Nat->Hp->Prop
 kM:Nat->Hp->V->Hp->Prop
 stop:Nat->Hp->Prop
def lR(X:Cx)(pins:List (ab×Obj))(H:Hp)(b:ab):Prop:=
 H b=none/\b≠X.env.locals/\b∉X.fs/\(b∈X.ex\/X.iT.heap.objs.size<=b)/\(∀x c,X.env.cells.lookup x=some c->c≠b)/\∀p∈X.pn++pins,p.1≠b
def Inv.qQ{X:Cx}{pins:List (ab×Obj)}{σ:St}{H H':Hp}{s:ao}{b:ab}(I:Inv X pins σ H s)(j:s.heap.objs.size<=b)(n:H' b=none):lR X pins H' b:=by
 show⟨n,oX (gY I.lt j),I.Rq j,.inr (dE I.sz j),λx c e z=>?_,λp B z=>?_⟩
 .obtain⟨v,q⟩:=I.cell x c e;show absurd (gY q.lt (by rw[z];show j)) (kU _)
 .show absurd (gY (dU (I.pin p B).1) (by rw[z];show j)) (kU _)
structure Turn(P:aE)(w:aC)(K:aw)(tg:Expr)(J:It)(fp:List ab)(it:ab)(tn:Nat->aH->Prop):Prop where
 mem:it∈fp
 obj:∀i h,tn i h->∀b∈fp,∃o,h.get? b=some o/\∀v,o.data≠ .cell v
 keep:∀i h h',tn i h->(∀b∈fp,∀o,h.get? b=some o->h'.get? b=some o)->tn i h'
 item:∀(X:Cx),X.prog=P->X.w=w->X.K=K->X.calm=true->∀(i:Nat)(pins:List (ab×Obj))(s:ao)(σ:St)(H:Hp)(E:af->ao->Prop),Inv X pins σ H s->(∀b∈fp,lR X pins H b)->tn i s.heap->J.go i H->
  aM (model P w) X.A (pyNext (.ref it)) (λr s1=>∃u,r=some u/\
   aM (model P w) X.A (letOwnedTupleGo tg (.ref it) u) (λ_ s2=>∃x H',Inv X pins σ H' s2/\RelV x u/\J.kM i H x H'/\tn (i+1) s2.heap/\∀b∈fp,H' b=none) E s1) E s
 done:∀(X:Cx),X.prog=P->X.w=w->X.K=K->X.calm=true->∀(i:Nat)(pins:List (ab×Obj))(s:ao)(σ:St)(H:Hp)(E:af->ao->Prop),Inv X pins σ H s->(∀b∈fp,lR X pins H b)->tn i s.heap->J.stop i H->
  aM (model P w) X.A (pyNext (.ref it)) (λr s1=>r=none/\Inv X pins σ H s1) E s
 self:∀(A:dj)(i:Nat)(s:ao)(Q:af->ao->Prop)(E:af->ao->Prop),tn i s.heap->Q (.ref it) s->aM (model P w) A (pyIter (.ref it)) Q E s
abbrev TI:=St->Hp->(It->Hp->Prop)->Prop
def xq(X:Cx)(pins:List (ab×Obj))(σ:St)(tg:Expr)(R:It->Hp->Prop)(j:af)(q:ao):Prop:=
 ∃(it:ab)(n:List ab)(z:Nat->aH->Prop)(J:It)(H':Hp),j= .ref it/\Inv X pins σ H' q/\Turn X.prog X.w X.K tg J n it z/\z 0 q.heap/\(∀b∈n,lR X pins H' b)/\R J H'
def PI(X:Cx)(tg j:Expr)(q:TI):Prop:=
 ∀(pins:List (ab×Obj))(s:ao)(σ:St)(H:Hp)(R:It->Hp->Prop),Inv X pins σ H s->q σ H R->
  aM (model X.prog X.w) X.A (eval j X.env) (λv n=>aM (model X.prog X.w) X.A (pyIter v) (xq X pins σ tg R) X.xe n) X.xe s
def tj{M:Model}{A:dj}{E:af->ao->Prop}{s:ao}{tg:Expr}{it:ab}{u:af}{o:Obj}{n:String}{vs:Array af}{Q:Unit->ao->Prop}(D:s.heap.get? it=some o)(q:o.cls= .type n)(z:o.data= .fields vs)
  (B: ["enumerate","zip","dict_itemiterator","dict_reverseitemiterator","odict_iterator","itertools.zip_longest","itertools.pairwise"].contains n=false) (j:Q () s):aM M A (letOwnedTupleGo tg (.ref it) u) Q E s:=by
 unfold letOwnedTupleGo
 cases tg<;>first
  |show bD j
  |(cases u<;>first
    |show bD j
    |(show aN (wpAny_load D ?_)
      rw[q,z];show aM M A (if(["enumerate","zip","dict_itemiterator","dict_reverseitemiterator","odict_iterator","itertools.zip_longest","itertools.pairwise"].contains n&&vs[0]? == some (rawInt _))=true then _ else _) Q E s;rw[QH (by intro h;rw[B,zA]at h;cases h)];show bD j))
def jP(K:aw)(a:ab):It:=
 ⟨λi H=>∃xs x,aj K H a xs/\xs[i]? =some x,λi H x H'=>H'=H/\∀xs,aj K H a xs->xs[i]? =some x,λi H=>∃xs,aj K H a xs/\xs.length<=i⟩
def rS(K:aw)(a:ab):It:=
 ⟨λi H=>∃xs x,eV K H a xs/\xs[i]? =some x,λi H x H'=>H'=H/\∀xs,eV K H a xs->xs[i]? =some x,λi H=>∃xs,eV K H a xs/\xs.length<=i⟩
def qg(lo:Int)(n:Nat):It:=⟨λi _=>i<n,λi H x H'=>H'=H/\x= .int (lo+i),λi _=>n<=i⟩
def WS{P:aE}{w:aC}{K:aw}{tg:Expr}(a it:ab):Turn P w K tg (jP K a) [it] it (λi h=>h.IsListIter it a i) where
 mem:=QD
 obj:=λi h st b j=>by
  have e:b=it:=by simpa using j
  subst e;show bA st λo e c d=>?_;clear st;show⟨o,e,λv z=>by rw[d]at z;cases z⟩
 keep:=λi h h' st k=>st.at λo e=>k it QD o e
 item:=by intro X N O M V i pins s σ H E I B st n;subst N O M;show eB n λxs x D S=>?_;clear n;show bA (I.list D) λits U p hz=>?_;show ai (U.get S) λu hu ru=>?_;show fK (B it QD) λF f1 f2 G J L=>?_;show wpAny_pyNext_list_item st p.isList (x:=u) (by simpa using hu) λh' q sb=>?_;have Y:Inv X pins σ H {s with heap:=h'}:=I.turned (t':=s.toks) (λb o j e=>(sb.2 b j).trans e) F f1 G J L;show bA (id q) λo e c d=>?_;show⟨u,rfl,tj (s:={s with heap:=h'}) e c d QB ⟨x,H,Y,ru,⟨rfl,λys hy=>by rw[I.ym hy D];show S⟩,q,λb j=>(B b j).1⟩⟩
 done:=by intro X N O M V i pins s σ H E I B st n;subst N O M;show ai n λxs D S=>?_;clear n;show bA (I.list D) λits U p hz=>?_;show fK (B it QD) λF f1 f2 G J L=>?_;have hl:=U.length;show wpAny_pyNext_list_end (I.ok.hd V) st p.isList (by simp;omega) λh' Z=>⟨rfl,I.turned (t':=s.toks) (λb o j e=>Z b o j e) F f1 G J L⟩
 self:=λ_ _ _ _ _ st h=>wpAny_pyIter_listiter st h
def WW{P:aE}{w:aC}{K:aw}{tg:Expr}(a it:ab):Turn P w K tg (rS K a) [it] it (λi h=>h.IsTupleIter it a i) where
 mem:=QD
 obj:=λi h st b j=>by
  have e:b=it:=by simpa using j
  subst e;show bA st λo e c d=>?_;clear st;show⟨o,e,λv z=>by rw[d]at z;cases z⟩
 keep:=λi h h' st k=>st.at λo e=>k it QD o e
 item:=by intro X N O M V i pins s σ H E I B st n;subst N O M;show eB n λxs x D S=>?_;clear n;show bA (I.tuple D) λits U p hz=>?_;show ai (U.get S) λu hu ru=>?_;show fK (B it QD) λF f1 f2 G J L=>?_;show wpAny_pyNext_tuple_item st (show s.heap.IsTuple a its.toArray from p) (x:=u) (by simpa using hu) λh' q sb=>?_;have Y:Inv X pins σ H {s with heap:=h'}:=I.turned (t':=s.toks) (λb o j e=>(sb.2 b j).trans e) F f1 G J L;show bA (id q) λo e c d=>?_;show⟨u,rfl,tj (s:={s with heap:=h'}) e c d QB ⟨x,H,Y,ru,⟨rfl,λys hy=>by rw[I.WN hy D];show S⟩,q,λb j=>(B b j).1⟩⟩
 done:=by intro X N O M V i pins s σ H E I B st n;subst N O M;show ai n λxs D S=>?_;clear n;show bA (I.tuple D) λits U p hz=>?_;show fK (B it QD) λF f1 f2 G J L=>?_;have hl:=U.length;show wpAny_pyNext_tuple_end (I.ok.hd V) st (show s.heap.IsTuple a its.toArray from p) (by simp;omega) λh' Z=>⟨rfl,I.turned (t':=s.toks) (λb o j e=>Z b o j e) F f1 G J L⟩
 self:=λ_ _ _ _ _ st h=>wpAny_pyIter_tupleiter st h
def WT{P:aE}{w:aC}{K:aw}{tg:Expr}(it:ab)(lo:Int)(n:Nat):Turn P w K tg (qg lo n) [it] it (λi h=>IsRangeIter h it (lo+(i:Nat)*1) ((n:Int)-(i:Nat)) 1) where
 mem:=QD
 obj:=λi h st b j=>by
  have e:b=it:=by simpa using j
  subst e;show⟨_,st,λv z=>by have z':Data.fields _=Data.cell v:=z;cases z'⟩
 keep:=λi h h' st k=>k it QD _ st
 item:=by intro X M S L N i pins s σ H E I B st O;subst M S L;show fK (B it QD) λD f1 f2 F G J=>?_;have W:=Walks.range (prog:=X.prog) (w:=X.w) (I.ok.hd N) it lo 1 n;show W.item i s _ _ O st λv h' tk Y q Z=>?_;obtain⟨t,rfl⟩:=Y;have U:Inv X pins σ H {s with heap:=h',toks:=tk}:=I.turned (λb o j e=>Z b o (by simpa using j) e) D f1 F G J;show⟨_,rfl,tj (s:={s with heap:=h',toks:=tk}) (n:="range_iterator") q rfl rfl QB ⟨.int (lo+i),H,U,⟨t,?_⟩,⟨rfl,rfl⟩,q,λb j=>(B b j).1⟩⟩;rw[Int.mul_one]
 done:=by intro X M S L N i pins s σ H E I B st O;subst M S L;show fK (B it QD) λD f1 f2 F G J=>?_;show wpAny_pyNext_range_end (I.ok.hd N) st (by have:n<=i:=O;omega) λh' V=>⟨rfl,I.turned (t':=s.toks) (λb o j e=>V b o j e) D f1 F G J⟩
 self:=λ_ _ _ _ _ st h=>wpAny_pyIter_rangeiter st h
end L2
namespace L2
open PySem PySem.Spec PyProof.Rows
section
variable {X:Cx}{tg:Expr}
def iC(K:aw)(tl:TE):TI:=λσ H R=>tl σ H λx H1=>∃a,x= .ref a/\(∃xs,aj K H1 a xs)/\R (jP K a) H1
def Bz(K:aw)(tl:TE):TI:=λσ H R=>tl σ H λx H1=>∃a,x= .ref a/\(∃xs,eV K H1 a xs)/\R (rS K a) H1
def rj{l:Expr}{tl:TE}(G:PE X l tl):PI X tg l (iC X.K tl):=by
 intro pins s σ H R I h;show br (G pins s σ H _ I h) λv z B=>bp B λx H1 n L D=>?_;show bA D λa e j q=>?_;clear D;obtain⟨xs,J⟩:=j;subst e;cases L;show bA (n.list J) λits M p B=>?_;show wO p.isList ?_;show⟨z.heap.objs.size,[z.heap.objs.size],_,_,H1,rfl,n.kept (t':=z.toks) λb o e=>ed _ e,WS a _,⟨_,fj _ rfl,rfl,rfl⟩,λb F=>?_,q⟩;have e:b=z.heap.objs.size:=by simpa using F
 subst e;show n.qQ (bo _) (n.aA.fresh (bo _))
def HW{l:Expr}{tl:TE}(G:PE X l tl):PI X tg l (Bz X.K tl):=by
 intro pins s σ H R I h;show br (G pins s σ H _ I h) λv n B=>bp B λx H1 z L D=>?_;show bA D λa e j q=>?_;clear D;obtain⟨xs,J⟩:=j;subst e;cases L;show bA (z.tuple J) λits M p B=>?_;show wpAny_pyIter_tuple (show n.heap.IsTuple a its.toArray from p) ?_;show⟨n.heap.objs.size,[n.heap.objs.size],_,_,H1,rfl,z.kept (t':=n.toks) λb o e=>ed _ e,WW a _,⟨_,fj _ rfl,rfl,rfl⟩,λb F=>?_,q⟩;have e:b=n.heap.objs.size:=by simpa using F
 subst e;show z.qQ (bo _) (z.aA.fresh (bo _))
def Tw{pins:List (ab×Obj)}{σ:St}{H:Hp}{s:ao}{R:It->Hp->Prop}{E:af->ao->Prop}{lo hi:Int}{t u v:Tok}{tk:Nat}(I:Inv X pins σ H s)(h1:-(2 ^ 62)<=lo)(h2:lo<2 ^ 62)(B:-(2 ^ 62)<=hi)(D:hi<2 ^ 62)
  (q:R (qg lo (hi-lo).toNat) H):aM (model X.prog X.w) X.A (pyIter (.ref s.heap.objs.size)) (xq X pins σ tg R) E {s with heap:=s.heap.push {cls:= .type "range",data:= .fields #[.int lo t,.int hi u,.int 1 v]},toks:=tk}:=by
 show wpAny_pyIter_range (IsRange.new ..) (small_one h1 h2 B D) ?_;have j:Inv X pins σ H {s with heap:=s.heap.push {cls:= .type "range",data:= .fields #[.int lo t,.int hi u,.int 1 v]},toks:=tk}:=I.kept λb o e=>ed _ e;show⟨(s.heap.push {cls:= .type "range",data:= .fields #[.int lo t,.int hi u,.int 1 v]}).objs.size,[(s.heap.push {cls:= .type "range",data:= .fields #[.int lo t,.int hi u,.int 1 v]}).objs.size],_,_,H,rfl,
  j.kept (t':=tk) λb o e=>ed _ e,WT _ lo (hi-lo).toNat,?_,λb F=>?_,q⟩
 .have n:lo+((0:Nat):Int)*1=lo:=QD;have z:(((hi-lo).toNat:Nat):Int)-((0:Nat):Int)=Builtin.Range.rangeSize lo hi 1:=by rw[rangeSize_one];split<;>omega
  show IsRangeIter _ _ (lo+((0:Nat):Int)*1) ((((hi-lo).toNat:Nat):Int)-((0:Nat):Int)) 1;rw[n,z];show fj _ rfl
 .have e:b=(s.heap.push {cls:= .type "range",data:= .fields #[.int lo t,.int hi u,.int 1 v]}).objs.size:=by simpa using F
  subst e;show j.qQ (bo _) (j.aA.fresh (bo _))
def yd(ta:TA):TI:=λσ H R=>ta σ H λn H1=>∃j:Int,n= [.int j]/\-(2 ^ 62)<=j/\j<2 ^ 62/\R (qg 0 j.toNat) H1
def Cf{a:Expr}{ta:TA}{p pos:Pos}(F:Gl X "range")(G:X.mg "range"=none)(D:PA X [a] ta)(J:dY [a] X.env= [(false,eval a X.env)]:=by rfl):PI X tg (.Call (.Name "range" p) [a] [] pos) (yd ta):=by
 intro pins s σ H R I h;show Call_ (qV I F G boot_range (xw (br (D pos pins s σ H _ I h) λU S L=>bp L λV H1 B N z=>?_) J rfl));revert z;intro n;show sV n λj e z M q=>?_;subst n e;cases N with
 |cons r O=>cases O;obtain⟨t,rfl⟩:=r;show call_range_1 (Tw B (by omega) (by omega) z M (by simpa using q))
def Wi(n:TI)(g:TG)(tb:TS):TS:=λD σ H=>n σ H λJ H1=>∃W:Nat->Nat->St->Hp->Prop,(∃m,W 0 m σ H1)/\∀i m σ H,W i m σ H->
 (J.stop i H/\D.nx σ H)\/(J.go i H/\∃N:St->Hp->Prop,(∀σ' H',N σ' H'->∃j,j<m/\W (i+1) j σ' H')/\∀x H',J.kM i H x H'->g x σ H' λσ2 H2=>tb {D with nx:=N,ct:=N,bk:=D.nx} σ2 H2)
def vX(j:List ab)(h:aH):List (ab×Obj):=j.filterMap λb=>(h.get? b).map λo=>(b,o)
def BO{j:List ab}{h:aH}{b:ab}{o:Obj}(n:b∈j)(e:h.get? b=some o):(b,o)∈vX j h:=qu.mpr ⟨b,n,by rw[e];rfl⟩
def Rw{j:List ab}{h:aH}{p:ab×Obj}(B:p∈vX j h):p.1∈j/\h.get? p.1=some p.2:=by
 show ai (qu.mp B) λb z e=>?_;cases q:h.get? b with
 |none=>rw[q]at e;cases e
 |some o=>rw[q]at e;have n:(b,o)=p:=df.inj e;subst n;show⟨z,q⟩
def Inv.pinned{pins:List (ab×Obj)}{σ:St}{H:Hp}{s:ao}{j:List ab}(I:Inv X pins σ H s)(D:∀b∈j,lR X pins H b)(F:∀b∈j,∃o,s.heap.get? b=some o/\∀v,o.data≠ .cell v):Inv X (pins++vX j s.heap) σ H s:=
 I.HY λp G=>(eA.mp G).elim (λz=>I.pin p (qt _ z)) λz=>by obtain⟨q,e⟩:=Rw z;show j0 (D p.1 q) λB f1 f2 _=>?_;show ai (F p.1 q) λo n d=>?_;rw[e]at n;cases n;show⟨e,B,f1,f2,d⟩
def Inv.zq{pins pl:List (ab×Obj)}{σ:St}{H:Hp}{s:ao}(I:Inv X (pins++pl) σ H s):Inv X pins σ H s:=I.HY λp j=>I.pin p (qt _ (Eb _ j))
def Td{G:Expr}{M:List aT}{wi:TI}{g:TG}{tb:TS}{pos:Pos}(hp:PassesOwn (model X.prog X.w) X.A X.env X.xe)(hc:X.calm=true)(hi:PI X tg G wi)(hg:PG X tg g)(z:iY X M tb)
  (hs:∀x,foldedSetIterable G X.env x=pure x:=by intro _;rfl):PS X (.For tg G M [] pos) (Wi wi g tb):=by
 intro pins s σ H D I h;show wpAny_For (br (hi pins s σ H _ I h) λv s1 h1=>br h1 λb1 s2 h2=>?_) hs;show e5_1 h2 λit Y tn J H2 O=>fK O λe I2 T b0 f2 B=>ai B λW U a3=>?_;clear O;clear B;clear h2;obtain⟨m0,w0⟩:=U;subst e
 -- what stays true of the iterator's objects through the loop
 have L:∀{H':Hp},(∀b∈Y,H' b=none)->∀b∈Y,lR X pins H' b:=λhn b z=>⟨hn b z,(f2 b z).2⟩;show codeAny_forLoop_any (λn s'=>∃i σ' H',Inv X pins σ' H' s'/\tn i s'.heap/\(∀b∈Y,H' b=none)/\W i n σ' H') ?_ m0 ⟨0,σ,H2,I2,b0,λb z=>(f2 b z).1,w0⟩;intro n s3 F;show iN F λi σ3 H3 I3 a0 Z w3=>?_;clear F;rcases a3 i n σ3 H3 w3 with⟨stop,qn⟩ | ⟨go,N,hN,step⟩
 .show uu hp (br (T.done X rfl rfl rfl hc i pins s3 σ3 H3 X.xe I3 (L Z) a0 stop) λr s4 ⟨hr,I4⟩=>?_);subst hr;show DP ⟨σ3,H3,I4,qn⟩
 .show uu hp (br (T.item X rfl rfl rfl hc i pins s3 σ3 H3 X.xe I3 (L Z) a0 go) λr s4 ⟨u,hr,h4⟩=>?_);subst hr;show uu hp (br h4 λ_ s5 hz=>ja hz λx H5 I5 r5 y5 V a5=>?_);have a4:=I5.pinned (L a5) (T.obj _ _ V);show uu hp (br (hg _ s5 σ3 H5 x u _ a4 r5 (step x H5 y5)) λ_ s6 hz=>eB hz λσ6 H6 I6 q6=>?_);show uu hp (br (z _ s6 σ6 H6 _ I6 q6) λf s7 S=>?_);have again:∀{σ7:St}{j:Hp},Inv X (pins++vX Y s5.heap) σ7 j s7->N σ7 j->∃m,m<n/\∃i σ' H',Inv X pins σ' H' s7/\tn i s7.heap/\(∀b∈Y,H' b=none)/\W i m σ' H':=λ{σ7 j} q n7=>by show ai (hN σ7 j n7) λm' hm w7=>?_;show⟨m',hm,i+1,σ7,j,q.zq,T.keep _ _ _ V λb z o e=>(q.pin (b,o) (qt _ (qt _ (BO z e)))).1,λb z=>?_,w7⟩;show ai (T.obj _ _ V b z) λo e d=>?_;show(q.pin (b,o) (qt _ (qt _ (BO z e)))).2.1
  cases f with
  |next=>obtain⟨σ7,j,q,n7⟩:=S;show again q n7
  |cont=>obtain⟨σ7,j,q,n7⟩:=S;show again q n7
  |brk=>obtain⟨σ7,j,q,S⟩:=S;show⟨σ7,j,q.zq,S⟩
  |ret v=>obtain⟨x7,σ7,j,q,r7,S⟩:=S;show⟨x7,σ7,j,q.zq,r7,S⟩
end
def PN{K:aw}{a:ab}{xs:List V}{g:TG}{tb:TS}{D:Ends}{σ:St}{H:Hp}(n:Nat->St->Hp->Prop)(G:n 0 σ H)(J:∀i σ H,i<=xs.length->n i σ H->aj K H a xs)
  (L:∀i x σ H,xs[i]? =some x->n i σ H->g x σ H λσ2 H2=>tb {D with nx:=n (i+1),ct:=n (i+1),bk:=D.nx} σ2 H2) (I:∀σ H,n xs.length σ H->D.nx σ H):
  ∃W:Nat->Nat->St->Hp->Prop,(∃m,W 0 m σ H)/\∀i m σ H,W i m σ H->
   ((jP K a).stop i H/\D.nx σ H)\/((jP K a).go i H/\∃N:St->Hp->Prop,(∀σ' H',N σ' H'->∃F,F<m/\W (i+1) F σ' H')/\∀x H',(jP K a).kM i H x H'->g x σ H' λσ2 H2=>tb {D with nx:=N,ct:=N,bk:=D.nx} σ2 H2):=by
 exists λi m σ H=>m=xs.length-i/\i<=xs.length/\n i σ H,⟨xs.length,QD,cT _,G⟩;intro i m σ H j;show cY j λz hi p=>?_;subst j z;have q:=J i σ H hi p;by_cases B:i<xs.length
 .show .inr ⟨⟨xs,xs[i],q,by simp[B]⟩,n (i+1),λσ' H' M=>⟨xs.length-(i+1),by omega,rfl,B,M⟩,λx H' y=>?_⟩;obtain⟨e,y⟩:=y;subst e;show L i x σ _ (y xs q) p
 .have e:i=xs.length:=by omega
  subst e;show .inl ⟨⟨xs,q,bo _⟩,I σ H p⟩
def PU{K:aw}{a:ab}{xs:List V}{g:TG}{tb:TS}{D:Ends}{σ:St}{H:Hp}(n:Nat->St->Hp->Prop)(G:n 0 σ H)(J:∀i σ H,i<=xs.length->n i σ H->eV K H a xs)
  (L:∀i x σ H,xs[i]? =some x->n i σ H->g x σ H λσ2 H2=>tb {D with nx:=n (i+1),ct:=n (i+1),bk:=D.nx} σ2 H2) (I:∀σ H,n xs.length σ H->D.nx σ H):
  ∃W:Nat->Nat->St->Hp->Prop,(∃m,W 0 m σ H)/\∀i m σ H,W i m σ H->
   ((rS K a).stop i H/\D.nx σ H)\/((rS K a).go i H/\∃N:St->Hp->Prop,(∀σ' H',N σ' H'->∃F,F<m/\W (i+1) F σ' H')/\∀x H',(rS K a).kM i H x H'->g x σ H' λσ2 H2=>tb {D with nx:=N,ct:=N,bk:=D.nx} σ2 H2):=by
 exists λi m σ H=>m=xs.length-i/\i<=xs.length/\n i σ H,⟨xs.length,QD,cT _,G⟩;intro i m σ H j;show cY j λz hi p=>?_;subst j z;have q:=J i σ H hi p;by_cases B:i<xs.length
 .show .inr ⟨⟨xs,xs[i],q,by simp[B]⟩,n (i+1),λσ' H' M=>⟨xs.length-(i+1),by omega,rfl,B,M⟩,λx H' y=>?_⟩;obtain⟨e,y⟩:=y;subst e;show L i x σ _ (y xs q) p
 .have e:i=xs.length:=by omega
  subst e;show .inl ⟨⟨xs,q,bo _⟩,I σ H p⟩
def PQ{lo:Int}{n:Nat}{g:TG}{tb:TS}{D:Ends}{σ:St}{H:Hp}(q:Nat->St->Hp->Prop)(G:q 0 σ H)
  (J:∀i σ H,i<n->q i σ H->g (.int (lo+i)) σ H λσ2 H2=>tb {D with nx:=q (i+1),ct:=q (i+1),bk:=D.nx} σ2 H2) (I:∀σ H,q n σ H->D.nx σ H):
  ∃W:Nat->Nat->St->Hp->Prop,(∃m,W 0 m σ H)/\∀i m σ H,W i m σ H->
   ((qg lo n).stop i H/\D.nx σ H)\/((qg lo n).go i H/\∃N:St->Hp->Prop,(∀σ' H',N σ' H'->∃F,F<m/\W (i+1) F σ' H')/\∀x H',(qg lo n).kM i H x H'->g x σ H' λσ2 H2=>tb {D with nx:=N,ct:=N,bk:=D.nx} σ2 H2):=by
 exists λi m σ H=>m=n-i/\i<=n/\q i σ H,⟨n,QD,cT _,G⟩;intro i m σ H j;show cY j λB hi p=>?_;subst j B;by_cases z:i<n
 .show .inr ⟨z,q (i+1),λσ' H' L=>⟨n-(i+1),by omega,rfl,z,L⟩,λx H' y=>?_⟩;obtain⟨e,y⟩:=y;subst e;subst y;show J i σ _ z p
 .have e:i=n:=by omega
  subst e;show .inl ⟨bo _,I σ H p⟩
end L2
namespace L2
open PySem PySem.Spec PyProof.Rows
abbrev R2:=V->V->Hp->VK->Prop
def eJ(X:Cx)(f:af->af->Sem af)(r:R2):Prop:=
 ∀(pins:List (ab×Obj))(s:ao)(σ:St)(H:Hp)(x y:V)(v u:af)(Q:VK),Inv X pins σ H s->RelV x v->RelV y u->r x y H Q->
  aM (model X.prog X.w) X.A (f v u) (EP X pins σ Q) X.xe s
def Ao(X:Cx)(f:af->Sem af)(r:V->Hp->VK->Prop):Prop:=
 ∀(pins:List (ab×Obj))(s:ao)(σ:St)(H:Hp)(x:V)(v:af)(Q:VK),Inv X pins σ H s->RelV x v->r x H Q->
  aM (model X.prog X.w) X.A (f v) (EP X pins σ Q) X.xe s
def gX(X:Cx)(f:af)(r:List V->Hp->VK->Prop):Prop:=
 ∀(pins:List (ab×Obj))(s:ao)(σ:St)(H:Hp)(xs:List V)(us:List af)(Q:VK),Inv X pins σ H s->Vals xs us->r xs H Q->
  aM (model X.prog X.w) X.A (call f us) (EP X pins σ Q) X.xe s
def a8(r:R2)(ta tb:TE):TE:=λσ H Q=>ta σ H λx H1=>tb σ H1 λy H2=>r x y H2 Q
def bQ(r:V->Hp->VK->Prop)(ta:TE):TE:=λσ H Q=>ta σ H λx H1=>r x H1 Q
def rI(C:Int->Int->Prop)(g:Int->Int->V):R2:=λx y H Q=>gn x λi=>gn y λj=>C i j/\Q (g i j) H
def bE(g:Int->Int->V):R2:=λx y H Q=>gn x λi=>gn y λj=>Q (g i j) H
def rU(g:Int->V):V->Hp->VK->Prop:=λx H Q=>gn x λi=>Q (g i) H
section
variable {X:Cx}{a b c:Expr}{ta tb tc:TE}{pos:Pos}
def AI(B:PE X a ta)(D:PE X b tb){pins:List (ab×Obj)}{s:ao}{σ:St}{H:Hp}{R:V->V->Hp->Prop}(I:Inv X pins σ H s)
  (h:ta σ H λx H1=>tb σ H1 λy H2=>R x y H2) {Q:af->ao->Prop}{f:af->af->Sem af}
  (F:∀v u j x y H2,Inv X pins σ H2 j->RelV x v->RelV y u->R x y H2->aM (model X.prog X.w) X.A (f v u) Q X.xe j):
  aM (model X.prog X.w) X.A (eval a X.env) (λv s₁=>aM (model X.prog X.w) X.A (eval b X.env) (λu s₂=>aM (model X.prog X.w) X.A (f v u) Q X.xe s₂) X.xe s₁) X.xe s:=by
 show br (B pins s σ H _ I h) λv N n=>bp n λx H1 q L G=>?_;show br (D pins N σ H1 _ q G) λu j n=>bp n λy H2 z M J=>?_;show F v u j x y H2 z L M J
def cU{j:Operator}{r:R2}(D:eJ X (binaryOp j) r)(z:PE X a ta)(B:PE X b tb):PE X (.BinOp a j b pos) (a8 r ta tb):=by intro pins s σ H Q I h;show wpAny_BinOp (AI z B I h λv u J x y H2 n F G q=>D pins J σ H2 x y v u Q n F G q)
def tQ{j:UnaryOp}{r:V->Hp->VK->Prop}(z:Ao X (unaryOp j) r)(q:PE X a ta):PE X (.UnaryOp j a pos) (bQ r ta):=by intro pins s σ H Q I h;show UnaryOp_ (br (q pins s σ H _ I h) λv G B=>bp B λx H1 n F D=>z pins G σ H1 x v Q n F D)
def Ht{f:af->af->Sem af}{C:Int->Int->Prop}{g:Int->Int->Int}
  (z:∀(i j:Int)(t u:Tok)(s:ao)(Q:af->ao->Prop)(E:af->ao->Prop),C i j->Q (.int (g i j) s.toks) {s with toks:=s.toks+1}->aM (model X.prog X.w) X.A (f (.int i t) (.int j u)) Q E s):
  eJ X f (rI C λi j=> .int (g i j)):=by
 intro pins s σ H x y v u Q I D F h;show ai (gn.ex h) λi n h'=>?_;subst n;show bA (gn.ex h') λj n B q=>?_;subst n;obtain⟨t,rfl⟩:=D;obtain⟨G,rfl⟩:=F;show z i j t G s _ _ B ⟨.int (g i j),H,I.tok _,⟨_,rfl⟩,q⟩
def Hu{f:af->af->Sem af}{g:Int->Int->Int}
  (z:∀(i j:Int)(t u:Tok)(s:ao)(Q:af->ao->Prop)(E:af->ao->Prop),Q (.int (g i j) s.toks) {s with toks:=s.toks+1}->aM (model X.prog X.w) X.A (f (.int i t) (.int j u)) Q E s):
  eJ X f (bE λi j=> .int (g i j)):=by
 intro pins s σ H x y v u Q I B D h;show ai (gn.ex h) λi n h'=>?_;subst n;show ai (gn.ex h') λj n q=>?_;subst n;obtain⟨t,rfl⟩:=B;obtain⟨F,rfl⟩:=D;show z i j t F s _ _ ⟨.int (g i j),H,I.tok _,⟨_,rfl⟩,q⟩
def yC{f:af->af->Sem af}{g:Int->Int->Bool}
  (z:∀(i j:Int)(t u:Tok)(s:ao)(Q:af->ao->Prop)(E:af->ao->Prop),Q (.bool (g i j)) s->aM (model X.prog X.w) X.A (f (.int i t) (.int j u)) Q E s):
  eJ X f (bE λi j=> .bl (g i j)):=by
 intro pins s σ H x y v u Q I B D h;show ai (gn.ex h) λi n h'=>?_;subst n;show ai (gn.ex h') λj n q=>?_;subst n;obtain⟨t,rfl⟩:=B;obtain⟨F,rfl⟩:=D;show z i j t F s _ _ ⟨.bl (g i j),H,I,rfl,q⟩
def Lc(i j:Int):Prop:=0<j/\j<1073741824
def rP(i j:Int):Prop:=(-(2 ^ 64)<i/\i<2 ^ 64)\/(-(2 ^ 64)<j/\j<2 ^ 64)
def rP.ok{i j:Int}(h:rP i j):IntMulOk i j:=by
 rcases h with⟨h1,h2⟩ | ⟨h1,h2⟩
 .show .of_left (intBits_le_64 h1 h2)
 .show .of_right (intBits_le_64 h1 h2)
def ik:eJ X (binaryOp .Add) (bE λi j=> .int (i+j)):=Hu λ_ _ _ _ _ _ _ q=>add_int q
def lF:eJ X (binaryOp .Sub) (bE λi j=> .int (i-j)):=Hu λ_ _ _ _ _ _ _ q=>sub_int q
def yD:eJ X (binaryOp .Mult) (rI rP λi j=> .int (i*j)):=Ht λ_ _ _ _ _ _ _ n q=>mul_int q n.ok
def Sj:eJ X (binaryOp .FloorDiv) (rI Lc λi j=> .int (i / j)):=Ht λi j _ _ _ _ _ n q=>by have h1:(0:Int)<j:=n.1;have h2:j<1073741824:=n.2;show floordiv_int (by omega) (by rw[Int.fdiv_eq_ediv_of_nonneg i (by omega)];show q) (.inl (Lr (by omega)))
def W2{f:af->Sem af}{g:Int->Int}
  (n:∀(i:Int)(t:Tok)(s:ao)(Q:af->ao->Prop)(E:af->ao->Prop),Q (.int (g i) s.toks) {s with toks:=s.toks+1}->aM (model X.prog X.w) X.A (f (.int i t)) Q E s):
  Ao X f (rU λi=> .int (g i)):=by
 intro pins s σ H x v Q I z h;show ai (gn.ex h) λi j q=>?_;subst j;obtain⟨t,rfl⟩:=z;show n i t s _ _ ⟨.int (g i),H,I.tok _,⟨_,rfl⟩,q⟩
def uj:Ao X (unaryOp .USub) (rU λi=> .int (-i)):=W2 λ_ _ _ _ _ q=>neg_int q
end
def ud:V->V->Bool
 |.a9,.a9=>true | .a9,.int _=>true | .int _,.a9=>true | .a9,.bl _=>true | .bl _,.a9=>true | .a9,.str _=>true | .str _,.a9=>true
 |.int _,.int _=>true | .bl _,.bl _=>true | .str _,.str _=>true | .jV _,.jV _=>true
 |.int _,.str _=>true | .str _,.int _=>true | .bl _,.str _=>true | .str _,.bl _=>true
 |_,_=>false
def Tj:R2:=λx y H Q=>ud x y=true/\Q (.bl (decide (x=y))) H
def Tr:R2:=λx y H Q=>ud x y=true/\Q (.bl (!decide (x=y))) H
def FK{i j:Int}:decide (V.int i=V.int j)=(i==j):=by rw[kN];simp
def FI{i j:Bool}:decide (V.bl i=V.bl j)=(i==j):=by rw[kN];simp
def FN{i j:Str}:decide (V.str i=V.str j)=(i==j):=by rw[kN];simp
def FJ{i j:Array UInt8}:decide (V.jV i=V.jV j)=(i.toList==j.toList):=by rw[kN];cases i;cases j;simp
section
variable {X:Cx}{a b c:Expr}{ta tb tc:TE}{pos:Pos}
def fi{pins:List (ab×Obj)}{σ:St}{H:Hp}{s:ao}{Q:VK}{k j:Bool}(I:Inv X pins σ H s)(q:Q (.bl k) H)(e:k=j):EP X pins σ Q (.bool j) s:=by subst e;show⟨.bl k,H,I,rfl,q⟩
def Sg:eJ X (fT .Eq) Tj:=by
 intro pins s σ H x y v u Q I D n h;obtain⟨B,q⟩:=h;cases x with
 |a9=>
  cases D;cases y with
  |a9=>cases n;show PySem.EqNone.eq_none_none (fi I q QD)
  |bl j=>cases n;show PySem.EqNone.eq_none_bool (fi I q QD)
  |int j=>obtain⟨z,rfl⟩:=n;show PySem.EqNone.eq_none_int (fi I q QD)
  |str j=>obtain⟨z,rfl⟩:=n;show PySem.EqNone.eq_none_str (fi I q QD)
  |_=>show absurd (show false=true from B) dP
 |bl i=>
  cases D;cases y with
  |a9=>cases n;show PySem.EqNone.eq_bool_none (fi I q QD)
  |bl j=>cases n;show eq_bool (fi I q FI)
  |str j=>obtain⟨z,rfl⟩:=n;show PySem.EqMixed.eq_bool_str (fi I q QD)
  |_=>show absurd (show false=true from B) dP
 |int i=>
  obtain⟨t,rfl⟩:=D;cases y with
  |a9=>cases n;show PySem.EqNone.eq_int_none (fi I q QD)
  |int j=>obtain⟨z,rfl⟩:=n;show eq_int (fi I q FK)
  |str j=>obtain⟨z,rfl⟩:=n;show PySem.EqMixed.eq_int_str (fi I q QD)
  |_=>show absurd (show false=true from B) dP
 |str i=>
  obtain⟨t,rfl⟩:=D;cases y with
  |a9=>cases n;show PySem.EqNone.eq_str_none (fi I q QD)
  |bl j=>cases n;show PySem.EqMixed.eq_str_bool (fi I q QD)
  |int j=>obtain⟨z,rfl⟩:=n;show PySem.EqMixed.eq_str_int (fi I q QD)
  |str j=>obtain⟨z,rfl⟩:=n;show eq_str (fi I q FN)
  |_=>show absurd (show false=true from B) dP
 |jV i=>
  obtain⟨t,rfl⟩:=D;cases y with
  |jV j=>obtain⟨z,rfl⟩:=n;show PySem.W.eq_bytes (fi I q FJ)
  |_=>show absurd (show false=true from B) dP
 |_=>cases y<;>show absurd (show false=true from B) dP
def Sm:eJ X (fT .NotEq) Tr:=by
 intro pins s σ H x y v u Q I D n h;obtain⟨B,q⟩:=h;cases x with
 |a9=>
  cases D;cases y with
  |a9=>cases n;show PySem.EqNone.ne_none_none (fi I q QD)
  |bl j=>cases n;show PySem.EqNone.ne_none_bool (fi I q QD)
  |int j=>obtain⟨z,rfl⟩:=n;show PySem.EqNone.ne_none_int (fi I q QD)
  |str j=>obtain⟨z,rfl⟩:=n;show PySem.EqNone.ne_none_str (fi I q QD)
  |_=>show absurd (show false=true from B) dP
 |bl i=>
  cases D;cases y with
  |a9=>cases n;show PySem.EqNone.ne_bool_none (fi I q QD)
  |bl j=>cases n;show ne_bool (fi I q (congrArg not FI))
  |str j=>obtain⟨z,rfl⟩:=n;show PySem.EqMixed.ne_bool_str (fi I q QD)
  |_=>show absurd (show false=true from B) dP
 |int i=>
  obtain⟨t,rfl⟩:=D;cases y with
  |a9=>cases n;show PySem.EqNone.ne_int_none (fi I q QD)
  |int j=>obtain⟨z,rfl⟩:=n;show ne_int (fi I q (congrArg not FK))
  |str j=>obtain⟨z,rfl⟩:=n;show PySem.EqMixed.ne_int_str (fi I q QD)
  |_=>show absurd (show false=true from B) dP
 |str i=>
  obtain⟨t,rfl⟩:=D;cases y with
  |a9=>cases n;show PySem.EqNone.ne_str_none (fi I q QD)
  |bl j=>cases n;show PySem.EqMixed.ne_str_bool (fi I q QD)
  |int j=>obtain⟨z,rfl⟩:=n;show PySem.EqMixed.ne_str_int (fi I q QD)
  |str j=>obtain⟨z,rfl⟩:=n;show ne_str (fi I q (congrArg not FN))
  |_=>show absurd (show false=true from B) dP
 |jV i=>
  obtain⟨t,rfl⟩:=D;cases y with
  |jV j=>obtain⟨z,rfl⟩:=n;show PySem.W.ne_bytes (fi I q (congrArg not FJ))
  |_=>show absurd (show false=true from B) dP
 |_=>cases y<;>show absurd (show false=true from B) dP
def pO:eJ X (fT .Lt) (bE λi j=> .bl (decide (i<j))):=yC λ_ _ _ _ _ _ _ q=>lt_int q
def fF:eJ X (fT .LtE) (bE λi j=> .bl (decide (i<=j))):=yC λ_ _ _ _ _ _ _ q=>le_int q
def vR:eJ X (fT .Gt) (bE λi j=> .bl (decide (j<i))):=yC λ_ _ _ _ _ _ _ q=>gt_int q
def Hv:eJ X (fT .GtE) (bE λi j=> .bl (decide (j<=i))):=yC λ_ _ _ _ _ _ _ q=>ge_int q
def pN:eJ X (fT .Is) (λx y H Q=>y= .a9/\Q (.bl (decide (x= .a9))) H):=by
 intro pins s σ H x y v u Q I j n h;obtain⟨rfl,q⟩:=h;cases n;show is_none_gen (fi I q ?_)
 cases x<;>first
  |(cases j;rfl)
  |(obtain⟨t,rfl⟩:=j;rfl)
def tN:eJ X (fT .IsNot) (λx y H Q=>y= .a9/\Q (.bl (!decide (x= .a9))) H):=by
 intro pins s σ H x y v u Q I j n h;obtain⟨rfl,q⟩:=h;cases n;show isnot_none_gen (fi I q ?_)
 cases x<;>first
  |(cases j;rfl)
  |(obtain⟨t,rfl⟩:=j;rfl)
def rh{j:CmpOp}{r:R2}(F:eJ X (fT j) r)(z:PE X a ta)(B:PE X b tb)(D:behindInMarks j b=false):PE X (.Compare a [j] [b] pos) (a8 r ta tb):=by intro pins s σ H Q I h;show wpAny_Compare1 (AI z B I h λv u L x y H2 n G J q=>F pins L σ H2 x y v u Q n G J q) D
def bI(t:TE):TT:=λσ H Q=>t σ H λx H'=>iQ x λk=>Q k H'
def cW{n:CmpOp}{r:R2}(N:eJ X (fT n) r)(J:PE X a ta)(L:PE X b tb)(M:behindInMarks n b=false):PT X (.Compare a [n] [b] pos) (bI (a8 r ta tb)):=by
 intro pins s σ H Q I h;show wpAny_isTrue_Compare1 (br (J pins s σ H _ I h) λv Y j=>bp j λx H1 D U O=>br (L pins Y σ H1 _ D O) λu Z ⟨y,H2,F,V,S⟩=>
  br (N pins Z σ H2 x y v u _ F U V S) λc s3 j=>bp j λz B G W q=>?_) M
 show ai (iQ.ex q) λk e q=>?_;subst e;cases W;show qc ⟨B,G,q⟩
def bW(r q:R2)(ta tb tc:TE):TE:=λσ H Q=>ta σ H λx H1=>tb σ H1 λy H2=>r x y H2 λz j=>iQ z λk=>
 (if k=true then tc σ j λB n=>q y B n Q else Q (.bl false) j)
def mF{D j:CmpOp}{r J:R2}(Z:eJ X (fT D) r)(B:eJ X (fT j) J)(U:PE X a ta)(V:PE X b tb)(W:PE X c tc)
  (Y:lastMarks [D,j] [b,c]=false:=by with_unfolding_all rfl):PE X (.Compare a [D,j] [b,c] pos) (bW r J ta tb tc):=by
 intro pins s σ H Q I h;show Compare_chain (br (U pins s σ H _ I h) λv s1 n=>bp n λx H1 N r1 q1=>chain_link (br (V pins s1 σ H1 _ N q1) λu s2 ⟨y,H2,O,L,q2⟩=>
  br (Z pins s2 σ H2 x y v u _ O r1 L q2) λd s3 n=>bp n λz F G r3 q=>?_)) Y
 show ai (iQ.ex q) λk e q=>?_;subst e;cases r3;show qc ?_;cases k with
 |false=>show ite_ff ⟨.bl false,F,G,rfl,q⟩
 |true=>show ite_tt (chain_last (br (W pins s3 σ F _ G q) λw' s4 n=>bp n λz' M S r4 q4=>B pins s4 σ M y z' u w' Q S L r4 q4))
def wa{D n:CmpOp}{r L:R2}(ho:eJ X (fT D) r)(B:eJ X (fT n) L)(Z:PE X a ta)(hb:PE X b tb)(hc:PE X c tc)
  (hm:lastMarks [D,n] [b,c]=false:=by with_unfolding_all rfl):PT X (.Compare a [D,n] [b,c] pos) (bI (bW r L ta tb tc)):=by
 intro pins s σ H Q I h;show isTrue_chain (br (Z pins s σ H _ I h) λv s1 j=>bp j λx H1 S r1 q1=>test_link (br (hb pins s1 σ H1 _ S q1) λu s2 ⟨y,H2,U,M,q2⟩=>
  br (ho pins s2 σ H2 x y v u _ U r1 M q2) λd s3 j=>bp j λz G J r3 q=>?_)) hm
 show ai (iQ.ex q) λk e q=>?_;subst e;cases r3;show qc ?_;cases k with
 |false=>show ite_ff ⟨G,J,q⟩
 |true=>show ite_tt (test_last (br (hc pins s3 σ G _ J q) λw' s4 j=>bp j λz' N V r4 q4=>br (B pins s4 σ N y z' u w' _ V M r4 q4) λd' s5 j=>bp j λz2 O W r5 F=>?_));show ai (iQ.ex F) λk2 Y F=>?_;subst Y;cases r5;show qc ⟨O,W,F⟩
def yk:(dc:Nat)<2 ^ 63:=by rw[aQ];decide
def vals1{x:V}{us:List af}(r:Vals [x] us):∃u,us= [u]/\RelV x u:=by
 cases r with
 |cons j n=>cases n;show⟨_,rfl,j⟩
def vals2{x y:V}{us:List af}(r:Vals [x,y] us):∃u j,us= [u,j]/\RelV x u/\RelV y j:=by
 cases r with
 |cons n q=>
  cases q with
  |cons z B=>cases B;show⟨_,_,rfl,n,z⟩
def Fo(F:X.calm=true):gX X (.builtin "max") (λxs H Q=>∃i j,xs= [.int i,.int j]/\Q (.int (if j>i then j else i)) H):=by
 intro pins s σ H xs J Q I r h;show eB h λi j n q=>?_;subst h n;show bp (vals2 r) λu L n z B=>?_;subst n;obtain⟨t,rfl⟩:=z;obtain⟨G,rfl⟩:=B;show max_two_ints (I.ok.hd F) λh' tk k=>⟨_,H,I.kept k,?_,q⟩;by_cases D:j>i
 .rw[QG D,QG D];show⟨_,rfl⟩
 .rw[QH D,QH D];show⟨_,rfl⟩
def MS:gX X (.type "str") (λxs H Q=>∃i,xs= [.int i]/\i.natAbs.log2<1920/\Q (.str (toString i)) H):=by intro pins s σ H xs D Q I r h;show bA h λi n B q=>?_;subst h n;show ai (vals1 r) λu n j=>jC j λt z=>?_;subst j n;subst z;show PySem.P.str_of_int B ⟨.str _,H,I.tok _,⟨_,rfl⟩,q⟩
def MR:gX X (.builtin "ord") (λxs H Q=>∃x,xs= [.str x]/\x.length=1/\Q (.int (x.cps.getD 0 0:Nat)) H):=by intro pins s σ H xs D Q I r h;show bA h λx n B q=>?_;subst h n;show ai (vals1 r) λu n j=>jC j λt z=>?_;subst j n;subst z;show ord_of_one B ⟨.int _,H,I.tok _,⟨_,rfl⟩,q⟩
def zM(K:aw)(x:V)(H:Hp)(n:Nat):Prop:=
 match x with
 |.str y=>y.length<=dc/\n=y.length
 |.jV y=>y.size<=dc/\n=y.size
 |.ref p=>(∃xs,aj K H p xs/\n=xs.length)\/∃xs,eV K H p xs/\n=xs.length
 |_=>False
def MP:gX X (.builtin "len") (λxs H Q=>∃x n,xs= [x]/\zM X.K x H n/\Q (.int n) H):=by
 intro pins s σ H xs U Q I r h;show bp h λx n D e q=>?_;subst h D;show ai (vals1 r) λu B L=>?_;subst B;have O:=yk;have S:dc=16777216:=aQ;cases x with
 |str y=>obtain⟨t,rfl⟩:=L;obtain⟨M,z⟩:y.length<=dc/\n=y.length:=e;subst z;show len_str (by omega) ⟨.int _,H,I.tok _,⟨_,rfl⟩,q⟩
 |jV y=>obtain⟨t,rfl⟩:=L;obtain⟨M,z⟩:y.size<=dc/\n=y.size:=e;subst z;show PySem.W.len_bytes (by omega) ⟨.int _,H,I.tok _,⟨_,rfl⟩,q⟩
 |ref p=>
  cases L;have z:(∃xs,aj X.K H p xs/\n=xs.length)\/∃xs,eV X.K H p xs/\n=xs.length:=e;rcases z with⟨xs,F,z⟩ | ⟨xs,F,z⟩
  .subst z;show bA (I.list F) λits J G N=>?_;have j:=J.length;show Calls.call_len_list G.isList (by simp only[fg];omega) ⟨.int xs.length,H,I.tok _,⟨_,by simp only[fg];rw[j]⟩,q⟩
  .subst z;show bA (I.tuple F) λits J G N=>?_;have j:=J.length;show len_tuple G (by simp only[fg];omega) ⟨.int xs.length,H,I.tok _,⟨_,by simp only[fg];rw[j]⟩,q⟩
 |_=>show(show False from e).elim
end
end L2
namespace L2
open PySem PySem.Spec PyProof.Rows
structure sk(h:aH)(x dx C:ab)(mA:Str->Option af):Prop where
 obj:h.get? x=some (qA C dx)
 ns:h.Ns1 dx mA
 ne:dx≠x
def Q2{h:aH}{dx:ab}{mA:Str->Option af}(n:h.Ns1 dx mA):∃B,h.get? dx=some B/\∀name,Ez name B=some (mA name):=by
 show jE n λo es ep I hd F _ G=>?_;clear n;show⟨o,I,λname=>?_⟩;have e:=G name;unfold nsFind findBy at e;rw[<-Array.find?_toList]at e;unfold Ez;rw[hd];dsimp only;split
 .rename_i y q;rw[q]at e;show congrArg some e
 .rename_i q;rw[q]at e;have a:es.toList.any (·.refKey)=false:=by rw[List.any_eq_false];intro y J;show ic (F y (Array.mem_toList_iff.mp J)) λz t j=>?_;simp[DictEntry.refKey,j]
  have D:¬es.toList.any (·.refKey)=true:=by rw[a];show dP
  rw[QH D];show congrArg some e
def sk.look{h:aH}{x dx C:ab}{mA:Str->Option af}(I:sk h x dx C mA):∃j,PySem.W.InstAt h x (qA C dx) C (some j)/\∀name,Ez name j=some (mA name):=
 let⟨j,q,n⟩:=Q2 I.ns
 ⟨j,⟨I.obj,rfl,rfl,q⟩,n⟩
section
variable {prog:aE}{w:aC}{A:dj}{E:af->ao->Prop}{s:ao}{K:aw}{x dx C f:ab}{mA:Str->Option af}{name:Str}{v:af}
def get_map{j:Bool}{Q:af->ao->Prop}(X:K.In s.heap)(I:sk s.heap x dx C mA)(z:EB K C name=true)(B:Ey K C=true)
  (q:sv K (.ref C) name=some none) (F:mA name=some v) (n:PySem.W.handedIn v=true) (h:Q v {s with toks:=s.toks+1}):
  aM (model prog w) A (getAttr (.ref x) name j) Q E s:=by
 show ai I.look λG J D=>?_;show PySem.W.get_value X J (PySem.W.plainGet_of z).1 (PySem.W.findObj_own B q rfl (by rw[D,F])) n h
def UH{ns:List Str}{Q:Unit->ao->Prop}(X:K.In s.heap)(I:sk s.heap x dx C mA)
  (O:sv K (.ref C) "__setattr__"=some (some (.builtin "object.__setattr__"))) (N:PySem.W.plainOver K C=true) (S:EC K C name=some none) (M:Ey K C=true)
  (U:ED mA ns) (hsz:ns.length<=dc)
  (h:∀h',sk h' x dx C (λy=>if y=name then some v else mA y)->mO dx s.heap h'->Q () {s with heap:=h',toks:=s.toks+2}):
  aM (model prog w) A (setAttr (.ref x) name v) Q E s:=by
 show ai I.look λod J Z=>?_;show PySem.W.set_plain X J O (PySem.W.osa_open (s:={s with toks:=s.toks+1}) (r:=none) X J N S λb=>?_);show ai (PySem.W.any_some M) λY L z=>?_;have V:s.heap.get? x=some ⟨.ref C,some dx,.plain,#[]⟩:=I.obj;show aN (bD (aN (aN (wpAny_loadPart V (aN (PySem.W.Looks.here (s:={s with toks:=s.toks+1}) (PySem.W.looks_clsIn X L) ?_))))));rw[z];show bD (a:=some dx) (aN (bD (aN ?_)));show wpAny_nsSet1 (s:={s with toks:=s.toks+1}) I.ns λh' j n=>?_;show gJ (j.count (ED.cons name v U)) λoD G F D B q=>?_;show aN (wpAny_lookBehind D (by rw[B];show pastItsLine_dict (dE q (by rw[aG];omega))) ?_);show bD (h _ ⟨(n.2 _ (Ne.symm I.ne)).trans I.obj,j,I.ne⟩ n)
def Q5{R:Result->ao->Prop}{vs:List af}{j:List (Str×af)}(X:K.In s.heap)(q:PySem.W.makesIn K C=true)
  (hi:sv K (.ref C) "__init__"=some (some (.ref f))) (n:PySem.W.typeIn K (.ref f)=some (.type "function"))
  (h:codeAny (model prog w) (A.under (.builtin "type.__call__" ⟨.ref C::vs,j⟩)) (.call (.ref f) ⟨.ref (s.heap.objs.size+1)::vs,j⟩) (PySem.W.InitBack (s.heap.objs.size+1) R)
   {s with heap:=(s.heap.push oZ).push (qA C s.heap.objs.size)}):
  codeAny (model prog w) A (.call (.ref C) ⟨vs,j⟩) R s:=by
 obtain⟨z,g,d,t,os⟩:=s;show PySem.W.make_core (PySem.W.makes_of X q) (PySem.W.looks_findIn X hi) (λself=>PySem.W.bind_fn X self n) (.inl rfl) h
end
def eE(f:Str)(v:V):List (Str×V)->List (Str×V)
 |[]=> [(f,v)]
 |(g,x)::r=>if g=f then(g,v)::r else(g,x)::eE f v r
def GZ(f g:Str)(v:V):∀fs:List (Str×V),(eE f v fs).lookup g=if g=f then some v else fs.lookup g
 |[]=>by
  show qp g [(f,v)]=_;by_cases h:g=f
  .have j:(g==f)=true:=beq_iff_eq.mpr h;simp only[qp,j,QG h]
  .have j:(g==f)=false:=beq_eq_false_iff_ne.mpr h;simp only[qp,j,QH h]
 |(k,x)::r=>by
  have q:=GZ f g v r;rw[show eE f v ((k,x)::r)=(if k=f then(k,v)::r else(k,x)::eE f v r)from rfl];by_cases n:k=f
  .rw[QG n];by_cases h:g=k
   .have j:(g==k)=true:=beq_iff_eq.mpr h;simp only[qp,j,QG (h.trans n)]
   .have j:(g==k)=false:=beq_eq_false_iff_ne.mpr h;simp only[qp,j,QH (λe:g=f=>h (e.trans n.symm))]
  .rw[QH n];by_cases h:g=k
   .have j:(g==k)=true:=beq_iff_eq.mpr h;simp only[qp,j,QH (λe:g=f=>n (h.symm.trans e))]
   .have j:(g==k)=false:=beq_eq_false_iff_ne.mpr h;simp only[qp,j];show q
def BC(f:Str)(v:V):∀fs:List (Str×V),f∈(eE f v fs).map (·.1)/\∀g,g∈fs.map (·.1)->g∈(eE f v fs).map (·.1)
 |[]=>⟨by simp[eE],λg h=>by simp at h⟩
 |(k,x)::r=>by
  obtain⟨i1,n⟩:=BC f v r;rw[show eE f v ((k,x)::r)=(if k=f then(k,v)::r else(k,x)::eE f v r)from rfl];by_cases j:k=f
  .rw[QG j];subst j;show⟨QD,λg h=>by simpa using h⟩
  .rw[QH j];show⟨?_,λg h=>?_⟩
   .rw[eD];show du _ i1
   .rw[eD]at h ⊢;rcases bG.mp h with e | e
    .show bG.mpr (.inl e)
    .show du _ (n g e)
def GV(f:Str)(v:V):∀fs:List (Str×V),(eE f v fs).length<=fs.length+1
 |[]=>by simp[eE]
 |(k,x)::r=>by
  have n:=GV f v r;rw[show eE f v ((k,x)::r)=(if k=f then(k,v)::r else(k,x)::eE f v r)from rfl];by_cases j:k=f
  .rw[QG j,aG,aG];omega
  .rw[QH j,aG,aG];omega
def ji.some_of{v:V}{o:Option af}(r:ji (some v) o):∃u,o=some u/\RelV v u:=by
 cases o with
 |none=>show(show False from r).elim
 |some u=>show⟨u,rfl,r⟩
def P0{v:V}{u:af}(r:RelV v u):PySem.W.handedIn u=true:=by
 cases v with
 |a9=>cases(show u=Value.none from r);rfl
 |bl b=>cases(show u=Value.bool b from r);rfl
 |int i=>obtain⟨t,e⟩:=(show ∃t,u=Value.int i t from r);cases e;rfl
 |str x=>obtain⟨t,e⟩:=(show ∃t,u=Value.str x t from r);cases e;rfl
 |jV b=>obtain⟨t,e⟩:=(show ∃t,u=Value.bytes b t from r);cases e;rfl
 |x5 b=>obtain⟨t,e⟩:=(show ∃t,u=Value.float b t from r);cases e;rfl
 |ref a=>cases(show u=Value.ref a from r);rfl
 |ty n=>cases(show u=Value.type n from r);rfl
section
variable {P:aE}{w:aC}{H H':Hp}{h h':aH}{a C dx:ab}{fs fs':List (Str×V)}
def GC(B:fB P w H h)(e:H a=some (.ins C dx fs)):∃mA,sk h a dx C mA/\(∀f,ji (fs.lookup f) (mA f))/\ED mA (fs.map (·.1))/\fs.length<=1000/\H dx=some (.own a):=by show i8 ((show fC P w H h a (.ins C dx fs)from B a _ e)) λd z ne D j=>bA j λmA n r q=>?_;clear j;show⟨mA,⟨D,n,ne⟩,r,q,z,d⟩
end
structure ke(K:aw)(C:ab):Prop where
 pg:EB K C Str.empty=true
 hd:Ey K C=true
 po:PySem.W.plainOver K C=true
 sa:sv K (.ref C) "__setattr__"=some (some (.builtin "object.__setattr__"))
def ke.get{K:aw}{C:ab}(c:ke K C)(f:Str):EB K C f=true:=c.pg
def gZ(K:aw)(C:ab)(f:Str):Prop:=sv K (.ref C) f=some none
def gZ.Wr{K:aw}{C:ab}{f:Str}(n:gZ K C f):EC K C f=some none:=by unfold EC;rw[show sv K (.ref C) f=some none from n];rfl
section
variable {X:Cx}{pins:List (ab×Obj)}{σ:St}{H:Hp}{s:ao}{a C dx:ab}{fs:List (Str×V)}{f:Str}{v:V}{A:dj}{E:af->ao->Prop}
def PY{b:Bool}{Q:af->ao->Prop}(I:Inv X pins σ H s)(e:H a=some (.ins C dx fs))(c:ke X.K C)(n:gZ X.K C f)(l:fs.lookup f=some v)
  (h:∀u s',Inv X pins σ H s'->RelV v u->Q u s'):aM (model X.prog X.w) A (getAttr (.ref a) f b) Q E s:=by
 show sW (GC I.aA e) λmA O r _ _ _=>?_;obtain⟨u,q,j⟩:=ji.some_of (v:=v) (o:=mA f) (by rw[<-l];show r f);show get_map I.j5 O (c.get f) c.hd n q (P0 j) (h u _ (I.tok _) j)
def UJ{y:V}{u:af}{Q:Unit->ao->Prop}(I:Inv X pins σ H s)(e:H a=some (.ins C dx fs))(c:ke X.K C)(n:gZ X.K C f)(S:fs.length<1000)(M:RelV y u)
  (h:∀s',Inv X pins σ (upd H a (.ins C dx (eE f y fs))) s'->Q () s'):aM (model X.prog X.w) A (setAttr (.ref a) f u) Q E s:=by
 show sW (GC I.aA e) λmA O r D _ B=>?_;have L:(fs.map (·.1)).length<=dc:=by rw[ay,aQ];omega
 show UH I.j5 O c.sa c.po n.Wr c.hd D L λh' j N=>h _ ?_;have hd:∃o,h'.get? dx=some o:=let⟨o,_,_,F,_⟩:=j.ns;⟨o,F⟩;show I.write (x:=a) (e:=dx) (by rw[e];show True.intro) (.inr B) (λb q G z=>(N.2 b G).trans z) hd ?_;show⟨by rw[az O.ne];show B,?_,O.ne,j.obj,_,j.ns,λg=>?_,λg J=>?_⟩
 .have:=GV f y fs;omega
 .show ji ((eE f y fs).lookup g) (if g=f then some u else mA g);rw[GZ];by_cases q:g=f
  .rw[QG q,QG q];show M
  .rw[QH q,QH q];show r g
 .by_cases q:g=f
  .rw[q];show(BC f y fs).1
  .show(BC f y fs).2 g (D g λz=>J ?_);show(if g=f then some u else mA g)=none;rw[QH q];show z
def Inv.made(I:Inv X pins σ H s):Inv X pins σ (upd (upd H s.heap.objs.size (.own (s.heap.objs.size+1))) (s.heap.objs.size+1) (.ins C s.heap.objs.size []))
  {s with heap:=(s.heap.push oZ).push (qA C s.heap.objs.size)}:=by
 have j:(s.heap.push oZ).get? s.heap.objs.size=some oZ:=fj s.heap rfl;have z:((s.heap.push oZ).push (qA C s.heap.objs.size)).get? (s.heap.objs.size+1)=some (qA C s.heap.objs.size):=by have:=fj (s.heap.push oZ) (o:=qA C s.heap.objs.size) rfl;rwa[iH]at this
 have B:(s.heap.push oZ).Ns s.heap.objs.size (λ_=>none):=⟨oZ,#[],_,j,rfl,(λe D=>absurd D QD),λ_=>rfl⟩;have n:=I.laid (a:=s.heap.objs.size) (o:= .own (s.heap.objs.size+1)) (h':=s.heap.push oZ) (t':=s.toks) (λb u q=>ed _ q) (bo _) ⟨_,j⟩;show n.laid (a:=s.heap.objs.size+1) (o:= .ins C s.heap.objs.size []) (t':=s.toks) (λb u q=>ed _ q) (Aa (iH _ _)) ?_;have ne:s.heap.objs.size≠s.heap.objs.size+1:=eU (kW _);show⟨by rw[az ne,ar],cT _,ne,z,λ_=>none,(Heap.Ns1.of_empty B).at λo q=>ed _ q,λ_=>True.intro,λy F=>absurd rfl F⟩
def LY{prog:aE}{w:aC}{env:Env}{e:Expr}{f:Str}{pos:Pos}{s:ao}{Q:af->ao->Prop}(j:attributeBase e f env (eval e env)=eval e env)
  (h:aM (model prog w) A (eval e env) (λo s₁=>aM (model prog w) A (getAttr o f true) Q E s₁) E s):aM (model prog w) A (eval (.Attribute e f pos) env) Q E s:=
 Attribute_any_ h (by rw[arm_eval_Attribute,j])
end
def gb(K:aw)(ta:TE)(f:Str):TE:=λσ H Q=>ta σ H λx H1=>∃a C dx fs v,x= .ref a/\H1 a=some (.ins C dx fs)/\ke K C/\gZ K C f/\fs.lookup f=some v/\Q v H1
def bU(K:aw)(ta tv:TE)(f:Str):TS:=λD σ H=>tv σ H λy H1=>ta σ H1 λx H2=>mB x λa=>∃C dx fs,H2 a=some (.ins C dx fs)/\ke K C/\gZ K C f/\fs.length<1000/\
 D.nx σ (upd H2 a (.ins C dx (eE f y fs)))
section
variable {X:Cx}{o e value:Expr}{f:Str}{pos pos' tpos:Pos}{ta tv:TE}
def tO(F:PE X e ta)(D:attributeBase e f X.env (eval e X.env)=eval e X.env):PE X (.Attribute e f pos) (gb X.K ta f):=by intro pins s σ H Q I h;show LY D (br (F pins s σ H _ I h) λu L ⟨x,H1,j,J,a,C,dx,fs,v,ex,B,c,n,l,q⟩=>?_);subst ex;obtain rfl:u=Value.ref a:=J;show PY j B c n l λN M z G=>⟨v,H1,z,G,q⟩
def gq(L:PE X o ta)(N:PE X value tv)(M:swapsWith value (some (.Attribute o f pos')) pos.line X.env=pure false):PS X (.Assign [.Attribute o f pos'] value pos) (bU X.K ta tv f):=by intro pins s σ H D I h;show plainObj_wpAny_Assign_Attribute (br (N pins s σ H _ I h) λu Y z=>bp z λy H1 B W q=>br (L pins Y σ H1 _ B q) λO Z z=>bp z λx H2 F V S=>?_) M;show ai (mB.ex S) λa ex j=>jE j λC dx fs J c n l U=>?_;subst j ex;obtain rfl:O=Value.ref a:=V;show UJ F J c n l W λs3 G=>⟨σ,_,G,U⟩
end
section
variable {X:Cx}{pins:List (ab×Obj)}{σ:St}{H:Hp}{s:ao}{A:dj}{E:af->ao->Prop}{Q:af->ao->Prop}{c:af}{b:Bool}
end
end L2
namespace L2
open PySem PySem.Spec PyProof.Rows
structure fD(k:Nat)(A:dj):Prop where
 hd:A.handled=none
 dp:A.depth+3*k+5<recursionLimit
 un:A.units+16*k+200<cLine
def fD.mono{j k:Nat}{A:dj}(r:fD k A)(h:j<=k):fD j A:=⟨r.hd,by have:=r.dp;omega,by have:=r.un;omega⟩
def fD.deeper{k:Nat}{A:dj}(r:fD (k+1) A)(env:Env):fD k (A.deeper env):=
 ⟨r.hd,by have:=r.dp;show A.depth+1+3*k+5<_;omega,by have:=r.un;show A.units+3+16*k+200<_;omega⟩
def Q4{A:dj}{C:ab}{us:List af}{j:List (Str×af)}:(A.under (.builtin "type.__call__" ⟨.ref C::us,j⟩)).depth=A.depth+1:=by
 first | rfl | simp[Around.under,Code.weight,Code.isCreation,Code.isGuard,Code.isCaller,Code.frames,Code.isFrame,guardIds]
def Q6{A:dj}{C:ab}{us:List af}{j:List (Str×af)}:(A.under (.builtin "type.__call__" ⟨.ref C::us,j⟩)).units=A.units+1:=by
 first | rfl | simp[Around.under,Code.cUnits,Code.frames,Code.isFrame]
def fD.make{k:Nat}{A:dj}(r:fD (k+1) A)(C:ab)(us:List af)(j:List (Str×af)):fD k (A.under (.builtin "type.__call__" ⟨.ref C::us,j⟩)):=
 ⟨r.hd,by have:=r.dp;rw[Q4];omega,by have:=r.un;rw[Q6];omega⟩
def fD.depth{k:Nat}{A:dj}(r:fD k A):A.depth<recursionLimit:=by have:=r.dp;omega
def fD.units{k:Nat}{A:dj}(r:fD k A):A.units+64<cLine:=by have:=r.un;omega
def aR:TA:=λ_ H Q=>Q [] H
def aL(ta:TE)(j:TA):TA:=λσ H Q=>ta σ H λx H1=>j σ H1 λxs H2=>Q (x::xs) H2
section
variable {X:Cx}{e:Expr}{es:List Expr}{te:TE}{t:TA}{pos:Pos}
def ag:PA X [] aR:=λ_ _ _ _ H Q I h=>Calls.spliced_nil ⟨[],H,I,.nil,h⟩
def ae(z:PE X e te)(B:PA X es t)(D:dY (e::es) X.env=(false,eval e X.env)::dY es X.env:=by rfl):PA X (e::es) (aL te t):=by intro pos pins s σ H Q I h;rw[D];show aM _ _ (spliced ((false,eval e X.env)::backTo pos (dY es X.env))) _ _ s;show Calls.spliced_cons (br (z pins s σ H _ I h) λu M j=>bp j λx H1 n J F=>?_);show br (B pos pins M σ H1 _ n F) λO N j=>bp j λxs H2 q L G=>⟨x::xs,H2,q,.cons J L,G⟩
def b6(t:TA):TE:=λσ H Q=>t σ H λxs H1=>xs.length<=dc/\∀p,H1 p=none->Q (.ref p) (upd H1 p (.tup xs))
def bw(t:TA):TE:=λσ H Q=>t σ H λxs H1=>xs.length<=dc/\∀p,H1 p=none->Q (.ref p) (upd H1 p (.lst xs))
def pS{x1}(h:PA X es t):PE X (.Tuple es x1 pos) (b6 t):=by intro pins s σ H Q I D;show wpAny_Tuple_spliced (br (h pos pins s σ H _ I D) λG j F=>fO F λxs H1 n r z q=>⟨by rw[<-r.length];show z,?_⟩);have B:H1 j.heap.objs.size=none:=n.aA.fresh (bo _);show⟨.ref j.heap.objs.size,upd H1 j.heap.objs.size (.tup xs),n.laid (t':=j.toks) (λb u e=>ed _ e) (bo _) ?_,rfl,q _ B⟩;show⟨z,G,r,⟨_,fj _ rfl,rfl,_,rfl⟩⟩
def bt(h:PA X es t):PE X (.List es pos) (bw t):=by intro pins s σ H Q I D;show wpAny_List_spliced (br (h pos pins s σ H _ I D) λG j F=>fO F λxs H1 n r z q=>⟨by rw[<-r.length];show z,?_⟩);have B:H1 j.heap.objs.size=none:=n.aA.fresh (bo _);show⟨.ref j.heap.objs.size,upd H1 j.heap.objs.size (.lst xs),n.laid (t':=j.toks) (λb u e=>ed _ e) (bo _) ?_,rfl,q _ B⟩;show⟨z,G,0,r,fj _ rfl⟩
end
abbrev Sp:=List V->Hp->VK->XK->Prop
abbrev mL:=List Env->Hp->ao->XK->af->ao->Prop
structure qd(P:aE)(w:aC)(K:aw)(mg:Str->Option af)(base:aH)(A:dj)(outer:List Env)(s:ao)(H:Hp):Prop where
 frames:A.frames=some outer
 mod:Mod K mg base
 bs:∀b o,base.get? b=some o->s.heap.get? b=some o/\H b=none
 nS:base.objs.size<=s.heap.objs.size
 lD:s.heap.FunFrames base outer
 qR:∀b∈mn outer,H b=none
 aA:fB P w H s.heap
 bare:AllBare s.gens
def CE(j:List Env)(P:aE)(w:aC)(H:Hp)(s:ao)(Q:VK)(u:af)(s':ao):Prop:=
 ∃v H',s'.os=s.os/\AllBare s'.gens/\Un (mn j) [] H H' s.heap s'.heap/\fB P w H' s'.heap/\RelV v u/\Q v H'
def CR(CX:mL)(j:List Env)(P:aE)(w:aC)(H:Hp)(s:ao)(Q:VK)(E:XK)(r:Result)(s':ao):Prop:=
 match r with
 |.ok (.ret u)=>CE j P w H s Q u s'
 |.ok _=>False
 |.error e=>CX j H s E e s'
structure jw(P:aE)(w:aC)(K:aw)(mg:Str->Option af)(base:aH)(CX:mL)(k:Nat)(f:ab)(fd:mN)(ps:List Str)(sp:Sp):Prop where
 len:∀vs H Q E,sp vs H Q E->vs.length=ps.length
 run:∀(A:dj)(outer:List Env)(s:ao)(H:Hp)(args:Args)(us:List af)(vs:List V)(Q:VK)(E:XK),fD k A->qd P w K mg base A outer s H->BindsTo s fd args (ps.zip us)->Vals vs us->sp vs H Q E->
  codeAny (model P w) A (.call (.ref f) args) (CR CX outer P w H s Q E) s
def jw.mono{P:aE}{w:aC}{K:aw}{mg:Str->Option af}{base:aH}{CX:mL}{j k:Nat}{f:ab}{fd:mN}{ps:List Str}{sp:Sp}(F:jw P w K mg base CX j f fd ps sp)(h:j<=k):
  jw P w K mg base CX k f fd ps sp:=⟨F.len,λA n s H args z B Q E q=>F.run A n s H args z B Q E (q.mono h)⟩
def qd.make{P:aE}{w:aC}{K:aw}{mg:Str->Option af}{base:aH}{A:dj}{j:List Env}{s:ao}{H:Hp}(e:qd P w K mg base A j s H)(C:ab)(us:List af)(n:List (Str×af)):
  qd P w K mg base (A.under (.builtin "type.__call__" ⟨.ref C::us,n⟩)) j s H:=⟨by first | show e.frames | (simpa[Around.under,Code.envs,Code.isFrame,pushEnvs]using e.frames),e.mod,e.bs,e.nS,e.lD,e.qR,e.aA,e.bare⟩
section
variable {X:Cx}{pins:List (ab×Obj)}{σ:St}{H:Hp}{s s':ao}
def Inv.F1(I:Inv X pins σ H s):qd X.prog X.w X.K X.mg X.base X.A X.stack s H:=
 ⟨I.ok.frames,I.ok.mod,I.bs,dE I.ok.nS I.sz,I.stack,I.Kz,I.aA,I.bare⟩
def Inv.after{Q:VK}{u:af}(I:Inv X pins σ H s)(h:CE X.stack X.prog X.w H s Q u s'):EP X pins σ Q u s':=by show ic h λv H' j=>fK j λos bare un D r q=>?_;clear j;clear h;obtain⟨B,g,d,t,n⟩:=s';obtain rfl:n=s.os:=os;show⟨v,H',I.call (h':=B) (g':=g) (d':=d) (t':=t) (ch:= []) un D bare (λb z=>absurd z QD),r,q⟩
end
def a7(sp:Sp)(dvs:List V)(E:XK)(t:TA):TE:=λσ H Q=>t σ H λj H1=>sp (j++dvs) H1 Q E
def iU(C:ab)(sp:Sp)(dvs:List V)(E:XK)(t:TA):TE:=λσ H Q=>t σ H λj H1=>∀x dx,H1 x=none->H1 dx=none->dx≠x->
 sp (.ref x::(j++dvs)) (upd (upd H1 dx (.own x)) x (.ins C dx [])) (λv H2=>v= .a9/\Q (.ref x) H2) E
def Binds(K:aw)(fd:mN)(ps:List Str)(ds:List af):Prop:=
 ∀(s:ao)(us:List af),K.In s.heap->(us++ds).length=ps.length->BindsTo s fd ⟨us,[]⟩ (ps.zip (us++ds))
def Binds.all{K:aw}{fd:mN}{ps:List Str}(h:∀j:List af,j.length=ps.length->bindArgs fd ⟨j,[]⟩=pure (ps.zip j)):Binds K fd ps []:=λs j _ n=>by rw[ee]at n ⊢;show .of_eq (h j n)
def Passes(CX:mL)(X:Cx)(E:XK):Prop:=∀(pins:List (ab×Obj))(σ:St)(H:Hp)(s:ao)(e:af)(s':ao),Inv X pins σ H s->CX X.stack H s E e s'->X.xe e s'
section
variable {X:Cx}{CX:mL}{k:Nat}{f C:ab}{fd:mN}{ps:List Str}{sp:Sp}{dvs:List V}{ds:List af}{E:XK}{x m:Str}{p pos apos:Pos}{e o:Expr}{es:List Expr}{ta:TE}{t:TA}
def Iz{pins:List (ab×Obj)}{σ:St}{H:Hp}{s:ao}{Q:VK}{us:List af}{vs:List V}(F:jw X.prog X.w X.K X.mg X.base CX k f fd ps sp)(G:fD k X.A)(z:Binds X.K fd ps ds)(B:Vals dvs ds)(J:Passes CX X E)
  (I:Inv X pins σ H s) (r:Vals vs us) (h:sp (vs++dvs) H Q E):aM (model X.prog X.w) X.A (call (.ref f) us) (EP X pins σ Q) X.xe s:=by
 have n:Vals (vs++dvs) (us++ds):=r.append B;have D:(us++ds).length=ps.length:=by rw[<-n.length];show F.len _ _ _ _ h
 show wpAny_call (sR (F.run X.A X.stack s H ⟨us,[]⟩ (us++ds) (vs++dvs) Q E G I.F1 (z s us I.j5 D) n h) λr s' j=>?_);cases r with
 |error e=>show J pins σ H s e s' I j
 |ok q=>
  cases q with
  |ret u=>show I.after j
  |next=>show False.elim j
  |brk=>show False.elim j
  |cont=>show False.elim j
def SD(F:jw X.prog X.w X.K X.mg X.base CX k f fd ps sp)(O:fD k X.A)(L:Gl X x)(N:X.mg x=some (.ref f))(M:uS X.K (.ref f)=true)(D:Binds X.K fd ps ds)(G:Vals dvs ds)(S:Passes CX X E)
  (B:PA X (e::es) t) (j:(x==("__debug__":Str))=false:=by decide) (J:dY (e::es) X.env=(false,eval e X.env)::dY es X.env:=by rfl) (n:(backTo pos (dY es X.env)).any (·.1)=false:=by rfl):
  PE X (.Call (.Name x p) (e::es) [] pos) (a7 sp dvs E t):=by
 intro pins s σ H Q I h;show wL (yi I L N ?_ j);show Ew (h₀:=X.base) I.ok.mod.vJ M (br (B pos pins s σ H _ I h) λY V U=>bp U λZ H1 z r q=>⟨z.j5,?_⟩) J n;show Iz F O D G S z r q
structure Mk(K:aw)(C f:ab):Prop where
 makes:PySem.W.makesIn K C=true
 init:sv K (.ref C) "__init__"=some (some (.ref f))
 fn:PySem.W.isFn K (.ref f)=true
 kp:uS K (.ref C)=true
def IA{pins:List (ab×Obj)}{σ:St}{H:Hp}{s:ao}{Q:VK}{us:List af}{vs:List V}(M:Mk X.K C f)(F:jw X.prog X.w X.K X.mg X.base CX k f fd ps sp)(O:fD (k+1) X.A)(J:Binds X.K fd ps ds)(L:Vals dvs ds)
  (S:Passes CX X E) (I:Inv X pins σ H s) (r:Vals vs us)
  (h:∀x dx,H x=none->H dx=none->dx≠x->sp (.ref x::(vs++dvs)) (upd (upd H dx (.own x)) x (.ins C dx [])) (λv H2=>v= .a9/\Q (.ref x) H2) E):
  aM (model X.prog X.w) X.A (call (.ref C) us) (EP X pins σ Q) X.xe s:=by
 have q:=h (s.heap.objs.size+1) s.heap.objs.size (I.aA.fresh (nN _)) (I.aA.fresh (bo _)) (eU (kW _));have n:=Inv.made (C:=C) I;have z:Vals (V.ref (s.heap.objs.size+1)::(vs++dvs)) (Value.ref (s.heap.objs.size+1)::(us++ds)):= .cons rfl (r.append L);have N:(Value.ref (s.heap.objs.size+1)::us++ds).length=ps.length:=by have e:=z.length;rw[F.len _ _ _ _ q]at e;show e.symm
 show wpAny_call (Q5 (f:=f) I.j5 M.makes M.init (beq_iff_eq.mp M.fn) (sR (F.run _ X.stack _ _ ⟨Value.ref (s.heap.objs.size+1)::us,[]⟩ (Value.ref (s.heap.objs.size+1)::(us++ds)) _ _ E (O.make C us [])
  (n.F1.make C us []) (J _ (Value.ref (s.heap.objs.size+1)::us) n.j5 N) z q) λr s' j=>?_))
 cases r with
 |error e=>show S pins σ _ _ e s' n j
 |ok G=>
  cases G with
  |ret u=>show fO (n.after j) λv H' B W D U=>?_;subst D;show⟨W,⟨V.ref (s.heap.objs.size+1),H',B,rfl,U⟩⟩
  |next=>show False.elim j
  |brk=>show False.elim j
  |cont=>show False.elim j
def SJ(M:Mk X.K C f)(F:jw X.prog X.w X.K X.mg X.base CX k f fd ps sp)(O:fD (k+1) X.A)(L:Gl X x)(N:X.mg x=some (.ref C))(D:Binds X.K fd ps ds)(G:Vals dvs ds)(S:Passes CX X E)
  (B:PA X (e::es) t) (j:(x==("__debug__":Str))=false:=by decide) (J:dY (e::es) X.env=(false,eval e X.env)::dY es X.env:=by rfl) (n:(backTo pos (dY es X.env)).any (·.1)=false:=by rfl):
  PE X (.Call (.Name x p) (e::es) [] pos) (iU C sp dvs E t):=by
 intro pins s σ H Q I h;show wL (yi I L N ?_ j);show Ew (h₀:=X.base) I.ok.mod.vJ M.kp (br (B pos pins s σ H _ I h) λY V U=>bp U λZ H1 z r q=>⟨z.j5,?_⟩) J n;show IA M F O D G S z r q
def SK(M:Mk X.K C f)(F:jw X.prog X.w X.K X.mg X.base CX k f fd ps sp)(D:fD (k+1) X.A)(z:Gl X x)(B:X.mg x=some (.ref C))(n:Binds X.K fd ps ds)(q:Vals dvs ds)(G:Passes CX X E)
  (j:(x==("__debug__":Str))=false:=by decide):PE X (.Call (.Name x p) [] [] pos) (iU C sp dvs E aR):=by
 intro pins s σ H Q I h;show wL (yi I z B ?_ j);show PySem.W.callWith_K0 I.j5 M.kp (IA (us:= []) M F D n q G I .nil h)
end
section
variable {X:Cx}{CX:mL}{k:Nat}{f C:ab}{fd:mN}{ps ks:List Str}{sp:Sp}{E:XK}{x m:Str}{p pos apos kpos:Pos}{e o:Expr}{es:List Expr}{kws:List lU}{te ta:TE}{t tk:TA}{nm:Option Str}
variable {g:List af->List af->List af}{gV:List V->List V->List V}
end
structure bj(N P:List Str)(sc:Scope):Prop where
 kind:sc.kind= .function
 co:sc.isCoroutine=false
 gen:sc.isGenerator=false
 nd:N.Nodup
 pre:N.take P.length=P
 par:∀x∈P,sc.names.lookup x=some .local\/sc.names.lookup x=some .cell
 Ro:∀y∈sc.names,y.2≠ .free
def E2{q:Str->Option jy}{x:Str}:∀{j:List (Str×af)}{m:Str->Option af},(∀v,(x,v)∉j)->bindL q j m x=m x
 |[],_,_=>rfl
 |(n,v)::r,m,h=>by
  unfold bindL;rw[E2 λw z=>h w (du _ z)];split
  .have:x≠n:=by rintro rfl;show h v cZ
   simp[this]
  .rfl
def EZ{q:Str->Option jy}{x:Str}:∀{j:List (Str×af)}{m:Str->Option af},(∀v,(x,v)∉j)->bindC q j m x=m x
 |[],_,_=>rfl
 |(n,v)::r,m,h=>by
  unfold bindC;rw[EZ λw z=>h w (du _ z)];split
  .rfl
  .have:x≠n:=by rintro rfl;show h v cZ
   simp[this]
def E1{j:Str->Option jy}{x:Str}{v:af}:∀{P:List Str}{vs:List af}{i:Nat}{m:Str->Option af},P.Nodup->P[i]? =some x->vs[i]? =some v->j x=some .local->
  bindL j (P.zip vs) m x=some v
 |[],_,_,_,_,h,_,_=>by simp at h
 |_::_,[],_,_,_,_,h,_=>by simp at h
 |p::P,w::vs,0,m,nd,h1,h2,hk=>by simp at h1 h2;subst h1;subst h2;show bindL j ((p,w)::P.zip vs) m p=_;unfold bindL;rw[E2 λv n=>(mU.mp nd).1 (Ee n).1,QG hk];simp
 |p::P,w::vs,i+1,m,nd,h1,h2,hk=>by show bindL j ((p,w)::P.zip vs) m x=_;unfold bindL;show E1 (i:=i) (mU.mp nd).2 (by simpa using h1) (by simpa using h2) hk
def EY{j:Str->Option jy}{x:Str}{v:af}:∀{P:List Str}{vs:List af}{i:Nat}{m:Str->Option af},P.Nodup->P[i]? =some x->vs[i]? =some v->j x≠some .local->
  bindC j (P.zip vs) m x=some v
 |[],_,_,_,_,h,_,_=>by simp at h
 |_::_,[],_,_,_,_,h,_=>by simp at h
 |p::P,w::vs,0,m,nd,h1,h2,hk=>by simp at h1 h2;subst h1;subst h2;show bindC j ((p,w)::P.zip vs) m p=_;unfold bindC;rw[EZ λv n=>(mU.mp nd).1 (Ee n).1,QH hk];simp
 |p::P,w::vs,i+1,m,nd,h1,h2,hk=>by show bindC j ((p,w)::P.zip vs) m x=_;unfold bindC;show EY (i:=i) (mU.mp nd).2 (by simpa using h1) (by simpa using h2) hk
def start(N:List Str)(vs:List V):St:=vs.map some++fc (N.length-vs.length) none
def nT(CX:mL)(P:aE)(w:aC)(K:aw)(mg:Str->Option af)(base:aH)(N:List Str)(qual:Str)(scope:Scope)(f:ab)(cd:af)(A:dj)(outer:List Env)(s:ao)(H:Hp)(E:XK):Cx where
 prog:=P
 w:=w
 K:=K
 mg:=mg
 base:=base
 A:=A.deeper (envOfC qual scope s.heap.objs.size f cd)
 N:=N
 iT:=s
 qe:=H
 env:=envOfC qual scope s.heap.objs.size f cd
 outer:=outer
 stack:=envOfC qual scope s.heap.objs.size f cd::outer
 ex:= []
 calm:=true
 fn:=λ_=>true
 pn:= []
 xe:=λe s'=>aM (model P w) (A.deeper (envOfC qual scope s.heap.objs.size f cd)) (leaving (envOfC qual scope s.heap.objs.size f cd) e) (λ_ s''=>CX outer H s E e s'') (λe' s''=>CX outer H s E e' s'') s'
def Fu{j:Scope}{n:Nat}{x:Str}(h:j.names.lookup x=some .cell):∃c,(cellsFrom n j.names []).lookup x=some c:=by have q:=LI j.names n [] (.inl h);show Er.mp q
def Qh{CX:mL}{P:aE}{w:aC}{K:aw}{mg:Str->Option af}{base:aH}{N ps:List Str}{B:Str}{scope:Scope}{f:ab}{M:af}{A:dj}{j:List Env}{s Y:ao}{H:Hp}{E:XK}{us:List af}{vs:List V}
  (S:bj N ps scope) (hd:A.handled=none) (D:qd P w K mg base A j s H) (hl:vs.length=ps.length) (r:Vals vs us)
  (x:InCallC s s.heap.objs.size (bindL (envOfC B scope s.heap.objs.size f M).kindOf (ps.zip us) λ_=>none) (cellsFrom (s.heap.objs.size+1) scope.names []) (bindC (envOfC B scope s.heap.objs.size f M).kindOf (ps.zip us) λ_=>none) Y):
  Inv (nT CX P w K mg base N B scope f M A j s H E) [] (start N vs) H Y:=by
 have a0:ps.length<=N.length:=by have:=congrArg uC S.pre;rw[ff]at this;omega
 show eB x.done λh1 tk I O=>?_;subst I;have G:∀b:ab,b∉(nT CX P w K mg base N B scope f M A j s H E).ex:=λb z=>absurd (show b∈([]:List ab)from z) QD;show⟨⟨D.mod,S.kind,rfl,rfl,bo _,λy z c h1 h2=>?_,λy F=>?_,λy c _ h=>?_,λ_=>hd,Around.frames_deeper D.frames,.inr ⟨rfl,rfl⟩,λb z=>absurd z (G b),D.bs,D.nS,λb _ _=>G b,λb z=>absurd z (G b),D.lD,D.qR⟩,
  rfl,D.bare,Un.kept O,⟨_,x.toInCall.ns,λi y v h1 h2 h3=>?_⟩,λy c h=>⟨_,x.cell y c h⟩,D.aA.fresh (bo _),λy c h=>?_,λp J=>absurd (show p∈([]:List (ab×Obj))from J) QD,D.aA.kept O,?_⟩
 .show name_of_addr x.apart (jR h1) (jR h2)
 .have F:scope.names.lookup y=some .cell\/scope.names.lookup y=some .free:=F;rcases F with F | F
  .show Fu F
  .show absurd rfl (S.Ro _ (jR F))
 .show sg (x.above y c (jR h))
 .have hi:i<vs.length:=by
   unfold start at h2;by_cases hi:i<vs.length
   .show hi
   .rw[rY (by simpa using hi)]at h2;rw[List.getElem?_replicate]at h2;split at h2<;>cases h2
  have Z:vs[i]? =some v:=by
   unfold start at h2;rw[w4 (by simpa using hi),eP]at h2;cases e:vs[i]? with
   |none=>rw[e]at h2;cases h2
   |some a=>rw[e]at h2;cases h2;rfl
  show ai (r.get Z) λu U rv=>?_;have J:ps[i]? =some y:=by rw[<-S.pre,Lf (by omega)];show h1
  have L:ps.Nodup:=by rw[<-S.pre];show S.nd.sublist (List.take_sublist _ _)
  exists u,rv;rcases S.par y (dD J)with k | k
  .show .inl ⟨k,E1 L J U k⟩
  .obtain⟨c,e⟩:=Fu (n:=s.heap.objs.size+1) k;show .inr ⟨.inl k,c,e,?_⟩;have q:=x.cell y c e;rw[EY L J U (by show scope.names.lookup y≠_;rw[k];decide)]at q;show q
 .show D.aA.fresh (sg (x.above y c (jR h)))
 .unfold start;show _=N.length;rw[aP,ay,oS];omega
def PH{CX:mL}{P:aE}{w:aC}{K:aw}{mg:Str->Option af}{base:aH}{k:Nat}{f:ab}{name z:Str}{D:Arguments}{F:List aT}{scope:Scope}{dV kV O pm B ct oc:af}{an od:Option ab}
  {a3:Array (Option af)}{N ps:List Str}{sp:Sp} (lk:K.lookup f=some ⟨oc,od,.func (uR name z D F scope dV kV O pm an B ct),a3⟩) (Z:Ex K B z=true) (S:bj N ps scope)
  (len:∀vs H Q E,sp vs H Q E->vs.length=ps.length)
  (L:∀(A:dj)(j:List Env)(s:ao)(H:Hp)(vs:List V)(Q:VK)(E:XK),fD k (A.deeper (envOfC z scope s.heap.objs.size f B))->sp vs H Q E->
   ∃t,iY (nT CX P w K mg base N z scope f B A j s H E) F t/\t {nx:=λ_ H'=>Q .a9 H',rt:=Q} (start N vs) H):
  jw P w K mg base CX (k+1) f (uR name z D F scope dV kV O pm an B ct) ps sp:=by
 show⟨len,λA j s H args us vs Q E hr U hb r Y=>?_⟩;have hl:=len _ _ _ _ Y;have KX:K.In s.heap:=U.mod.vJ.keeps λb o e=>(U.bs b o e).1;have a0:s.heap.NoLimit:=U.mod.nolimit.keeps λb o e=>(U.bs b o e).1;have M:∀y∈ps.zip us,scope.names.lookup y.1=some .local\/(scope.names.lookup y.1=some .cell/\((cellsFrom (s.heap.objs.size+1) scope.names []).lookup y.1).isSome=true):=λ⟨n,v⟩ hy=>by
  rcases S.par n (Ee hy).1 with q | q
  .show .inl q
  .show .inr ⟨q,LI _ _ _ (.inl q)⟩
 show codeAny_call_function hr.depth (KX _ _ lk) rfl S.co S.gen rfl (PySem.W.codeRec_of KX Z) (hb _ _ _ _ ?_);show wpAny_newFunctionEnv_cells S.kind M λenv he s1 x=>?_;subst he;show⟨a0.keeps x.toInCall.keep,codeAny_func ?_⟩;show ai (L A j s H vs Q E (hr.deeper _) Y) λt ht hq=>?_;have I:Inv (nT CX P w K mg base N z scope f B A j s H E) [] (start N vs) H s1:=Qh S hr.hd U hl r x;show lL (ht [] s1 (start N vs) H _ I hq) (λfl s' G=>?_) λe s' G=>G;have fin:∀{σ':St}{H':Hp}{v:V}{u:af},Inv (nT CX P w K mg base N z scope f B A j s H E) [] σ' H' s'->RelV v u->Q v H'->CE j P w H s Q u s':=
  λ{σ' H' v u} J rv q=>⟨v,H',J.os,J.bare,J.base,J.aA,rv,q⟩
 cases fl with
 |ret u=>show gJ G λv σ' H' J rv q=>?_;clear G;show fin J rv q
 |next=>show eB G λσ' H' J q=>?_;clear G;show fin (v:=V.a9) (u:=Value.none) J rfl q
 |brk=>show eB G λ_ _ _ q=>?_;clear G;show False.elim q
 |cont=>show eB G λ_ _ _ q=>?_;clear G;show False.elim q
end L2
namespace L2
open PySem PySem.Spec PyProof.Rows
section
variable {X:Cx}{x:Str}{p pos:Pos}{e:Expr}{es:List Expr}{t:TA}{id T:String}{r:List V->Hp->VK->Prop}
def bF(r:List V->Hp->VK->Prop)(t:TA):TE:=λσ H Q=>t σ H λj H1=>r j H1 Q
def di(B:gX X (.builtin id) r)(F:Gl X x)(G:X.mg x=none)(L:bootBuiltins x=some (.builtin id))(z:PA X (e::es) t)(J:x≠"__name__":=by decide)(j:(x==("__debug__":Str))=false:=by decide)
  (D:dY (e::es) X.env=(false,eval e X.env)::dY es X.env:=by rfl) (n:(backTo pos (dY es X.env)).any (·.1)=false:=by rfl):PE X (.Call (.Name x p) (e::es) [] pos) (bF r t):=by
 intro pins s σ H Q I h;show wL (qV I F G L ?_ J j);show PyProof.Rows.callWith_builtin1 (br (z pos pins s σ H _ I h) λU S M=>bp M λV H1 q O N=>B pins S σ H1 V U Q q O N) D n
def yK(B:gX X (.type T) r)(F:Gl X x)(G:X.mg x=none)(L:bootBuiltins x=some (.type T))(z:PA X (e::es) t)(J:x≠"__name__":=by decide)(j:(x==("__debug__":Str))=false:=by decide)
  (D:dY (e::es) X.env=(false,eval e X.env)::dY es X.env:=by rfl) (n:(backTo pos (dY es X.env)).any (·.1)=false:=by rfl):PE X (.Call (.Name x p) (e::es) [] pos) (bF r t):=by
 intro pins s σ H Q I h;show wL (qV I F G L ?_ J j);show xw (br (z pos pins s σ H _ I h) λU S M=>bp M λV H1 q O N=>B pins S σ H1 V U Q q O N) D n
end
end L2
namespace HT
open PySem PyProof.Rows
section
open PySem.SeqAt
open PySem.AutoSeq1 (wpAny_loadPart')
open PySem.MeetsSeq PySem.MeetsSeq2 PySem.MeetsSeq3
end
section
variable {prog:aE}{w:aC}{A:dj}{E:af->ao->Prop}{s:ao}
def iR(n d:Nat):Option Int->Nat
 |none=>d
 |some v=>if v<0 then(v+(n:Int)).toNat else min v.toNat n
def CA(n d:Nat):iR n d none=d:=rfl
def yS(n d k:Nat):iR n d (some (k:Int))=min k n:=by show(if(k:Int)<0 then((k:Int)+(n:Int)).toNat else min (k:Int).toNat n)=min k n;rw[QH (by omega),eN]
end
end HT
namespace L2
open PySem PySem.Spec PyProof.Rows
abbrev TO:=St->Hp->(Option Int->Hp->Prop)->Prop
def PO(X:Cx)(e:Option Expr)(t:TO):Prop:=
 ∀(pins:List (ab×Obj))(s:ao)(σ:St)(H:Hp)(Q:Option Int->Hp->Prop),Inv X pins σ H s->t σ H Q->
  aM (model X.prog X.w) X.A (evalPart e X.env) (λu s'=>∃o H',Inv X pins σ H' s'/\IsPart u o/\Q o H') X.xe s
def lJ:TO:=λ_ H Q=>Q none H
def jJ(t:TE):TO:=λσ H Q=>t σ H λx H1=>∃i,x= .int i/\Q (some i) H1
section
variable {X:Cx}{e:Expr}{te:TE}{lo hi:Option Expr}{tl th:TO}{pos p2:Pos}
def lG:PO X none lJ:=by intro pins s σ H Q I h;rw[evalPart_none];show bD ⟨none,H,I,.none,h⟩
def gR(h:PE X e te):PO X (some e) (jJ te):=by intro pins s σ H Q I B;rw[evalPart_some];show br (h pins s σ H _ I B) λu G D=>bp D λx H1 z F n=>?_;show ai n λi j q=>?_;subst n j;obtain⟨t,rfl⟩:=F;show⟨some i,H1,z,.int i t,q⟩
def Am(X:Cx)(r:V->Option Int->Option Int->Hp->VK->Prop):Prop:=
 ∀(pins:List (ab×Obj))(s:ao)(σ:St)(H:Hp)(x:V)(v vl n:af)(lo hi:Option Int)(j:ab)(Q:VK),Inv X pins σ H s->RelV x v->s.heap.IsSliceOf j vl n .none->IsPart vl lo->IsPart n hi->r x lo hi H Q->
  ∃T id,typeLookup (.type T) "__getitem__"=pure (some (.builtin id))/\s.TypeIs v T/\aM (model X.prog X.w) X.A (getItem v (.ref j)) (EP X pins σ Q) X.xe s
def jK(r:V->Option Int->Option Int->Hp->VK->Prop)(te:TE)(tl th:TO):TE:=λσ H Q=>te σ H λx H1=>tl σ H1 λl H2=>th σ H2 λu j=>r x l u j Q
def jf{r:V->Option Int->Option Int->Hp->VK->Prop}(U:Am X r)(N:PE X e te)(S:PO X lo tl)(Y:PO X hi th):PE X (.Subscript e (.Slice lo hi none p2) pos) (jK r te tl th):=by intro pins s σ H Q I h;show Subscript_ (br (N pins s σ H _ I h) λv s1 n=>bp n λx H1 F r1 q1=>?_);show wpAny_Slice (br (S pins s1 σ H1 _ F q1) λz s2 n=>bp n λl H2 G Z q2=>br (Y pins s2 σ H2 _ G q2) λB j n=>bp n λu D J pu q3=>?_);rw[evalPart_none];show bD ?_;have L:Inv X pins σ D {j with heap:=j.heap.push {cls:= .type "slice",data:= .fields #[z,B,.none]}}:=J.kept (t':=j.toks) λb ob q=>ed _ q;obtain⟨T,id,M,W,O⟩:=U pins {j with heap:=j.heap.push {cls:= .type "slice",data:= .fields #[z,B,.none]}} σ D x v z B l u j.heap.objs.size Q L r1 (Heap.IsSliceOf.new ..) Z pu q3;show aM (model X.prog X.w) X.A (subscriptTail e (.Slice lo hi none p2) v (.ref j.heap.objs.size)) (EP X pins σ Q) X.xe {j with heap:=j.heap.push {cls:= .type "slice",data:= .fields #[z,B,.none]}};show tail_any (ops:= [.ref j.heap.objs.size,v]) W M O (by with_unfolding_all rfl)
def lA(xs:List V)(lo hi:Option Int):List V:=(xs.drop (HT.iR xs.length 0 lo)).take (HT.iR xs.length xs.length hi-HT.iR xs.length 0 lo)
def Nu(xs:List V)(lo hi:Option Int):(lA xs lo hi).length<=xs.length:=by unfold lA;rw[ff,iI];omega
end
end L2
namespace L2
open PySem PySem.Spec PyProof.Rows
def pG(n:Nat)(i:Int):Option Nat:=if 0<=i then(if i<n then some i.toNat else none)else if -(n:Int)<=i then some (i+n).toNat else none
def ly{α:Type}(xs:List α)(i:Int):Option α:=(pG xs.length i).bind λj=>xs[j]?
def Qn{n:Nat}{i:Int}{j:Nat}(h:pG n i=some j):seqIndex? i n=some j/\j<n/\-(n:Int)<=i/\i<n:=by
 unfold pG at h;by_cases q:0<=i
 .rw[QG q]at h;by_cases h1:i<n
  .rw[QG h1]at h;have e:i.toNat=j:=df.inj h;show⟨by rw[seqIndex_of q h1,e],by omega,by omega,h1⟩
  .rw[QH h1]at h;cases h
 .rw[QH q]at h;by_cases h1:-(n:Int)<=i
  .rw[QG h1]at h;have e:(i+n).toNat=j:=df.inj h;show⟨by rw[seqIndex_neg (by omega) h1,e],by omega,h1,by omega⟩
  .rw[QH h1]at h;cases h
def AE{α:Type}{xs:List α}{i:Int}{v:α}(h:ly xs i=some v):∃j,seqIndex? i xs.length=some j/\xs[j]? =some v/\j<xs.length/\-(xs.length:Int)<=i/\i<xs.length:=by
 unfold ly at h;cases e:pG xs.length i with
 |none=>rw[e]at h;cases h
 |some j=>rw[e]at h;show j0 (Qn e) λh1 h2 n q=>?_;show⟨j,h1,h,h2,n,q⟩
def LX{α:Type}{xs:List α}{j:Nat}{v:α}(h:xs[j]? =some v):ly xs (j:Int)=some v:=by
 have n:j<xs.length:=(dW.mp h).1;have e:pG xs.length (j:Int)=some j:=by unfold pG;rw[QG (by omega),QG (by omega)];simp
 unfold ly;rw[e];show h
def Lp(b:Expr):Prop:=∀o i,subscripted b false o i=operate [o,i] (getItem o i)
def mP(X:Cx)(r:R2):Prop:=
 ∀(value j:Expr)(pins:List (ab×Obj))(s:ao)(σ:St)(H:Hp)(x y:V)(v u:af)(Q:VK),Inv X pins σ H s->RelV x v->RelV y u->r x y H Q->
  subscripted j false v u=operate [v,u] (getItem v u)->aM (model X.prog X.w) X.A (subscriptTail value j v u) (EP X pins σ Q) X.xe s
def Ei(X:Cx)(id:String)(r:V->List V->Hp->VK->Prop):Prop:=
 ∀(pins:List (ab×Obj))(s:ao)(σ:St)(H:Hp)(x:V)(xs:List V)(v:af)(us:List af)(Q:VK),Inv X pins σ H s->RelV x v->Vals xs us->r x xs H Q->
  aM (model X.prog X.w) X.A (call (.builtin id) (v::us)) (EP X pins σ Q) X.xe s
section
variable {X:Cx}{a b:Expr}{ta tb:TE}{pos:Pos}
def mP.or{r n:R2}(h:mP X r)(h':mP X n):mP X (λx y H Q=>r x y H Q\/n x y H Q):=by
 intro value slice pins s σ H x y v u Q I z B q j;rcases q with q | q
 .show h value slice pins s σ H x y v u Q I z B q j
 .show h' value slice pins s σ H x y v u Q I z B q j
def cz{r:R2}(B:mP X r)(n:PE X a ta)(z:PE X b tb)(D:Lp b):PE X (.Subscript a b pos) (a8 r ta tb):=by intro pins s σ H Q I h;show Subscript_ (AI n z I h λv u J x y H2 j F G q=>B a b pins J σ H2 x y v u Q j F G q (D _ _))
def Il(K:aw):R2:=λx y H Q=>∃p xs i v,x= .ref p/\y= .int i/\aj K H p xs/\ly xs i=some v/\Q v H
def Io(K:aw):R2:=λx y H Q=>∃p xs i v,x= .ref p/\y= .int i/\eV K H p xs/\ly xs i=some v/\Q v H
def Im:R2:=λx y H Q=>∃z i c,x= .str z/\y= .int i/\z.length<=dc/\ly z.cps.toList i=some c/\Q (.str ⟨#[c]⟩) H
def Qo:mP X (Il X.K):=by
 intro value slice pins s σ H x y v u Q I W Y h M;show jb h λp xs i z n B V S q=>?_;subst h n;subst B;cases W;obtain⟨t,rfl⟩:=Y;show bA (I.list V) λits r F hz=>?_;show sW (AE S) λj h1 h2 Z N O=>?_;show ai (r.get h2) λw J G=>?_;have U:=r.length;have hn:=yk;have fin:EP X pins σ Q w s:=⟨z,H,I,G,q⟩;by_cases L:0<=i
 .have D:i.toNat=j:=by rw[seqIndex_of L O]at h1;show df.inj h1
  show item_listR F.isList L (by omega) (by rw[D];simpa using J) fin M
 .have D:(i+(its.toArray.size:Int)).toNat=j:=by rw[seqIndex_neg (by omega) N]at h1;rw[fg,<-U];show df.inj h1
  show subscriptTail_builtinR (x:=w) F.isList.typeIs slot_list_getitem.lookup
   (wpAny_getItem_list_neg (Q:=λr s'=>r=w/\EP X pins σ Q r s') F.isList (by omega) (by rw[fg]<;>omega) (by omega) (by rw[D];simpa using J) ⟨rfl,fin⟩) M
def Qq:mP X (Io X.K):=by
 intro value slice pins s σ H x y v u Q I O S h N;show jb h λp xs i z n B M J q=>?_;subst h n;subst B;cases O;obtain⟨t,rfl⟩:=S;show bA (I.tuple M) λits r F Z=>?_;show sW (AE J) λj h1 h2 U V W=>?_;show ai (r.get h2) λw G D=>?_;have L:=r.length;have Y:=yk;have fin:EP X pins σ Q w s:=⟨z,H,I,D,q⟩
 show subscriptTail_builtinR (x:=w) F.typeIs slot_tuple_getitem.lookup
  (getItem_tuple (j:=j) (Q:=λr s'=>r=w/\EP X pins σ Q r s') F (by omega) (by omega) (by rw[fg,<-L];show h1) (by simpa using G) ⟨rfl,fin⟩) N
def Qp:mP X Im:=by
 intro value slice pins s σ H x y v u Q I O S h N;show jE h λz i c n B W L q=>?_;subst h n;subst B;obtain⟨t,rfl⟩:=O;obtain⟨Y,rfl⟩:=S;show sW (AE L) λj h1 h2 U G J=>?_;have M:z.cps.toList.length=z.length:=by simp[Str.length]
 rw[M]at h1 G J;have V:=yk;show tail_any (typeIs_str s z t) slot_str_getitem.lookup (getItem_str (c:=c) (by have D:decide (i < -(2 ^ 63:Int))=false:=QJ (by omega);have F:decide (i>=2 ^ 63)=false:=QJ (by omega);rw[D,F,DW]) (by rw[h1];simpa using h2) ⟨.str ⟨#[c]⟩,H,I.tok _,⟨_,rfl⟩,q⟩) N
def we(K:aw):R2:=λx y H Q=>Il K x y H Q\/Io K x y H Q\/Im x y H Q
def tD:mP X (we X.K):=Qo.or (Qq.or Qp)
def UQ(lo hi:Option Int)(n:Nat):(sliceBounds lo hi none n).1=((HT.iR n 0 lo:Nat):Int)/\(sliceBounds lo hi none n).2.1=((HT.iR n n hi:Nat):Int)/\(sliceBounds lo hi none n).2.2=1:=by
 show⟨?_,?_,rfl⟩
 .cases lo with
  |none=>simp[sliceBounds,HT.iR]
  |some i=>
   simp only[sliceBounds,HT.iR,Option.getD_none,show(1:Int)>0 by decide,if_true];by_cases h:i<0
   .simp only[h,if_true]<;>omega
   .simp only[h,if_false]<;>omega
 .cases hi with
  |none=>simp[sliceBounds,HT.iR]
  |some i=>
   simp only[sliceBounds,HT.iR,Option.getD_none,show(1:Int)>0 by decide,if_true];by_cases h:i<0
   .simp only[h,if_true]<;>omega
   .simp only[h,if_false]<;>omega
def UP(its:List af)(lo hi:Option Int):slicePick its.toArray lo hi none=((its.drop (HT.iR its.length 0 lo)).take (HT.iR its.length its.length hi-HT.iR its.length 0 lo)).toArray:=by show cY (UQ lo hi its.toArray.size) λh1 h2 j=>?_;unfold slicePick;rw[h1,h2,j];simp only[sliceRange_one,pick_run,fg]<;>rfl
def jv(K:aw):V->Option Int->Option Int->Hp->VK->Prop:=λx lo hi H Q=>∃a xs,x= .ref a/\aj K H a xs/\∀p,H p=none->Q (.ref p) (upd H p (.lst (lA xs lo hi)))
def wG:Am X (jv X.K):=by intro pins s σ H x v O S lo hi N Q I L B G J h;show bp h λa xs j D q=>?_;subst h j;cases L;show bA (I.list D) λits r z F=>?_;have n:=r.length;exists"list",_,slot_list_getitem.lookup,z.isList.typeIs;show wpAny_getItem_list_slice z.isList B G J .none QD ?_ (by rw[fg]<;>omega);rw[UP,<-n];show⟨.ref s.heap.objs.size,_,I.laid (t':=s.toks) (o:= .lst (lA xs lo hi)) (λb M q=>ed _ q) (bo _) ?_,rfl,q _ (I.aA.fresh (bo _))⟩;show⟨dE (Nu xs lo hi) F,_,0,(r.drop (HT.iR xs.length 0 lo)).take (HT.iR xs.length xs.length hi-HT.iR xs.length 0 lo),fj _ rfl⟩
def n8:V->Bool
 |.a9=>true
 |.bl _=>true
 |.int _=>true
 |.str _=>true
 |_=>false
def lB:V->V->Bool
 |.a9,.a9=>true
 |.bl a,.bl b=>a==b
 |.bl a,.int b=>(if a then 1 else 0)==b
 |.int a,.bl b=>a==(if b then 1 else 0)
 |.int a,.int b=>a==b
 |.str a,.str b=>a==b
 |_,_=>false
def Pr{A:dj}{s:ao}{y x:V}{u v:af}(z:RelV y u)(j:RelV x v)(B:n8 y=true)(q:n8 x=true):SeqAt.EqAt A s u v (lB y x):=by
 cases y with
 |a9=>
  cases z;cases x with
  |a9=>cases j;show SeqAt.EqAt.same _
  |bl b=>cases j;show SeqAt.EqAt.none_bool b
  |int b=>obtain⟨t,rfl⟩:=j;show SeqAt.EqAt.none_int b t
  |str b=>obtain⟨t,rfl⟩:=j;show SeqAt.EqAt.none_str b t
  |_=>show absurd (show false=true from q) dP
 |bl a=>
  cases z;cases x with
  |a9=>cases j;show SeqAt.EqAt.bool_none a
  |bl b=>cases j;show SeqAt.EqAt.bool_bool a b
  |int b=>obtain⟨t,rfl⟩:=j;show SeqAt.EqAt.bool_int a b t
  |str b=>obtain⟨t,rfl⟩:=j;show SeqAt.EqAt.bool_str a b t
  |_=>show absurd (show false=true from q) dP
 |int a=>
  obtain⟨n,rfl⟩:=z;cases x with
  |a9=>cases j;show SeqAt.EqAt.int_none a n
  |bl b=>cases j;show SeqAt.EqAt.int_bool a n b
  |int b=>obtain⟨t,rfl⟩:=j;show SeqAt.EqAt.int_int a n b t
  |str b=>obtain⟨t,rfl⟩:=j;show SeqAt.EqAt.int_str a n b t
  |_=>show absurd (show false=true from q) dP
 |str a=>
  obtain⟨n,rfl⟩:=z;cases x with
  |a9=>cases j;show SeqAt.EqAt.str_none a n
  |bl b=>cases j;show SeqAt.EqAt.str_bool a n b
  |int b=>obtain⟨t,rfl⟩:=j;show SeqAt.EqAt.str_int a n b t
  |str b=>obtain⟨t,rfl⟩:=j;show SeqAt.EqAt.str_str a n b t
  |_=>show absurd (show false=true from q) dP
 |_=>show absurd (show false=true from B) dP
def nY(x:V)(u:af):Bool:=match u with
 |.none=>lB .a9 x
 |.bool b=>lB (.bl b) x
 |.int i _=>lB (.int i) x
 |.str z _=>lB (.str z) x
 |_=>false
def F2{x y:V}{u:af}(r:RelV y u)(f:n8 y=true):nY x u=lB y x:=by
 cases y with
 |a9=>cases r;rfl
 |bl b=>cases r;rfl
 |int i=>obtain⟨t,rfl⟩:=r;rfl
 |str z=>obtain⟨t,rfl⟩:=r;rfl
 |_=>show absurd (show false=true from f) dP
def AB{x:V}:∀{xs:List V}{us:List af},Vals xs us->xs.all n8=true->us.any (nY x)=xs.any λy=>lB y x
 |_,_,.nil,_=>rfl
 |y::xs,u::us,.cons r t,f=>by rw[qi,eC]at f;rw[uA,uA,F2 r f.1,AB t f.2]
def BN{A:dj}{s:ao}{x:V}{v:af}(q:RelV x v)(n:n8 x=true):∀{xs:List V}{us:List af},Vals xs us->xs.all n8=true->∀u∈us,SeqAt.EqAt A s u v (nY x u)
 |_,_,.nil,_=>λu j=>by cases j
 |y::xs,u::us,.cons r t,f=>λz j=>by
  rw[qi,eC]at f;rcases bG.mp j with rfl | j
  .rw[F2 r f.1];show Pr r q f.1 n
  .show BN q n t f.2 z j
def ig(x:V)(xs:List V):Bool:=xs.any λy=>lB y x
def Ij(K:aw)(j:Bool):R2:=λx y H Q=>∃p xs,y= .ref p/\(aj K H p xs\/eV K H p xs)/\n8 x=true/\xs.all n8=true/\Q (.bl (if j then !ig x xs else ig x xs)) H
def Sl:eJ X (fT .In) (Ij X.K false):=by
 intro pins s σ H x y v u Q I F J h;show ja h λp xs j n D fs q=>?_;subst h j;cases J;rcases n with n | n
 .show bA (I.list n) λits r B G=>?_;show SeqAt.in_listAt (nY x) B.isList (λw z=>BN F D r fs w (by simpa using z)) ⟨.bl _,H,I,rfl,?_⟩;rw[show its.toArray.any (nY x)=its.any (nY x)by simp,AB r fs];show q
 .show bA (I.tuple n) λits r B G=>?_;show SeqAt.in_tupleAt (nY x) B (λw z=>BN F D r fs w (by simpa using z)) ⟨.bl _,H,I,rfl,?_⟩;rw[show its.toArray.any (nY x)=its.any (nY x)by simp,AB r fs];show q
def MQ:gX X (.type "list") (λxs H Q=>∃p ys,xs= [.ref p]/\(aj X.K H p ys\/eV X.K H p ys)/\∀l,H l=none->Q (.ref l) (upd H l (.lst ys))):=by
 intro pins s σ H xs W Q I r h;show bp h λp ys G L q=>?_;subst h G;show ai (vals1 r) λu F V=>?_;subst F;cases V
 have fin:∀(its:List af),Vals ys its->ys.length<=dc->∀(h':aH)(B:Nat),(∀b o',s.heap.get? b=some o'->h'.get? b=some o')->
     h'.get? s.heap.objs.size=some {cls:= .type "list",dict:=none,data:= .seq its.toArray B,slots:=#[]}->EP X pins σ Q (.ref s.heap.objs.size) {s with heap:=h'}:=λits D M h' B N e=>
  ⟨.ref s.heap.objs.size,_,I.laid (t':=s.toks) N (bo _) (show fC X.prog X.w _ h' _ (.lst ys)from⟨M,its,B,D,e⟩),rfl,q _ (I.aA.fresh (bo _))⟩
 rcases L with L | L
 .show bA (I.list L) λits D O M=>?_;have J:=D.length;show bA O.isList λo U S j=>jC j λn hd=>?_;clear j;show call_list_seq p (.inl rfl) U S hd (λh' B N e=>fin its D M h' B N e) (by simp only[fg]<;>omega)
 .show bA (I.tuple L) λits D O M=>?_;have J:=D.length;show bA O λo U S z=>jC z λn hd=>?_;clear z;clear O;show call_list_seq p (.inr rfl) U S hd (λh' B N e=>fin its D M h' B N e) (by simp only[fg]<;>omega)
def MU:gX X (.type "tuple") (λxs H Q=>∃p ys,xs= [.ref p]/\((aj X.K H p ys/\∀l,H l=none->Q (.ref l) (upd H l (.tup ys)))\/(eV X.K H p ys/\Q (.ref p) H))):=by
 intro pins s σ H xs S Q I r h;revert h;intro j;show eB j λp ys z h=>?_;subst j z;show ai (vals1 r) λu n O=>?_;subst n;cases O;rcases h with⟨B,q⟩ | ⟨B,q⟩
 .show bA (I.list B) λits F D L=>?_;have J:=F.length;show call_tuple_list D.isList (λh' N=>?_) (by simp only[fg]<;>omega);have G:Inv X pins σ H {s with heap:=h'}:=I.kept (t':=s.toks) N;have M:Inv X pins σ (upd H h'.objs.size (.tup ys)) {s with heap:=h'.push {cls:= .type "tuple",data:= .seq its.toArray}}:=
   G.laid (t':=s.toks) (λb o e=>ed _ e) (bo _) (show fC X.prog X.w _ _ _ (.tup ys)from⟨L,its,F,IsTup.new _ _⟩)
  show⟨.ref h'.objs.size,_,M,rfl,q _ (G.aA.fresh (bo _))⟩
 .show bA (I.tuple B) λits F D L=>?_;show call_tuple_same D ⟨.ref p,H,I,rfl,q⟩
def pY(K:aw)(T:String)(x:V)(H:Hp):Prop:=match x with
 |.str _=>T="str"
 |.int _=>T="int"
 |.ref p=>(T="list"/\∃xs,aj K H p xs)\/(T="tuple"/\∃o,K.lookup p=some o/\o.cls= .type "tuple"/\o.dict=none)\/
   (T="dict"/\((∃kvs,H p=some (.dK kvs))\/∃kvs,H p=some (.dT kvs)))\/(T="set"/\∃S n,H p=some (.set S n))
 |_=>False
def K2{pins:List (ab×Obj)}{σ:St}{H:Hp}{s:ao}{T:String}{x:V}{v:af}(I:Inv X pins σ H s)(r:RelV x v)(ty:pY X.K T x H):
  s.TypeIs v T/\∀a,v= .ref a->∃J,s.heap.get? a=some J/\J.dict=none:=by
 cases x with
 |str z=>obtain⟨t,rfl⟩:=r;cases(show T="str"from ty);show⟨typeIs_str s z t,λ_ e=>nomatch e⟩
 |int i=>obtain⟨t,rfl⟩:=r;cases(show T="int"from ty);show⟨typeIs_int s i t,λ_ e=>nomatch e⟩
 |ref p=>
  cases r;rcases ty with⟨rfl,xs,M⟩ | ⟨rfl,o,B,L,hd⟩ | ⟨rfl,B⟩ | ⟨rfl,S,n,B⟩
  .show bA (I.list M) λits _ G _=>?_;show⟨G.isList.typeIs,λa e=>?_⟩;cases e;show fO G λo n e c hd _=>?_;clear G;show⟨o,e,hd⟩
  .show⟨⟨o,I.j5 p o B,L⟩,λa e=>?_⟩;cases e;show⟨o,I.j5 _ o B,hd⟩
  .have z:∃o,s.heap.get? p=some o/\o.ExactDict:=by
    rcases B with⟨kvs,B⟩ | ⟨kvs,B⟩
    .show cY (I.aA p _ B) λ_ _ j=>ai j λ_ _ j=>gJ j λo _ _ e ex _=>?_;clear j;clear j;show⟨o,e,ex⟩
    .show cY (I.aA p _ B) λ_ _ q=>ai q λ_ _ q=>gJ q λo _ _ e ex _=>?_;clear q;clear q;show⟨o,e,ex⟩
   show ai z λo e ex=>?_;clear z;show⟨⟨o,e,ex.1⟩,λa F=>?_⟩;cases F;show⟨o,e,ex.2.1⟩
  .show kz (I.aA p _ B) λo _ _ _ D=>cY D λe ex _=>?_;clear D;show⟨⟨o,e,ex.1⟩,λa F=>?_⟩;cases F;show⟨o,e,ex.2.1⟩
 |_=>show False.elim ty
def bV(K:aw)(T:String)(r:V->List V->Hp->VK->Prop)(to:TE):TE:=λσ H Q=>to σ H λx H1=>pY K T x H1/\r x [] H1 Q
def bH(K:aw)(T:String)(r:V->List V->Hp->VK->Prop)(to:TE)(t:TA):TE:=λσ H Q=>to σ H λx H1=>pY K T x H1/\t σ H1 λxs H2=>r x xs H2 Q
variable {o e:Expr}{es:List Expr}{to:TE}{t:TA}{name:Str}{apos cpos:Pos}{T id:String}{r:V->List V->Hp->VK->Prop}
def Cc(L:PlainAttrs T)(q:Slot T name id)(z:typeOf (.builtin id)=pure (.type "method_descriptor"))(F:Ei X id r)(G:PE X o to)
  (j:attributeBase o name X.env (eval o X.env)=eval o X.env:=by rfl) (n:(apos.endLine==cpos.line)=true:=by rfl):PE X (.Call (.Attribute o name apos) [] [] cpos) (bV X.K T r to):=by
 intro pins s σ H Q I h;show wpAny_Call_method0_late j n (br (G pins s σ H _ I h) λv N J=>fO J λx H1 B D ty M=>?_);obtain⟨h1,h2⟩:=K2 B D ty;show⟨T,id,L,q,z,h1,h2,Calls.callWith_builtin rfl (PySem.evalArgs_none (F pins N σ H1 x [] v [] Q B D .nil M))⟩
def nE(V:PlainAttrs T)(B:Slot T name id)(D:typeOf (.builtin id)=pure (.type "method_descriptor"))(O:Ei X id r)(S:PE X o to)(N:PA X (e::es) t)
  (n:attributeBase o name X.env (eval o X.env)=eval o X.env:=by rfl)
  (z:((backTo cpos (dY (e::es) X.env)).all (λx=> !x.1)&&(backToKw cpos (keywordEach [] X.env)).all (λx=>x.1.isSome)
   && decide ((e::es).length+([]:List lU).length+(if([]:List lU).isEmpty then 0 else 1)<30))=true:=by rfl)
  (q:(apos.endLine==cpos.line)=true:=by rfl) (U:dY (e::es) X.env=(false,eval e X.env)::dY es X.env:=by rfl) (j:(backTo cpos (dY es X.env)).any (·.1)=false:=by rfl):
  PE X (.Call (.Attribute o name apos) (e::es) [] cpos) (bH X.K T r to t):=by
 intro pins s σ H Q I h;show wpAny_Call_method_late n z q rfl (br (S pins s σ H _ I h) λv s1 F=>fO F λx H1 G L ty W=>?_);obtain⟨h1,h2⟩:=K2 G L ty;exists T,id,V,B,D,h1,h2;have J:=N cpos pins s1 σ H1 _ G W;rw[U]at J ⊢;show Calls.callWith_builtin (by show(false||(backTo cpos (dY es X.env)).any (·.1))=false;rw[j]<;>rfl) (Calls.evalArgs_plain ?_);show br J λus s2 F=>bp F λvs H2 M Z Y=>O pins s2 σ H2 x vs v us Q M L Z Y
end
end L2
namespace L2
open PySem PySem.Spec PyProof.Rows
def uE(X:Cx)(id:String)(r:V->List V->Hp->VK->Prop):Prop:=
 ∀(pins:List (ab×Obj))(s:ao)(σ:St)(H:Hp)(x:V)(xs:List V)(v:af)(us:List af)(Q:VK),Inv X pins σ H s->RelV x v->Vals xs us->r x xs H Q->
  aM (model X.prog X.w) X.A (call (.builtin id) (v::us)) (EP X pins σ Q) X.xe s
def Vals.one:∀{x:V}{us:List af},Vals [x] us->∃u,us= [u]/\RelV x u
 |_,_,.cons r .nil=>⟨_,rfl,r⟩
def Vals.zero:∀{us:List af},Vals [] us->us= []
 |_,.nil=>rfl
def Vals.dropLast{xs:List V}{us:List af}(h:Vals xs us):Vals xs.dropLast us.dropLast:=by
 induction h with
 |nil=>show .nil
 |cons r t j=>
  cases t with
  |nil=>show .nil
  |cons q n=>show .cons r j
def Vals.reverse{xs:List V}{us:List af}(h:Vals xs us):Vals xs.reverse us.reverse:=by
 induction h with
 |nil=>show .nil
 |cons r t j=>rw[xb,xb];show Vals.append j (.cons r .nil)
def Vals.rep{xs:List V}{us:List af}(h:Vals xs us):∀k:Nat,Vals (fc k xs).flatten (fc k us).flatten
 |0=> .nil
 |k+1=>by rw[qw,qw,rX,rX];show Vals.append h (Vals.rep h k)
def Pu{α:Type}(l:List α):l.eraseIdx (l.length-1)=l.dropLast:=by
 induction l with
 |nil=>rfl
 |cons a r j=>
  cases r with
  |nil=>rfl
  |cons b r=>
   have e:(a::b::r).length-1=((b::r).length-1)+1:=by have h1:(a::b::r).length=r.length+2:=rfl;have h2:(b::r).length=r.length+1:=rfl;omega
   rw[e,List.eraseIdx_cons_succ,j]
   all_goals rfl
def foldl_rep(its:List af):∀(k:Nat)(acc:List af),
  wZ (λn q=>n++q) acc.toArray (fc k its.toArray)=(acc++(fc k its).flatten).toArray
 |0,acc=>QD
 |k+1,acc=>by
  have e:acc.toArray++its.toArray=(acc++its).toArray:=QD;have j:(acc++its)++(fc k its).flatten=acc++(fc (k+1) its).flatten:=by rw[qw,rX,eZ]
  rw[<-j,<-foldl_rep its k (acc++its),<-e,qw,gF]
section
variable {X:Cx}{pins:List (ab×Obj)}{σ:St}{H:Hp}{s:ao}{l b:ab}{xs ys zs:List V}
def Inv.tM{its its':List af}{n:Nat}{f:Array af->Array af}{t':Nat}(I:Inv X pins σ H s)(j:H l=some (.lst xs))
  (e:s.heap.get? l=some {cls:= .type "list",data:= .seq its.toArray n}) (B:f its.toArray=its'.toArray) (F:Vals ys its') (hz:ys.length<=dc):
  Inv X pins σ (upd H l (.lst ys)) {s with heap:=s.heap.update l (Obj.mapSeq f),toks:=t'}:=by
 have q:=PySem.IsL.update e f;rw[B]at q;show I.write (x:=l) (e:=l) (by rw[j];show trivial) (.inl rfl) (λG u z D=>(zC s.heap (Obj.mapSeq f) (Ne.symm z)).trans D) ⟨_,q⟩ ?_;show⟨hz,its',_,F,q⟩
def Inv.GY{its:List af}{t':Nat}(I:Inv X pins σ H s)(j:Vals ys its)(hz:ys.length<=dc):
  Inv X pins σ (upd H s.heap.objs.size (.lst ys)) {s with heap:=s.heap.push {cls:= .type "list",data:= .seq its.toArray},toks:=t'}:=
 I.laid (λ_ _ q=>ed _ q) (bo _) ⟨hz,its,0,j,fj _ rfl⟩
def Inv.fresh(I:Inv X pins σ H s):H s.heap.objs.size=none:=I.aA.fresh (bo _)
def Inv.nz(I:Inv X pins σ H s)(q:H l=some (.lst xs)):xs.length<=dc/\∃(its:List af)(n:Nat),Vals xs its/\xs.length=its.length/\s.heap.get? l=some {cls:= .type "list",data:= .seq its.toArray n}:=by show eg (I.aA l _ q) λz j=>eB j λits n r e=>?_;clear j;show⟨z,its,n,r,r.length,e⟩
def G8{n:Nat}(h:n<=dc):Builtin.List.listTooLong n=false:=by unfold Builtin.List.listTooLong;show QJ (by omega)
end
section
variable {X:Cx}
def tT:V->List V->Hp->VK->Prop:=λx j H Q=>∃l xs y,x= .ref l/\j= [y]/\H l=some (.lst xs)/\xs.length<dc/\Q .a9 (upd H l (.lst (xs++[y])))
def qY:uE X "list.append" tT:=by intro pins s σ H x V v U Q I N M h;show jE h λl xs y D G J S q=>?_;subst h D;subst G;cases N;show ai M.one λu B L=>?_;subst B;show eg (I.nz J) λz j=>bp j λits n r O e=>?_;clear j;show sQ F.slot_list_append ⟨_,e,rfl⟩ F.entry_list_append (F.args_list_append_2 _ _) (PySem.list_append l its.toArray n u (by rw[fg];omega)) ⟨e,?_⟩;show⟨.a9,_,I.tM (its':=its++[u]) J e QD (r.append (.cons L .nil)) ?_,rfl,q⟩;rw[aP,List.length_singleton];omega
def Cp:V->List V->Hp->VK->Prop:=λx j H Q=>∃l b xs zs,x= .ref l/\j= [.ref b]/\H l=some (.lst xs)/\H b=some (.lst zs)/\xs.length+zs.length<=dc/\Q .a9 (upd H l (.lst (xs++zs)))
def G3:uE X "list.extend" Cp:=by
 intro pins s σ H x vs v us Q I rx rv h;show qM h λl b xs zs L M O U hz q=>?_;subst h L;subst M;cases rx;show ai rv.one λu J Z=>?_;subst J;cases Z;show eg (I.nz O) λz j=>bp j λits n r hl e=>?_;clear j;show eg (I.nz U) λz2 B=>bp B λD W Y V S=>?_;clear B;have N:its.toArray.size+D.toArray.size<=dc:=by rw[fg,fg];omega
 have G:¬ (!its.toArray.isEmpty&&Builtin.List.listTooLong (its.toArray.size+D.toArray.size))=true:=by rw[G8 N,DV];show dP
 show sQ F.slot_list_extend ⟨_,e,rfl⟩ F.entry_list_extend (F.args_list_extend_2 _ _)
  (AutoSeq1.list_extend_list_list_0 l its.toArray n b D.toArray W G (by rw[fg];omega) (by omega)) ⟨e,S,?_⟩
 show⟨.a9,_,I.tM (its':=its++D) O e QD (r.append Y) ?_,rfl,q⟩;rw[aP];omega
def Ip:V->List V->Hp->VK->Prop:=λx j H Q=>∃l xs y,x= .ref l/\j= []/\H l=some (.lst xs)/\xs[xs.length-1]? =some y/\Q y (upd H l (.lst xs.dropLast))
def G4:uE X "list.pop" Ip:=by
 intro pins s σ H x Y v W Q I V U h;show jE h λl xs y B D L O q=>?_;subst h B;subst D;cases V;have G:=U.zero;subst G;show eg (I.nz L) λz j=>bp j λits n r M e=>?_;clear j;show ai (r.get O) λu N S=>?_;have J:its.toArray[its.toArray.size-1]? =some u:=by show its.toArray[its.length-1]? =some u;rw[<-oM,<-M];show N
 show sQ F.slot_list_pop ⟨_,e,rfl⟩ F.entry_list_pop (F.args_list_pop_1 _) (MeetsSeq.list_pop_last l its.toArray n u J (by rw[fg];omega)) ⟨e,?_⟩;show⟨y,_,I.tM (its':=its.dropLast) L e ?_ r.dropLast ?_,S,q⟩
 .show its.toArray.eraseIdxIfInBounds (its.toArray.size-1)=its.dropLast.toArray;rw[fg,List.eraseIdxIfInBounds_toArray,Pu]
 .rw[w8];omega
def Ts:V->List V->Hp->VK->Prop:=λx j H Q=>∃l xs,x= .ref l/\j= []/\H l=some (.lst xs)/\Q .a9 (upd H l (.lst xs.reverse))
def Rc:uE X "list.reverse" Ts:=by intro pins s σ H x S v O Q I M L h;show fO h λl xs B D J q=>?_;subst h B;subst D;cases M;have G:=L.zero;subst G;show eg (I.nz J) λz j=>bp j λits n r N e=>?_;clear j;show sQ F.slot_list_reverse ⟨_,e,rfl⟩ F.entry_list_reverse (F.args_list_reverse_1 _) (AutoSeq1.list_reverse_list_0 l its.toArray n (by rw[fg];omega)) ⟨e,?_⟩;show⟨.a9,_,I.tM (its':=its.reverse) J e QD r.reverse ?_,rfl,q⟩;rw[zV];omega
def bS:R2:=λx y H Q=>mB x λl=>mB y λb=>∃xs,H l=some (.lst xs)/\∃zs,H b=some (.lst zs)/\xs.length+zs.length<=dc/\∀p,H p=none->Q (.ref p) (upd H p (.lst (xs++zs)))
def mC:eJ X (binaryOp .Add) bS:=by intro pins s σ H x y v u Q I U V h;show ai (mB.ex h) λl F h'=>?_;subst F;show ai (mB.ex h') λb F j=>ai j λxs N j=>bA j λzs M Y q=>?_;clear j;subst j F;cases U;cases V;show eg (I.nz N) λz B=>bp B λits n r W e=>?_;clear B;show eg (I.nz M) λz2 D=>bp D λG Z S O J=>?_;clear D;show PySem.P.add_list e J ?_ (by rw[fg,fg];omega);have L:its.toArray++G.toArray=(its++G).toArray:=QD;rw[L];show⟨.ref _,_,I.GY (t':=s.toks) (r.append S) (by rw[aP];omega),rfl,q _ I.fresh⟩
def bT:R2:=λx y H Q=>mB x λl=>gn y λk=>∃xs,H l=some (.lst xs)/\-(2 ^ 63)<=k/\k<2 ^ 63/\xs.length*k.toNat<=dc/\
 ∀p,H p=none->Q (.ref p) (upd H p (.lst (fc k.toNat xs).flatten))
def len_rep{α:Type}(xs:List α)(k:Nat):(fc k xs).flatten.length=k*xs.length:=by
 induction k with
 |zero=>simp
 |succ k j=>rw[qw,rX,aP,j,kX,Ej]
def B6:eJ X (binaryOp .Mult) bT:=by
 intro pins s σ H x y v u Q I rx ry h;show ai (mB.ex h) λl D h'=>?_;subst D;show ai (gn.ex h') λk D j=>sW j λxs Y h1 h2 V q=>?_;subst j D;cases rx;obtain⟨t,rfl⟩:=ry;show eg (I.nz Y) λz B=>bp B λits n r Z e=>?_;clear B;have M:its.toArray.size*k.toNat<=dc:=by rw[fg,<-Z];show V
 have J:¬its.toArray.size*k.toNat>(2 ^ 63-1) / 8:=by have:(dc:Nat)<=(2 ^ 63-1) / 8:=QB;omega
 have L:¬ (!Builtin.List.listFitsIndex k)=true:=by rw[fitsIndex_both h1 h2];show dP
 have G:¬Builtin.List.listTooLong (its.toArray.size*k.toNat)=true:=by rw[G8 M];show dP
 have N:wZ (λO S=>O++S) #[] (fc (if its.toArray.isEmpty=true then 0 else k.toNat) its.toArray)=(fc k.toNat its).flatten.toArray:=by
  have W:∀m:Nat,wZ (λO S=>O++S) #[] (fc m its.toArray)=(fc m its).flatten.toArray:=λm=>by have:=foldl_rep its m [];rw[zY]at this;show this
  rw[W];cases its with
  |nil=>simp
  |cons a r'=>rw[QH QD]
 show wpAny_binaryOp_repeat_ref (T:="list") (U:="int") QB ⟨_,e,rfl⟩ (λs'=>typeIs_int s' k t) noFill_list_mul F.fills_int_mul F.slot_int_rmul repeat_list F.slot_int_index.lookup
  (sQ F.slot_int_rmul (typeIs_int s k t) F.entry_int_rmul (F.args_int_rmul_2 _ _) (int___rmul___int_list k t l its.toArray n)
   ⟨e,rfl,⟨_,e,rfl⟩,sQ F.slot_list_mul ⟨_,e,rfl⟩ F.entry_list_mul (F.args_list_mul_2 _ _) (AutoListH.list___mul___list_int_3 l its.toArray n k t L J G) ⟨e,?_⟩⟩)
 rw[N];show⟨.ref _,_,I.GY (t':=s.toks) (r.rep k.toNat) (by rw[len_rep,xj];show V),rfl,q _ I.fresh⟩
end
section
variable {prog:aE}{w:aC}{A:dj}{E:af->ao->Prop}{s:ao}
end
section
variable {X:Cx}
end
end L2
namespace L2
open PySem PySem.Spec PyProof.Rows
def Vals.ints:∀{ns:List Int}{us:List af},Vals (ns.map V.int) us->nI us ns
 |[],us,h=>by rw[nL]at h;cases h;show IntsAre.nil
 |n::ns,us,h=>by
  rw[eD]at h;cases h with
  |cons r t=>obtain⟨k,rfl⟩:=r;show IntsAre.cons n k (Vals.ints t)
def DJ:∀{us:List af}{ns:List Int},nI us ns->Vals (ns.map V.int) us
 |_,_,.nil=>by rw[nL];show Paired.nil
 |_,_,.cons n t h=>by rw[eD];show Paired.cons (show RelV (V.int n) (Value.int n t)from⟨t,rfl⟩) (DJ h)
def Vals.E4:∀{j:List Bool}{us:List af},Vals (j.map V.bl) us->us=j.map Value.bool
 |[],us,h=>by rw[nL]at h;cases h;rfl
 |b::j,us,h=>by
  rw[eD]at h;cases h with
  |cons r t=>cases r;rw[Vals.E4 t,eD]
def Vals.yQ{a:ab}{us:List af}(r:Vals [V.ref a] us):us= [Value.ref a]:=by
 cases r with
 |cons r t=>cases t;cases r;rfl
section
variable {prog:aE}{w:aC}{A:dj}{E:af->ao->Prop}{s:ao}{l:ab}{its:List af}{ns:List Int}{Q:af->ao->Prop}
end
section
variable {X:Cx}
end
section
variable {X:Cx}
end
section
variable {X:Cx}
end
def Qk{prog:aE}{w:aC}{A:dj}{E:af->ao->Prop}{s:ao}{l:ab}{j:Array af}{Q:af->ao->Prop}(n:s.heap.IsList l j)
  (h:∀s₂:ao,s₂={s with heap:=s.heap.push {cls:= .type "list_iterator",data:= .fields #[.ref l,.int 0 0]}}->
   (s₂.heap.IsListIter s.heap.objs.size l 0/\s₂.heap.IsList l j)->l≠s.heap.objs.size->Q (.ref s.heap.objs.size) s₂):aM (model prog w) A (pyIter (.ref l)) Q E s:=by
 have q:l<s.heap.objs.size:=by obtain⟨_,e,_⟩:=n;show dU e
 show wO n (h _ rfl ⟨⟨_,fj _ rfl,rfl,rfl⟩,n.push _⟩ (eU q))
def WM{prog:aE}{w:aC}{A:dj}{z:List Bool}{its:List af}(e:its=z.map Value.bool):
  TruthOf prog w A (λi v=>its.toArray[i]? =some v) (λi=>z.getD i false):=λi v s Q E G F=>by
 have q:its[i]? =some v:=by simpa using G
 rw[e,eP]at q;show ai (mX.mp q) λb B j=>?_;subst j;have D:z.getD i false=b:=by rw[kS,B]<;>rfl
 have n:Q (z.getD i false) s:=F;rw[D]at n;show qc n
def all_range:∀j:List Bool,(gG j.length).all (λi=>j.getD i false)=j.all id
 |[]=>rfl
 |b::j=>by
  rw[aG,Eg,qi,D1,qi,<-all_range j]
  all_goals rfl
section
variable {X:Cx}
def Ii(K:aw):List V->Hp->VK->Prop:=λn H Q=>∃(a:ab)(j:List Bool),n= [V.ref a]/\aj K H a (j.map V.bl)/\Q (.bl (j.all id)) H
def xS(J:X.calm=true):gX X (.builtin "all") (Ii X.K):=by
 intro pins s σ H V U Q I r h;show bp h λa S n N q=>?_;subst h n;show bA (I.list N) λits O M _=>?_;rw[Vals.yQ r];have D:=O.E4;show call_all_walk (Qk M.isList λs₂ G st z=>?_);subst G;show⟨_,_,_,_,_,_,_,rfl,Walks.list (A:=X.A.in1) (I.ok.hd J) _ a z its.toArray,st,WM D,λh' tk L=>?_⟩;show⟨.bl _,H,I.kept λb o B=>L b o (λj=>?_) (ed _ B),?_,q⟩
 .rcases bG.mp j with F | j
  .show absurd (F▸dU B) (kU _)
  .cases j
 .show Value.bool _=Value.bool _;rw[<-all_range,D,fg,ay]
end
mutual
inductive Dp (K:aw) (H:Hp):V->nP->Prop
 |a9:Dp K H .a9 .none
 |bl (b:Bool):Dp K H (.bl b) (.bool b)
 |int (i:Int):Dp K H (.int i) (.int i)
 |str (x:Str):Dp K H (.str x) (.str x)
 |lst {a:ab}{xs:List V}{ds:List nP}:aj K H a xs->oO K H xs ds->Dp K H (.ref a) (.list ds)
 |tup {a:ab}{xs:List V}{ds:List nP}:eV K H a xs->oO K H xs ds->Dp K H (.ref a) (.tuple ds)
inductive oO (K:aw) (H:Hp):List V->List nP->Prop
 |nil:oO K H [] []
 |cons {v:V}{vs:List V}{d:nP}{ds:List nP}:Dp K H v d->oO K H vs ds->oO K H (v::vs) (d::ds)
end
section
variable {X:Cx}{pins:List (ab×Obj)}{σ:St}{H:Hp}{s:ao}
mutual
theorem Dp.reads(I:Inv X pins σ H s):∀(d:nP)(v:V)(u:af),Dp X.K H v d->RelV v u->∃as,Reads s.heap u d as
 |.none,_,_,h,r=>by
  cases h
  cases r
  show⟨_,Reads.none⟩
 |.bool b,_,_,h,r=>by
  cases h
  cases r
  show⟨_,Reads.bool b⟩
 |.int i,_,_,h,r=>by
  cases h
  obtain⟨t,rfl⟩:=r
  show⟨_,Reads.int i t⟩
 |.str x,_,_,h,r=>by
  cases h
  obtain⟨t,rfl⟩:=r
  show⟨_,Reads.str x t⟩
 |.list ds,_,_,h,r=>by
  cases h with
  |lst hs ha=>
   cases r
   show bA (I.list hs) λits rv nz_2 _=>?_
   obtain⟨o,n,ho,hc,_,hd⟩:=nz_2
   obtain⟨as,hr⟩:=Dp.readsAll I ds _ its ha rv
   show⟨_,Reads.list ho hc hd hr⟩
 |.tuple ds,_,_,h,r=>by
  cases h with
  |tup hs ha=>
   cases r
   show bA (I.tuple hs) λits rv nz_2 _=>?_
   obtain⟨o,ho,hc,n,hd⟩:=nz_2
   obtain⟨as,hr⟩:=Dp.readsAll I ds _ its ha rv
   show⟨_,Reads.tuple ho hc hd hr⟩
 |.dict _,_,_,h,_=>by cases h
theorem Dp.readsAll(I:Inv X pins σ H s):∀(ds:List nP)(vs:List V)(us:List af),oO X.K H vs ds->Vals vs us->∃as,ReadsAll s.heap us ds as
 |[],_,_,h,r=>by
  cases h
  cases r
  show⟨_,ReadsAll.nil⟩
 |d::ds,_,_,h,r=>by
  cases h with
  |cons h1 h2=>
   cases r with
   |cons r1 r2=>
    obtain⟨as,q1⟩:=Dp.reads I d _ _ h1 r1
    obtain⟨bs,q2⟩:=Dp.readsAll I ds _ _ h2 r2
    show⟨_,ReadsAll.cons q1 q2⟩
end
end
section
variable {X:Cx}
def wc(K:aw):R2:=λx y H Q=>∃d e,Dp K H x d/\Dp K H y e/\SeqAt.shaped d=true/\SeqAt.shaped e=true/\Q (.bl (uN d e)) H
def yP(K:aw):R2:=λx y H Q=>∃d e,Dp K H x d/\Dp K H y e/\SeqAt.shaped d=true/\SeqAt.shaped e=true/\Q (.bl (!uN d e)) H
def Sh(n:X.A.units+64<cLine):eJ X (fT .Eq) (wc X.K):=by intro pins s σ H x y v u Q I D F h;show ja h λd e hd j G J q=>?_;clear h;obtain⟨as,z⟩:=Dp.reads I d x v hd D;obtain⟨L,B⟩:=Dp.reads I e y u j F;show SeqAt.compareEq_shaped z B G J n ⟨.bl _,H,I,rfl,q⟩
def Sn(n:X.A.units+64<cLine):eJ X (fT .NotEq) (yP X.K):=by intro pins s σ H x y v u Q I D F h;show ja h λd e hd j G J q=>?_;clear h;obtain⟨as,z⟩:=Dp.reads I d x v hd D;obtain⟨L,B⟩:=Dp.reads I e y u j F;show SeqAt.compareNe_shaped z B G J n ⟨.bl _,H,I,rfl,q⟩
end
end L2
namespace L2
open PySem PySem.Spec PyProof.Rows
abbrev DX(h:aH)(c:ab)(v:Option af):Prop:=h.IsCell c v
def Tz(scope j:Scope):Scope:=
 {scope with names:=scope.names.map λ(n,k)=>if(k == .free&&j.kind == .function&&j.names.lookup n==some .cell)then(n,.cell)else(n,k)}
def hJ(cells:List (Str×ab)):List (Str×jy)->List (Str×ab)->List (Str×ab)
 |[],acc=>acc
 |(n,k)::r,acc=>if k == .free then hJ cells r ((n,(cells.lookup n).getD 0)::acc)else hJ cells r acc
def Fw(env:Env)(f:Str×jy->List (Str×ab)->Sem (ForInStep (List (Str×ab))))
  (hf:∀n k c,f (n,k) c=if k == .free then(do let a <-cellOf env n;pure (.yield ((n,a)::c)))else pure (.yield c)):
  ∀(names:List (Str×jy))(acc:List (Str×ab)),(∀y∈names,y.2= .free->∃c,env.cells.lookup y.1=some c)->forIn names acc f=pure (hJ env.cells names acc)
 |[],acc,_=>by rw[List.forIn_nil];rfl
 |(n,k)::r,acc,h=>by
  rw[List.forIn_cons,hf];have ih:=λacc=>Fw env f hf r acc λy hy=>h y (du _ hy);unfold hJ;by_cases hk:(k==NameKind.free)=true
  .rw[QG hk,QG hk];obtain⟨c,hc⟩:=h (n,k) cZ (by simpa using hk);have e:cellOf env n=pure c:=by unfold cellOf;rw[hc]
   rw[e];have e2:(env.cells.lookup n).getD 0=c:=by rw[hc];rfl
   rw[e2];show ih _
  .rw[QH hk,QH hk];show ih _
def Nm{scope:Scope}{env:Env}(h:∀y∈scope.names,y.2= .free->∃c,env.cells.lookup y.1=some c):closureFor scope env=pure (hJ env.cells scope.names []):=by simp only[closureFor];rw[Fw env _ (λn k c=>rfl) scope.names [] h];rfl
def mem_lookup{α:Type}:∀{l:List (Str×α)}{n:Str}{c:α},(n,c)∈l->∃j,l.lookup n=some j
 |(k,v)::r,n,c,h=>by
  rw[rZ];cases q:n==k with
  |true=>show⟨_,rfl⟩
  |false=>
   rcases bG.mp h with e | h
   .cases e;simp at q
   .show mem_lookup h
def xR{cells:List (Str×ab)}:∀{names:List (Str×jy)}{acc:List (Str×ab)}{n:Str}{c:ab},(n,c)∈hJ cells names acc->(n,c)∈acc\/((n,.free)∈names/\c=(cells.lookup n).getD 0)
 |[],_,_,_,h=> .inl h
 |(m,k)::r,acc,n,c,h=>by
  unfold hJ at h;split at h
  .rename_i j;have j:k= .free:=by simpa using j
   rcases xR h with h | ⟨h1,h2⟩
   .rcases bG.mp h with e | h
    .cases e;show .inr ⟨j▸cZ,rfl⟩
    .show .inl h
   .show .inr ⟨du _ h1,h2⟩
  .rcases xR h with h | ⟨h1,h2⟩
   .show .inl h
   .show .inr ⟨du _ h1,h2⟩
def AU{cells:List (Str×ab)}:∀{names:List (Str×jy)}{acc:List (Str×ab)}{p:Str×ab},p∈acc->p∈hJ cells names acc
 |[],_,_,h=>h
 |(m,k)::r,acc,p,h=>by
  unfold hJ;split
  .show AU (du _ h)
  .show AU h
def AV{cells:List (Str×ab)}:∀{names:List (Str×jy)}{acc:List (Str×ab)}{n:Str},(n,.free)∈names->(n,(cells.lookup n).getD 0)∈hJ cells names acc
 |(m,k)::r,acc,n,h=>by
  unfold hJ;rcases bG.mp h with e | h
  .cases e;show AU cZ
  .split
   .show AV h
   .show AV h
def vh:∀{names:List (Str×jy)}{h:aH}{acc:List (Str×ab)}{x:Str}{c:ab},(x,c)∈cellsFrom h.objs.size names acc->
  (x,c)∈acc\/((x,.cell)∈names/\h.objs.size<=c/\DX (pushCells h names) c none)
 |[],_,_,_,_,h=> .inl h
 |(n,k)::r,h,acc,x,c,j=>by
  unfold cellsFrom at j;unfold pushCells;split at j
  .rename_i q;rw[QG q];have q:k= .cell:=by simpa using q
   rw[<-iH h {cls:= .type "cell",data:= .cell none}]at j;rcases vh j with j | ⟨h1,h2,z⟩
   .rcases bG.mp j with e | j
    .cases e;show .inr ⟨q▸cZ,bo _,_,Cn r _ _ _ (fj _ rfl),rfl⟩
    .show .inl j
   .rw[iH]at h2;show .inr ⟨du _ h1,Ab h2,z⟩
  .rename_i q;rw[QH q];rcases vh j with j | ⟨h1,h2,z⟩
   .show .inl j
   .show .inr ⟨du _ h1,h2,z⟩
def xQ:∀{names:List (Str×jy)}{n:Nat}{acc:List (Str×ab)}{p:Str×ab},p∈acc->p∈cellsFrom n names acc
 |[],_,_,_,h=>h
 |(m,k)::r,n,acc,p,h=>by
  unfold cellsFrom;split
  .show xQ (du _ h)
  .show xQ h
def AR:∀{names:List (Str×jy)}{n:Nat}{acc:List (Str×ab)}{x:Str},(x,.cell)∈names->∃c,(x,c)∈cellsFrom n names acc
 |(m,k)::r,n,acc,x,h=>by
  unfold cellsFrom;rcases bG.mp h with e | h
  .cases e;show⟨n,xQ cZ⟩
  .split
   .show AR h
   .show AR h
def AS:∀{names:List (Str×jy)}{h:aH}{acc:List (Str×ab)}{x y:Str}{c:ab},(∀p∈acc,p.2<h.objs.size)->(∀x y c,(x,c)∈acc->(y,c)∈acc->x=y)->
  (x,c)∈cellsFrom h.objs.size names acc->(y,c)∈cellsFrom h.objs.size names acc->x=y
 |[],_,_,_,_,_,_,hi,h1,h2=>hi _ _ _ h1 h2
 |(n,k)::r,h,acc,x,y,c,hl,hi,h1,h2=>by
  unfold cellsFrom at h1 h2;split at h1
  .rename_i j;rw[QG j]at h2;rw[<-iH h {cls:= .type "cell",data:= .cell none}]at h1 h2;show AS (h:=h.push _) (λp q=>?_) (λx y c a b=>?_) h1 h2
   .rw[iH];rcases bG.mp q with rfl | q
    .show kW _
    .show xh (hl p q)
   .rcases bG.mp a with e | a<;>rcases bG.mp b with z | b
    .cases e;cases z;rfl
    .cases e;show absurd (hl _ b) (kU _)
    .cases z;show absurd (hl _ a) (kU _)
    .show hi _ _ _ a b
  .rename_i j;rw[QH j]at h2;show AS hl hi h1 h2
def Ri{M:Model}{A:dj}{E:af->ao->Prop}{s:ao}{scope:Scope}{z:ab}{j:List (Str×ab)}{G:Str}{F:Option ab}{D:af}{B:Env}{q:ab}{Q:Env->ao->Prop}
  (h:Q (newEnv scope s.heap.objs.size z (cellsFrom (s.heap.objs.size+1) scope.names j) G F D (some B) q)
   {s with heap:=pushCells (s.heap.push {cls:= .type "dict",data:= .dict #[]}) scope.names}):
  aM M A (newFunctionEnv scope z j [] G F D (some B) q) Q E s:=by
 simp only[newFunctionEnv,Option.isSome_some,if_true];show aN (wpAny_alloc ?_);show aN (wpAny_layCells _ (λn k c=>rfl) scope.names j _ _ ?_);rw[show({s with heap:=s.heap.push {cls:= .type "dict",data:= .dict #[]}}:ao).heap.objs.size=s.heap.objs.size+1 from iH ..];rw[List.forIn_nil];show aN (bD (bD h))
def BK{j:Scope}:∀{names:List (Str×jy)}{x:Str}{k:jy},
  (names.map λ(n,k)=>if(k==NameKind.free&&j.kind == .function&&j.names.lookup n==some .cell)then(n,NameKind.cell)else(n,k)).lookup x=some k->
  ∃B,names.lookup x=some B/\(k=B\/(B= .free/\k= .cell))
 |[],_,_,h=>by simp at h
 |(n,k₀)::r,x,k,h=>by
  have D:=@BK j r x k;have h':qp x ((if(k₀==NameKind.free&&j.kind == .function&&j.names.lookup n==some .cell)=true then(n,NameKind.cell)else(n,k₀))::(r.map _))=some k:=h;cases z:x==n with
  |true=>
   simp only[rZ,z];by_cases q:(k₀==NameKind.free&&j.kind == .function&&j.names.lookup n==some .cell)=true
   .rw[QG q]at h';simp only[rZ,z]at h';cases h';simp only[eC,beq_iff_eq]at q;show⟨k₀,rfl,.inr ⟨q.1.1,rfl⟩⟩
   .rw[QH q]at h';simp only[rZ,z]at h';cases h';show⟨_,rfl,.inl rfl⟩
  |false=>
   simp only[rZ,z];by_cases q:(k₀==NameKind.free&&j.kind == .function&&j.names.lookup n==some .cell)=true
   .rw[QG q]at h';simp only[rZ,z]at h';show D h'
   .rw[QH q]at h';simp only[rZ,z]at h';show D h'
structure ux(N:List Str)(sc scope:Scope)(own:List (Str×Nat)):Prop where
 kind:scope.kind= .function
 uniq:∀y∈scope.names,scope.names.lookup y.1=some y.2
 ix:∀p∈own,N[p.2]? =some p.1
 free:∀y∈scope.names,y.2= .free->sc.names.lookup y.1=some .cell\/sc.names.lookup y.1=some .free
 own:∀y∈scope.names,y.2= .local\/y.2= .cell->y.1∈own.map (·.1)\/y.1∉N
def wipe(σ:St):List Nat->St
 |[]=>σ
 |v::vs=>(wipe σ vs).set v none
def DL(σ:St):∀j:List Nat,(wipe σ j).length=σ.length
 |[]=>rfl
 |v::j=>by unfold wipe;rw[uD,DL σ j]
def DM{σ:St}{i:Nat}{x:V}:∀{vs:List Nat},(wipe σ vs)[i]? =some (some x)->σ[i]? =some (some x)/\i∉vs
 |[],h=>⟨h,QD⟩
 |v::vs,h=>by
  unfold wipe at h;by_cases hi:v=i
  .subst hi;by_cases j:v<(wipe σ vs).length
   .rw[zT j]at h;cases h
   .rw[qm (by simpa using j)]at h;cases h
  .rw[zS hi]at h;obtain⟨h1,h2⟩:=DM h;show⟨h1,by simp only[bG,not_or];show⟨λe=>hi e.symm,h2⟩⟩
abbrev Cx.iz(X:Cx)(s:ao)(H:Hp)(scope:Scope)(j:Env)(n:List ab):Cx:={X with iT:=s,qe:=H,env:=j,outer:=X.stack,ex:=n,fn:=λx=>scope.names.lookup x==some .cell,pn:= [],xe:=λ_ _=>False}
section
variable {X:Cx}{pins:List (ab×Obj)}{σ:St}{H:Hp}{s:ao}
def L8{scope:Scope}{own:List (Str×Nat)}{fp:List ab}(I:Inv X pins σ H s)(Y:ux X.N X.env.scope scope own)(hN:X.N.Nodup)(G:∀b∈fp,lR X pins H b/\b<s.heap.objs.size):
  Inv (X.iz s H scope (compEnvC scope (cellsFrom (s.heap.objs.size+1) scope.names (hJ X.env.cells scope.names [])) s.heap.objs.size X.env) fp) [] (wipe σ (own.map (·.2))) H {s with heap:=pushCells (s.heap.push {cls:= .type "dict",data:= .dict #[]}) scope.names}:=by
 have Z:∀y∈scope.names,y.2= .free->∃c,X.env.cells.lookup y.1=some c:=λy O e=>by
  rcases Y.free y O e with k | k
  .show I.ok.has _ (.inl k)
  .show I.ok.has _ (.inr k)
 generalize B:compEnvC scope (cellsFrom (s.heap.objs.size+1) scope.names (hJ X.env.cells scope.names [])) s.heap.objs.size X.env=j;have kp:∀b o,s.heap.get? b=some o->(pushCells (s.heap.push {cls:= .type "dict",data:= .dict #[]}) scope.names).get? b=some o:=λb o e=>Cn _ _ _ _ (ed _ e);have hL:j.locals=s.heap.objs.size:=by rw[<-B];rfl
 have D:j.cells=cellsFrom (s.heap.objs.size+1) scope.names (hJ X.env.cells scope.names []):=by rw[<-B];rfl
 have a3:j.scope=Tz scope X.env.scope:=by rw[<-B];rfl
 rw[<-iH s.heap {cls:= .type "dict",data:= .dict #[]}]at D;have cm:∀{y c},(y,c)∈hJ X.env.cells scope.names []->X.env.cells.lookup y=some c/\c<s.heap.objs.size:=λ{y c} J=>by
  rcases xR J with J | ⟨h1,rfl⟩
  .cases J
  .obtain⟨c,hc⟩:=Z _ h1 rfl;rw[hc];obtain⟨w,z⟩:=I.cell _ _ hc;show⟨rfl,z.lt⟩
 have a4:∀{y c},j.cells.lookup y=some c->(X.env.cells.lookup y=some c/\c<s.heap.objs.size)\/(s.heap.objs.size+1<=c/\DX (pushCells (s.heap.push {cls:= .type "dict",data:= .dict #[]}) scope.names) c none):=λ{y c} e=>by
  rw[D]at e;rcases vh (jR e)with J | ⟨_,h2,h3⟩
  .show .inl (cm J)
  .rw[iH]at h2;show .inr ⟨h2,h3⟩
 have look:∀{y},scope.names.lookup y=some .free->∃c,j.cells.lookup y=some c/\X.env.cells.lookup y=some c:=λ{y} hl=>by
  have O:(y,NameKind.free)∈scope.names:=jR hl;obtain⟨c',F⟩:=mem_lookup (xQ (names:=scope.names) (n:=(s.heap.push {cls:= .type "dict",data:= .dict #[]}).objs.size) (AV (cells:=X.env.cells) (acc:= []) O));rw[<-D]at F;exists c',F;rw[D]at F;rcases vh (jR F)with J | ⟨h1,_,_⟩
  .show(cm J).1
  .have:=Y.uniq _ h1;rw[hl]at this;cases this
 have b3:(X.iz s H scope j fp).Ok:=by
  show⟨I.ok.mod,by show j.scope.kind=_;rw[a3];show Y.kind,by show j.globals=_;rw[<-B];show I.ok.glob,by show j.builtins=_;rw[<-B];show I.ok.blt,by show s.heap.objs.size<=j.locals;rw[hL];show bo _,
   λy z c S U=>?_,λy O=>?_,λy c z e=>?_,I.ok.hd,I.ok.frames,.inl rfl,λb V=>⟨?_,λy c e z=>?_⟩,I.bs,dE I.ok.nS I.sz,λb o e V=>?_,λb V z=>?_,I.stack,I.Kz⟩
  .have S:j.cells.lookup y=some c:=S;have U:j.cells.lookup z=some c:=U;rw[D]at S U;show AS (λp hp=>?_) (λy z c a b=>I.ok.inj y z c (cm a).1 (cm b).1) (jR S) (jR U);rw[iH];show xh (cm (y:=p.1) (c:=p.2) hp).2
  .show ∃c,j.cells.lookup y=some c;have key:∀k,j.kindOf y=some k->(k= .cell\/k= .free)->∃c,j.cells.lookup y=some c:=λk hk a0=>by
    unfold Env.kindOf at hk;rw[a3]at hk;show ai (BK hk) λW e r=>?_;have:W= .cell\/W= .free:=by
     rcases r with rfl | ⟨rfl,_⟩
     .show a0
     .show .inr rfl
    rcases this with rfl | rfl
    .obtain⟨c,J⟩:=AR (n:=(s.heap.push {cls:= .type "dict",data:= .dict #[]}).objs.size) (acc:=hJ X.env.cells scope.names []) (jR e);obtain⟨c',F⟩:=mem_lookup J;show⟨c',by rw[D];show F⟩
    .show ai (look e) λc h1 _=>?_;show⟨c,h1⟩
   rcases O with O | O
   .show key _ O (.inl rfl)
   .show key _ O (.inr rfl)
  .have z:(scope.names.lookup y==some NameKind.cell)=true:=z;have z:scope.names.lookup y=some .cell:=by simpa using z
   have e:j.cells.lookup y=some c:=e;rw[D]at e;rcases vh (jR e)with J | ⟨_,h2,_⟩
   .rcases xR J with J | ⟨h1,_⟩
    .cases J
    .have q:=Y.uniq _ h1;rw[z]at q;cases q
   .rw[iH]at h2;show Ab h2
  .show b≠j.locals;rw[hL];show eU (G b V).2
  .have e:j.cells.lookup y=some c:=e;rcases a4 e with⟨h1,_⟩ | ⟨h1,_⟩
   .show(G b V).1.2.2.2.2.1 y c h1 z
   .have h2:s.heap.objs.size+1<=b:=by rw[<-z];show h1
    show absurd (gY (G b V).2 (Ab h2)) (kU _)
  .rcases(G b V).1.2.2.2.1 with z | z
   .show I.ok.vO b o e z
   .show absurd (gY (dU e) (dE I.ok.nS z)) (kU _)
  .rcases bG.mp (I.Dn b z)with z | z
   .show(G b V).1.2.1 z
   .show(G b V).1.2.2.1 z
 show⟨b3,rfl,I.bare,Un.kept kp,⟨λ_=>none,?_,λi y av S U L=>?_⟩,λy c e=>?_,?_,λy c e=>?_,λp hp=>?_,I.aA.kept kp,by rw[DL];show I.len⟩
 .show Heap.Ns _ j.locals _;rw[hL];show Heap.Ns.keeps (Heap.Ns.new ..) λb o e=>Cn _ _ _ _ e
 .obtain⟨U,b1⟩:=DM U;have M:scope.names.lookup y=some .free/\(j.kindOf y=some .cell\/j.kindOf y=some .free):=by
   have key:∀k,j.scope.names.lookup y=some k->k= .local\/k= .cell\/k= .free->scope.names.lookup y=some .free/\(j.kindOf y=some .cell\/j.kindOf y=some .free):=λk hk a0=>by
    have a5:=hk;rw[a3]at hk;show ai (BK hk) λW e r=>?_;have no:¬ (W= .local\/W= .cell):=λhh=>by
     rcases Y.own _ (jR e) hh with F | F
     .show ai (dM.mp F) λp hp b2=>?_;have L:=Y.ix p hp;have:p.1=y:=b2;rw[this]at L;show b1 (dM.mpr ⟨p,hp,BR hN L S⟩)
     .show F (dD S)
    rcases r with rfl | ⟨rfl,rfl⟩
    .rcases a0 with rfl | rfl | rfl
     .show absurd (.inl rfl) no
     .show absurd (.inr rfl) no
     .show⟨e,.inr a5⟩
    .show⟨e,.inl a5⟩
   have L:sG j.scope y:=L;rcases L with L | L | L
   .show key _ L (.inl rfl)
   .show key _ L (.inr (.inl rfl))
   .show key _ L (.inr (.inr rfl))
  show ai I.loc λm hn hl=>?_;have b0:sG X.env.scope y:=(Y.free _ (jR M.1) rfl).elim (λk=> .inr (.inl k)) (λk=> .inr (.inr k));show ai (hl i y av S U b0) λw r q=>?_;show⟨w,r,.inr ⟨M.2,?_⟩⟩;show ai (look M.1) λc h1 h2=>?_;rcases q with⟨k,_⟩ | ⟨_,c',F,z⟩
  .have k:X.env.scope.names.lookup y=some .local:=k;rcases Y.free _ (jR M.1) rfl with W | W<;>rw[show X.env.scope.names.lookup y=_ from W]at k<;>cases k
  .rw[h2]at F;cases F;show⟨c,h1,z.keeps kp⟩
 .have e:j.cells.lookup y=some c:=e;rcases a4 e with⟨h1,_⟩ | ⟨_,z⟩
  .obtain⟨w,z⟩:=I.cell y c h1;show⟨w,z.keeps kp⟩
  .show⟨_,z⟩
 .show H j.locals=none;rw[hL];show I.aA.fresh (bo _)
 .have e:j.cells.lookup y=some c:=e;rcases a4 e with⟨h1,_⟩ | ⟨h1,_⟩
  .show I.kF y c h1
  .show I.aA.fresh (Ab h1)
 .show absurd (show p∈([]:List (ab×Obj))++[]from hp) QD
def LW{E:af->ao->Prop}{D:ab}{xs:List V}{y:V}{v:af}{Q:af->ao->Prop}(I:Inv X pins σ H s)(B:H D=some (.lst xs))(hz:xs.length<dc)(r:RelV y v)
  (h:∀s',Inv X pins σ (upd H D (.lst (xs++[y]))) s'->Q .none s'):aM (model X.prog X.w) X.A (call (.builtin "list.append") [.ref D,v]) Q E s:=by
 show eg (I.aA D _ B) λJ j=>eB j λits n F e=>?_;clear j;have M:=F.length;show append_at (hsz:=by rw[fg];omega) e λh' L z=>?_;show h {s with heap:=h'} (I.write (t':=s.toks) (by rw[B];trivial) (.inl rfl) (λb u G q=>(L.2 b G).trans q) ⟨_,z⟩ ⟨by rw[aP];show hz,its++[v],n+1,F.append (.cons r .nil),?_⟩);rw[z];simp
def uH(X:Cx)(j:List Expr)(t:TT):Prop:=
 ∀(pins:List (ab×Obj))(s:ao)(σ:St)(H:Hp)(Q:Bool->Hp->Prop),Inv X pins σ H s->t σ H Q->
  aM (model X.prog X.w) X.A (forIn j true λc r=>if r=true then do let ok <-isTrue c X.env (eval c X.env);pure (ForInStep.yield ok)else pure (ForInStep.yield r)) (TP X pins σ Q) X.xe s
def cu:TT:=λ_ H Q=>Q true H
def oy:uH X [] cu:=λ_ _ _ H _ I h=>wpAny_tests_nil ⟨H,I,h⟩
def wb{c:Expr}{t:TT}(h:PT X c t):uH X [c] t:=λpins s σ H Q I j=>wpAny_tests_one (h pins s σ H Q I j)
end
def ui{α:Type}{t:Sem α}{Q j:α->ao->Prop}{M:Model}{A:dj}{E:af->ao->Prop}{s:ao}(h:aM M A t Q (λ_ _=>False) s)(n:∀a s,Q a s->j a s):aM M A t j E s:=lL h n λ_ _ z=>False.elim z
def Np{prog:aE}{w:aC}{A:dj}{R:Result->ao->Prop}{s:ao}{elt j q:Expr}{z:List Expr}{scope:Scope}{pos:Pos}{it acc:af}{env:Env}(I:Nat->ao->Prop)
  (B:∀n s,I n s->aM (model prog w) A (pyNext it) (λr s₁=>match r with
   |none=>R (.ok .next) s₁
   |some v=>aM (model prog w) A (letOwnedTupleGo j it v) (λ_ s₁'=>aM (model prog w) A (assign j env v) (λ_ s₂=>
     aM (model prog w) A (forIn z true λc r=>if r=true then do let ok <-isTrue c env (eval c env);pure (ForInStep.yield ok)else pure (ForInStep.yield r)) (λok s₃=>
      if ok=true then aM (model prog w) A (eval elt env) (λx s₄=>
       aM (model prog w) A (call (.builtin "list.append") [acc,x]) (λ_ s₅=>∃m,m<n/\I m s₅) (notedBy (model prog w) A env λe s'=>R (.error e) s') s₄) (notedBy (model prog w) A env λe s'=>R (.error e) s') s₃
      else ∃m,m<n/\I m s₃) (notedBy (model prog w) A env λe s'=>R (.error e) s') s₂) (notedBy (model prog w) A env λe s'=>R (.error e) s') s₁') (notedBy (model prog w) A env λe s'=>R (.error e) s') s₁) (notedBy (model prog w) A env λe s'=>R (.error e) s') s)
  (n:Nat) (h:I n s):
  codeAny (model prog w) A (.compLoop (.ListComp elt [⟨j,q,z,0⟩] scope pos) 0 it acc env) R s:=by
 show codeAny_loop rfl I (λn s D=>?_) n h;show aM _ A ((compTurn (.ListComp elt [⟨j,q,z,0⟩] scope pos) 0 it acc env).onRaise (λx=>do noteFrame x env;theTreesLotGoes x)) _ _ s;show wpAny_noted ?_;rw[compTurn_list];show aN (wpAny_standAt (aN (lL (B n s D) (λr s₁ h₁=>?_) λ_ _ h'=>h')));cases r with
 |none=>show bD h₁
 |some v=>
  show aN (lL h₁ (λ_ s₁' h₁'=>?_) λ_ _ h'=>h');show aN (lL h₁' (λ_ s₂ h₂=>aN (lL h₂ (λok s₃ h₃=>?_) λ_ _ h'=>h')) λ_ _ h'=>h');cases ok with
  |false=>show bD ⟨rfl,h₃⟩
  |true=>show aN (aN (lL h₃ (λx s₄ h₄=>aN (lL h₄ (λ_ s₅ h₅=>bD (bD ⟨rfl,h₅⟩)) λ_ _ h'=>h')) λ_ _ h'=>h'))
section
variable {X:Cx}
def KL(F:TI)(g:TG)(B:TT)(te:TE)(vs:List Nat):TE:=λσ H Q=>F σ H λJ H1=>∀D,H1 D=none->∃W:Nat->Nat->Hp->Prop,(∃m,W 0 m (upd H1 D (.lst [])))/\∀i m H,W i m H->
 (J.stop i H/\Q (.ref D) H)\/(J.go i H/\∃j:Hp->Prop,(∀H',j H'->∃z,z<m/\W (i+1) z H')/\∀x H',J.kM i H x H'->g x (wipe σ vs) H' λσ2 H2=>wipe σ2 vs=wipe σ vs/\B σ2 H2 λb n=>
  if b=true then te σ2 n λy q=>∃acc,q D=some (.lst acc)/\acc.length<dc/\j (upd q D (.lst (acc++[y])))else j n)
def QU{pins:List (ab×Obj)}{s:ao}{σ:St}{H:Hp}{Q:VK}{elt tg L:Expr}{V:List Expr}{scope:Scope}{own:List (Str×Nat)}{pos pos':Pos}{wi:TI}{g:TG}{tt:TT}{te:TE}{use:Option (af->Sem Unit)}{Qf:af->ao->Prop}
  (hc:X.calm=true) (hN:X.N.Nodup) (I:Inv X pins σ H s) (hi:PI X tg L wi) (ok:ux X.N X.env.scope scope own)
  (hg:∀(s:ao)(H:Hp)(C:ab)(cl:List (Str×ab))(F:List ab),PG (X.iz s H scope (compEnvC scope cl C X.env) F) tg g) (ht:∀(s:ao)(H:Hp)(C:ab)(cl:List (Str×ab))(F:List ab),uH (X.iz s H scope (compEnvC scope cl C X.env) F) V tt)
  (he:∀(s:ao)(H:Hp)(C:ab)(cl:List (Str×ab))(F:List ab),PE (X.iz s H scope (compEnvC scope cl C X.env) F) elt te) (hs:∀x,foldedSetIterable L X.env x=pure x)
  (h:KL wi g tt te (own.map (·.2)) σ H Q)
  (c7:∀D C s' m H',Inv X pins σ H' s'->Q (.ref D) H'->s'.heap.Ns C m->lR X pins H' C->compPost (model X.prog X.w) X.A X.xe use Qf (.ref D) C (.ok .next) s'):
  aM (model X.prog X.w) X.A (comprehension (.ListComp elt [⟨tg,L,V,0⟩] scope pos) scope X.env pos' (newList []) false (eval L X.env) use) Qf X.xe s:=by
 have a3:∀y∈scope.names,y.2= .free->∃c,X.env.cells.lookup y.1=some c:=λy hy e=>by
  rcases ok.free y hy e with k | k
  .show I.ok.has _ (.inl k)
  .show I.ok.has _ (.inr k)
 show wpAny_comprehension_free (use:=use) rfl hs (Nm a3) ok.kind (λy hy e=>by rw[ok.uniq y hy,e])
  (br (hi pins s σ H _ I h) λxv s1 hx=>br hx λe0 s2 h2=>?_)
 show e5_1 h2 λit F tn J H2 Y=>fK Y λe I2 T b7 f2 q=>?_;clear Y;subst h2 e;show ur (Ri ?_) (by show 0<=dc;decide);generalize hD:s2.heap.objs.size=D;have c5:H2 D=none:=I2.aA.fresh (Aa hD);show ai (q D c5) λW b5 c1=>?_;obtain⟨m0,w0⟩:=b5
 -- the new list
 generalize b1:({s2 with heap:=s2.heap.push {cls:= .type "list",data:= .seq ([]:List af).toArray}}:ao)=B;have I3:Inv X pins σ (upd H2 D (.lst [])) B:=by rw[<-b1];show I2.laid (t':=s2.toks) (λb o e=>ed _ e) (Aa hD) ⟨cT _,[],0,.nil,?_⟩;rw[<-hD];show fj _ rfl
 have h3:B.heap=s2.heap.push {cls:= .type "list",data:= .seq ([]:List af).toArray}:=by rw[<-b1]
 have sz:∀b∈F,b<s2.heap.objs.size:=λb G=>by show ai (T.obj _ _ b7 b G) λo e _=>?_;show dU e
 have f3:∀b∈F,lR X pins (upd H2 D (.lst [])) b/\b<B.heap.objs.size:=λb G=>by have b0:=sz b G;show⟨⟨?_,(f2 b G).2⟩,by rw[h3,iH];show xh b0⟩;rw[az (by rw[<-hD];show eU b0)];show(f2 b G).1
 have d2:tn 0 B.heap:=T.keep _ _ _ b7 λb _ o e=>by rw[h3];show ed _ e
 have I4:=L8 I3 ok hN f3;have pg:=hg B (upd H2 D (.lst [])) B.heap.objs.size (cellsFrom (B.heap.objs.size+1) scope.names (hJ X.env.cells scope.names [])) F;have pt:=ht B (upd H2 D (.lst [])) B.heap.objs.size (cellsFrom (B.heap.objs.size+1) scope.names (hJ X.env.cells scope.names [])) F;have pe:=he B (upd H2 D (.lst [])) B.heap.objs.size (cellsFrom (B.heap.objs.size+1) scope.names (hJ X.env.cells scope.names [])) F;show codeAny _ _ (.compStart (.ListComp elt [⟨tg,L,V,0⟩] scope pos) 0 (.ref it) (.ref D) (compEnvC scope (cellsFrom (B.heap.objs.size+1) scope.names (hJ X.env.cells scope.names [])) B.heap.objs.size X.env)) (compPost (model X.prog X.w) X.A X.xe use Qf (.ref D) B.heap.objs.size) {B with heap:=pushCells (B.heap.push {cls:= .type "dict",data:= .dict #[]}) scope.names};have b4:∀b∈F,(upd H2 D (.lst [])) b=none:=λb G=>(f3 b G).1.1;generalize c8:compEnvC scope (cellsFrom (B.heap.objs.size+1) scope.names (hJ X.env.cells scope.names [])) B.heap.objs.size X.env=O at I4 pg pt pe ⊢;have cL:O.locals=B.heap.objs.size:=by subst c8;rfl
 generalize d8:upd H2 D (.lst [])=U at I3 I4 pg pt pe w0 b4 f3;generalize c9:({B with heap:=pushCells (B.heap.push {cls:= .type "dict",data:= .dict #[]}) scope.names}:ao)=s4 at I4 ⊢;have b8:tn 0 s4.heap:=T.keep _ _ _ d2 λb _ o e=>by rw[<-c9];show Cn _ _ _ _ (ed _ e)
 have S:∀{σ':St}{H':Hp}{s':ao},Inv (X.iz B U scope O F) [] σ' H' s'->(∀b∈F,H' b=none)->∀b∈F,lR (X.iz B U scope O F) [] H' b:=λ{σ' H' s'} I' hn b G=>
  ⟨hn b G,(I'.ok.xZ b G).1,I'.ok.vz b G,.inl G,λx c e=>(I'.ok.xZ b G).2 x c e,λp hp=>absurd (show p∈([]:List (ab×Obj))++[]from hp) QD⟩
 have Z:codeAny (model X.prog X.w) X.A (.compLoop (.ListComp elt [⟨tg,L,V,0⟩] scope pos) 0 (.ref it) (.ref D) O) (compPost (model X.prog X.w) X.A X.xe use Qf (.ref D) B.heap.objs.size) s4:=by
  show Np (λn s'=>∃i H',Inv (X.iz B U scope O F) [] (wipe σ (own.map (·.2))) H' s'/\tn i s'.heap/\(∀b∈F,H' b=none)/\W i n H') ?_ m0 ⟨0,U,I4,b8,b4,w0⟩;intro n s5 M;show fO M λi H5 I5 c0 n5 w5=>?_;clear M;rcases c1 i n H5 w5 with⟨stop,qq⟩ | ⟨go,Nx,c6,step⟩
  .have td:=T.done (X.iz B U scope O F) rfl rfl rfl hc i [] s5 _ H5 (λ_ _=>False) I5 (S I5 n5) c0 stop;show ui td λr s6 ⟨hr,I6⟩=>?_;subst hr
   -- back in the def's context
   have I7:Inv X pins σ H5 s6:=I3.MN (ch:=F) I6.os I6.base I6.aA I6.bare λb G=>⟨(f3 b G).1.2.2.2.1,(f3 b G).1.2.1,(f3 b G).1.2.2.2.2.1,(f3 b G).1.2.2.2.2.2⟩;have nC:H5 B.heap.objs.size=none:=by have z:H5 O.locals=none:=I6.free;rw[cL]at z;show z
   show ai I6.loc λm hn _=>?_;have hn:s6.heap.Ns O.locals m:=hn;rw[cL]at hn;show c7 D B.heap.objs.size s6 m H5 I7 qq hn (I3.qQ (bo _) nC)
  .have ti:=T.item (X.iz B U scope O F) rfl rfl rfl hc i [] s5 _ H5 (λ_ _=>False) I5 (S I5 n5) c0 go;show ui ti λr s6 ⟨u,hr,h6⟩=>?_;subst hr;show ui h6 λ_ s7 hz=>ja hz λx H7 I7 r7 y7 a4 n7=>?_;have c4:=I7.pinned (S I7 n7) (T.obj _ _ a4);show ui (pg _ s7 _ H7 x u _ c4 r7 (step x H7 y7)) λ_ s8 hz=>bp hz λσ8 H8 I8 b2 q8=>?_;show ui (pt _ s8 σ8 H8 _ I8 q8) λb s9 hz=>ai hz λH9 I9 q9=>?_
   -- the turn's end
   have fin:∀{s':ao}{H':Hp},Inv (X.iz B U scope O F) ([]++vX F s7.heap) σ8 H' s'->Nx H'->∃m,m<n/\∃i H',Inv (X.iz B U scope O F) [] (wipe σ (own.map (·.2))) H' s'/\tn i s'.heap/\(∀b∈F,H' b=none)/\W i m H':=λ{s' H'} I' nx=>by
    show ai (c6 H' nx) λm' hm w'=>?_;have a0:∀b∈F,∀o,s7.heap.get? b=some o->s'.heap.get? b=some o/\H' b=none:=λb G o e=>
     let z:=I'.pin (b,o) (qt _ (qt _ (BO G e)))
     ⟨z.1,z.2.1⟩
    have hl:(wipe σ (own.map (·.2))).length=σ8.length:=by rw[<-b2,DL]
    show⟨m',hm,i+1,H',(I'.zq (pins:= [])).weak hl (λj v e=>?_),T.keep _ _ _ a4 λb G o e=>(a0 b G o e).1,λb G=>?_,w'⟩
    .rw[<-b2]at e;show(DM e).1
    .show ai (T.obj _ _ a4 b G) λo e _=>?_;show(a0 b G o e).2
   cases b with
   |false=>simp only[rO,if_false]at q9 ⊢;show fin I9 q9
   |true=>simp only[if_true]at q9 ⊢;show ui (pe _ s9 σ8 H9 _ I9 q9) λz e1 ⟨yv,d3,c2,d1,acc,a5,b3,nx⟩=>?_;show LW (X:=X.iz B U scope O F) c2 a5 b3 d1 λe2 c3=>fin c3 nx
 show codeAny_compStart_list Z (T.self X.A 0 _ _ _ b8 Z)
def SI{elt tg j:Expr}{z:List Expr}{scope:Scope}{own:List (Str×Nat)}{pos:Pos}{F:TI}{g:TG}{B:TT}{te:TE}(W:X.calm=true)(U:X.N.Nodup)(hi:PI X tg j F)(ok:ux X.N X.env.scope scope own)
  (Z:∀(s:ao)(H:Hp)(C:ab)(cl:List (Str×ab))(n:List ab),PG (X.iz s H scope (compEnvC scope cl C X.env) n) tg g) (ht:∀(s:ao)(H:Hp)(C:ab)(cl:List (Str×ab))(n:List ab),uH (X.iz s H scope (compEnvC scope cl C X.env) n) z B)
  (Y:∀(s:ao)(H:Hp)(C:ab)(cl:List (Str×ab))(n:List ab),PE (X.iz s H scope (compEnvC scope cl C X.env) n) elt te) (hs:∀x,foldedSetIterable j X.env x=pure x:=by intro _;rfl):
  PE X (.ListComp elt [⟨tg,j,z,0⟩] scope pos) (KL F g B te (own.map (·.2))):=by
 intro pins s σ H Q I h;rw[eval_ListComp];show QU W U I hi ok Z ht Y hs h λD C s' m H' G q hn f=>⟨m,hn,λS sb=>?_⟩;show fK f λJ f1 f2 L M O=>?_;clear f;show⟨.ref D,H',G.turned (t':=s'.toks) (λb o V e=>(sb.2 b V).trans e) J f1 L M O,rfl,q⟩
end
def E3(N:List Str)(j scope:Scope)(own:List (Str×Nat)):Bool:=
 (match scope.kind with | .function=>true | _=>false)&&(scope.names.all λy=>decide (scope.names.lookup y.1=some y.2))&&(own.all λp=>decide (N[p.2]? =some p.1)) &&
  (scope.names.all λy=>match y.2 with
   |.free=>(match j.names.lookup y.1 with | some .cell=>true | some .free=>true | _=>false)
   |.local=>decide (y.1∈own.map (·.1))||decide (y.1∉N)
   |.cell=>decide (y.1∈own.map (·.1))||decide (y.1∉N)
   |_=>true)
def jT{N:List Str}{z scope:Scope}{own:List (Str×Nat)}(h:E3 N z scope own=true):ux N z scope own:=by
 unfold E3 at h;simp only[eC,qj,QK]at h;obtain⟨⟨⟨h1,h2⟩,B⟩,n⟩:=h;show⟨?_,h2,B,λy j e=>?_,λy j e=>?_⟩
 .split at h1
  .assumption
  .cases h1
 .have q:=n y j;simp only[e]at q;split at q<;>first | show .inl QF | show .inr QF | cases q
 .have q:=n y j;rcases e with e | e<;>(simp only[e,uz,QK]at q;show q)
end L2
namespace L2
open PySem PySem.Spec PyProof.Rows
section
variable {prog:aE}{w:aC}{A:dj}{R:Result->ao->Prop}{s:ao}{elt t0 i0 t1 i1:Expr}{ifs0 ifs1:List Expr}{scope:Scope}{pos:Pos}{it acc:af}{env:Env}
end
section
variable {X:Cx}
end
end L2
namespace L2
open PySem PySem.Spec PyProof.Rows
section
variable {κ:Type} [DecidableEq κ]
def dm(kvs:List (κ×V))(k:κ):Option V:=(kvs.find? λj=>decide (j.1=k)).map (·.2)
def putK(kvs:List (κ×V))(k:κ)(v:V):List (κ×V):=
 if(kvs.any λj=>decide (j.1=k))=true then kvs.map (λj=>if j.1=k then(j.1,v)else j)else kvs++[(k,v)]
def mK{p:κ×V}{r:List (κ×V)}{k:κ}(e:p.1=k):dm (p::r) k=some p.2:=by simp[dm,mS,e]
def mJ{p:κ×V}{r:List (κ×V)}{k:κ}(e:¬p.1=k):dm (p::r) k=dm r k:=by simp[dm,mS,e]
def uk(k:κ):∀kvs:List (κ×V),(kvs.any λj=>decide (j.1=k))=(dm kvs k).isSome
 |[]=>rfl
 |p::r=>by
  rw[uA];by_cases e:p.1=k
  .simp only[mK e,QI e,Bool.true_or,Option.isSome_some]
  .rw[mJ e,QJ e,wW];show uk k r
def K3(k j:κ)(y:V):∀kvs:List (κ×V),dm (kvs.map λn=>if n.1=k then(n.1,y)else n) j=(dm kvs j).map λx=>if j=k then y else x
 |[]=>rfl
 |p::r=>by
  have q:=K3 k j y r;rw[eD];by_cases h:p.1=k
  .rw[QG h];by_cases e:p.1=j
   .rw[mK (p:=(p.1,y)) e,mK e,xo,QG (e.symm.trans h)]
   .rw[mJ (p:=(p.1,y)) e,mJ e,q]
  .rw[QH h];by_cases e:p.1=j
   .rw[mK (p:=p) e,mK e,xo,QH (λz=>h (e.trans z))]
   .rw[mJ (p:=p) e,mJ e,q]
def K4(k j:κ)(y:V):∀kvs:List (κ×V),dm kvs k=none->dm (kvs++[(k,y)]) j=if j=k then some y else dm kvs j
 |[],_=>by
  by_cases e:k=j
  .rw[QG e.symm];show mK (p:=(k,y)) e
  .rw[QH (λz=>e z.symm)];show mJ (p:=(k,y)) e
 |p::r,hn=>by
  rw[nJ];have n:¬p.1=k:=λz=>by rw[mK z]at hn;cases hn
  rw[mJ n]at hn;have q:=K4 k j y r hn;by_cases e:p.1=j
  .rw[mK e,mK e,QH (λz=>n (e.trans z))]
  .rw[mJ e,mJ e,q]
def DI(kvs:List (κ×V))(k j:κ)(y:V):dm (putK kvs k y) j=if j=k then some y else dm kvs j:=by
 unfold putK;by_cases a:(kvs.any λz=>decide (z.1=k))=true
 .rw[QG a,K3];rw[uk]at a;by_cases e:j=k
  .obtain⟨x,n⟩:=Er.mp a;rw[QG e,e,n,xo,QG rfl]
  .rw[QH e];cases dm kvs j with
   |none=>rfl
   |some x=>rw[xo,QH e]
 .rw[QH a];show K4 k j y kvs ?_;rw[uk]at a;cases q:dm kvs k with
  |none=>rfl
  |some x=>rw[q]at a;show(a rfl).elim
def tK(kvs:List (κ×V))(k:κ)(v:V):(putK kvs k v).length<=kvs.length+1:=by
 unfold putK;split
 .rw[ay];omega
 .rw[aP,aG,dC];omega
def ji.tu{o:Option V}{u:Option af}(r:ji o u):o.isSome=u.isSome:=by
 cases o with
 |none=>cases u with
  |none=>rfl
  |some _=>show(show False from r).elim
 |some _=>cases u with
  |none=>show(show False from r).elim
  |some _=>rfl
def ji.getD{o:Option V}{u:Option af}{d:V}{d':af}(r:ji o u)(rd:RelV d d'):RelV (o.getD d) (u.getD d'):=by
 cases o with
 |none=>cases u with
  |none=>show rd
  |some _=>show(show False from r).elim
 |some _=>cases u with
  |none=>show(show False from r).elim
  |some _=>show r
def KV.val{kvs:List (κ×V)}{vs:List (κ×af)}(r:KV kvs vs)(k:κ):ji (dm kvs k) (valueAt vs k):=by
 unfold KV at r;induction r with
 |nil=>show True.intro
 |@cons p q ps n h t B=>
  obtain⟨h1,h2⟩:=h;by_cases e:p.1=k
  .have j:q.1=k:=h1.symm.trans e;have b:valueAt (q::n) k=some q.2:=by simp[valueAt,mS,j]
   rw[mK e,b];show h2
  .have j:¬q.1=k:=λz=>e (h1.trans z);have b:valueAt (q::n) k=valueAt n k:=by simp[valueAt,mS,j]
   rw[mJ e,b];show B
def KV.any{kvs:List (κ×V)}{vs:List (κ×af)}(r:KV kvs vs)(k:κ):(kvs.any λj=>decide (j.1=k))=vs.any λj=>decide (j.1=k):=by
 unfold KV at r;induction r with
 |nil=>rfl
 |cons h t n=>rw[uA,uA,n,h.1]
def KV.Cr{kvs:List (κ×V)}{vs:List (κ×af)}(r:KV kvs vs)(k:κ){y:V}{u:af}(B:RelV y u):
  KV (kvs.map λj=>if j.1=k then(j.1,y)else j) (vs.map λj=>if j.1=k then(j.1,u)else j):=by
 unfold KV at r ⊢;induction r with
 |nil=>show .nil
 |@cons p q ps D h t n=>
  rw[eD,eD];show .cons ?_ n;obtain⟨h1,h2⟩:=h;by_cases e:p.1=k
  .rw[QG e,QG (h1.symm.trans e)];show⟨h1,B⟩
  .rw[QH e,QH (λz=>e (h1.trans z))];show⟨h1,h2⟩
def KV.put{kvs:List (κ×V)}{vs:List (κ×af)}(r:KV kvs vs)(k:κ){y:V}{u:af}(j:RelV y u):KV (putK kvs k y) (stored vs k u):=by
 unfold putK stored;rw[r.any k];by_cases e:(vs.any λn=>decide (n.1=k))=true
 .rw[QG e,QG e];show r.Cr k j
 .rw[QH e,QH e];show Paired.snoc r ⟨rfl,j⟩
def KV.length{kvs:List (κ×V)}{vs:List (κ×af)}(r:KV kvs vs):kvs.length=vs.length:=Paired.length r
end
def nu{P:aE}{w:aC}{k:Key}{u:af}(r:RelV (kV k) u):(fQ P w).is k u=true:=by
 cases k with
 |inl i=>obtain⟨t,e⟩:=(show ∃t,u=Value.int i t from r);subst e;show Q7 P w i t
 |inr x=>obtain⟨t,e⟩:=(show ∃t,u=Value.str x t from r);subst e;show Q8 P w x t
def GI{P:aE}{w:aC}:∀{ks:List Key}{us:List af},Vals (ks.map kV) us->ItemsAre (fQ P w) ks us
 |[],_,r=>by rw[nL]at r;cases r;show .nil
 |k::ks,_,r=>by
  rw[eD]at r;cases r with
  |cons h t=>show .cons (nu h) (GI t)
abbrev KT(H:Hp):List (List Key×V)->List (List Key×ab×af)->Prop:=Paired λp q=>p.1=q.1/\H q.2.1=some (.tup (p.1.map kV))/\RelV p.2 q.2.2
def KT.val{H:Hp}{kvs:List (List Key×V)}{xs:List (List Key×ab×af)}(r:KT H kvs xs)(k:List Key):ji (dm kvs k) ((atKey xs k).map (·.2)):=by
 induction r with
 |nil=>show True.intro
 |@cons p q ps n h t B=>
  show cY h λh1 _ h2=>?_;clear h;by_cases e:p.1=k
  .have j:q.1=k:=h1.symm.trans e;have b:atKey (q::n) k=some q.2:=by simp[atKey,mS,j]
   rw[mK e,b];show h2
  .have j:¬q.1=k:=λz=>e (h1.trans z);have b:atKey (q::n) k=atKey n k:=by simp[atKey,mS,j]
   rw[mJ e,b];show B
def KT.Cr{H:Hp}{kvs:List (List Key×V)}{xs:List (List Key×ab×af)}(r:KT H kvs xs)(k:List Key){y:V}{u:af}(D:RelV y u):
  KT H (kvs.map λj=>if j.1=k then(j.1,y)else j) (xs.map (putAt k u)):=by
 induction r with
 |nil=>show .nil
 |@cons p q ps F h t B=>
  rw[eD,eD];show .cons ?_ B;show cY h λh1 h2 n=>?_;clear h;unfold putAt;by_cases e:p.1=k
  .rw[QG e,QG (h1.symm.trans e)];show⟨h1,h2,D⟩
  .rw[QH e,QH (λz=>e (h1.trans z))];show⟨h1,h2,n⟩
def KT.put{H:Hp}{kvs:List (List Key×V)}{xs:List (List Key×ab×af)}(r:KT H kvs xs)(k:List Key){b:ab}{y:V}{u:af}(n:H b=some (.tup (k.map kV)))(j:RelV y u):
  KT H (putK kvs k y) (storedH xs k b u):=by
 have e:(kvs.any λz=>decide (z.1=k))=(atKey xs k).isSome:=by rw[uk,(r.val k).tu,Ag]
 unfold putK storedH;rw[e];by_cases q:(atKey xs k).isSome=true
 .rw[QG q,QG q];show r.Cr k j
 .rw[QH q,QH q];show Paired.snoc r ⟨rfl,n,j⟩
def KT.keeps{H H':Hp}{kvs:List (List Key×V)}{xs:List (List Key×ab×af)}(r:KT H kvs xs)(j:∀b ys,H b=some (.tup ys)->H' b=some (.tup ys)):KT H' kvs xs:=
 Paired.dS r λ_ _ z=>⟨z.1,j _ _ z.2.1,z.2.2⟩
section
variable {P:aE}{w:aC}{H:Hp}{h:aH}{a:ab}
def Ir{u:HO}(j:fB P w H h)(e:Rd H a u):fC P w H h a u:=e.ok j
def ni{kvs:List (Key×V)}(n:fB P w H h)(e:Rd H a (.dK kvs)):kvs.length<=dc/\(a==sysModules)=false/\∃j,KV kvs j/\h.DictOf (fQ P w) a j:=
 show fC P w H h a (.dK kvs)from Ir n e
def xV{kvs:List (Key×V)}(n:fB P w H h)(e:H a=some (.dK kvs)):kvs.length<=dc/\(a==sysModules)=false/\∃j,KV kvs j/\h.DictOf (fQ P w) a j:=ni n (.inl e)
def qU{ks:List Key}(z:fB P w H h)(e:H a=some (.tup (ks.map kV))):(tupleKind (fQ P w)).is h ks a:=by show eg ((show fC P w H h a (.tup (ks.map kV))from z a _ e)) λ_ j=>ai j λits r j=>bA j λo h1 h2 j=>jC j λn q=>?_;clear j;clear j;clear j;show⟨o,its.toArray,n,h1,h2,q,by simpa using GI r⟩
def pD{kvs:List (List Key×V)}(D:fB P w H h)(e:Rd H a (.dT kvs)):kvs.length<=dc/\(a==sysModules)=false/\
  ∃xs,KT H kvs xs/\h.DictOfH (tupleKind (fQ P w)) a xs:=by
 show cY ((show fC P w H h a (.dT kvs)from Ir D e)) λz y j=>ai j λxs r j=>jE j λo es ep h1 h2 F G I=>?_;clear j;clear j;show⟨z,y,xs,r,o,es,ep,h1,h2,F,G,λx n=>?_,I⟩;have all:∀{l:List (List Key×V)}{m:List (List Key×ab×af)},KT H l m->∀x∈m,(tupleKind (fQ P w)).is h x.1 x.2.1:=by
  intro l m q;induction q with
  |nil=>intro x n;show nomatch n
  |@cons p q ps L B t J=>
   intro x n;rcases bG.mp n with e | n
   .subst e;show qU D (by rw[<-B.1];show B.2.1)
   .show J x n
 show all r x n
def Pm{kvs:List (List Key×V)}(j:fB P w H h)(e:H a=some (.dT kvs)):kvs.length<=dc/\(a==sysModules)=false/\
  ∃xs,KT H kvs xs/\h.DictOfH (tupleKind (fQ P w)) a xs:=pD j (.inl e)
end
def fN(H:Hp)(a:ab)(y:V)(r:Option V):Prop:=
 (∃kvs k,Rd H a (.dK kvs)/\y=kV k/\r=dm kvs k)\/∃kvs k b,Rd H a (.dT kvs)/\y= .ref b/\H b=some (.tup (k.map kV))/\r=dm kvs k
def lQ(H:Hp)(a:ab)(y v:V)(H':Hp):Prop:=
 (∃kvs k,H a=some (.dK kvs)/\y=kV k/\kvs.length<dc/\H'=upd H a (.dK (putK kvs k v)))\/
 ∃kvs k b,H a=some (.dT kvs)/\y= .ref b/\H b=some (.tup (k.map kV))/\kvs.length<dc/\H'=upd H a (.dT (putK kvs k v))
def fN.k{H:Hp}{a:ab}{kvs:List (Key×V)}{k:Key}(e:H a=some (.dK kvs)):fN H a (kV k) (dm kvs k):= .inl ⟨kvs,k,.inl e,rfl,rfl⟩
def fN.t{H:Hp}{a b:ab}{kvs:List (List Key×V)}{k:List Key}(e:H a=some (.dT kvs))(j:H b=some (.tup (k.map kV))):fN H a (.ref b) (dm kvs k):= .inr ⟨kvs,k,b,.inl e,rfl,j,rfl⟩
def lQ.k{H:Hp}{a:ab}{kvs:List (Key×V)}{k:Key}{v:V}(e:H a=some (.dK kvs))(j:kvs.length<dc):lQ H a (kV k) v (upd H a (.dK (putK kvs k v))):= .inl ⟨kvs,k,e,rfl,j,rfl⟩
def lQ.t{H:Hp}{a b:ab}{kvs:List (List Key×V)}{k:List Key}{v:V}(e:H a=some (.dT kvs))(j:H b=some (.tup (k.map kV)))(n:kvs.length<dc):
  lQ H a (.ref b) v (upd H a (.dT (putK kvs k v))):= .inr ⟨kvs,k,b,e,rfl,j,n,rfl⟩
section
variable {X:Cx}{pins:List (ab×Obj)}{σ:St}{H:Hp}{s:ao}{a:ab}{y v:V}{u r:af}{o:Option V}{A:dj}{E:af->ao->Prop}
def Inv.big(I:Inv X pins σ H s):sysModules<s.heap.objs.size:=by have h:mainGlobals<s.heap.objs.size:=(I.mod.glob.keeps I.bk).lt;show xi QB h
def N1{Q:af->ao->Prop}(O:A.units+1<cLine)(I:Inv X pins σ H s)(g:fN H a y (some v))(L:RelV y u)(h:∀B s',Inv X pins σ H s'->RelV v B->Q B s'):
  aM (model X.prog X.w) A (getItem (.ref a) u) Q E s:=by
 rcases g with⟨kvs,k,e,F,l⟩ | ⟨kvs,k,b,e,F,M,l⟩
 .subst F;show cY (ni I.aA e) λz hd j=>ai j λS rel D=>?_;clear j;obtain⟨B,J,q⟩:=ji.some_of (v:=v) (o:=valueAt S k) (by rw[l];show rel.val k);show wpAny_getItem_of (nu L) D.mapOf J (h B _ (I.tok _) q)
 .subst F;cases(show u=Value.ref b from L);show cY (pD I.aA e) λz hd n=>ai n λxs rel D=>?_;clear n;obtain⟨B,J,q⟩:=ji.some_of (v:=v) (o:=(atKey xs k).map (·.2)) (by rw[l];show rel.val k);show ai (mX.mp J) λp N G=>?_;show wpAny_getItem_heap (wJ O) (qU I.aA M) D N ?_;rw[G];show h B _ (I.tok _) q
def N4{Q:af->ao->Prop}(J:A.units+1<cLine)(I:Inv X pins σ H s)(g:fN H a y o)(F:RelV y u)(h:∀s',Inv X pins σ H s'->Q (.bool o.isSome) s'):
  aM (model X.prog X.w) A (fT .In u (.ref a)) Q E s:=by
 rcases g with⟨kvs,k,e,D,l⟩ | ⟨kvs,k,b,e,D,G,l⟩
 .subst D;show cY (ni I.aA e) λz hd j=>ai j λL rel B=>?_;clear j;show wpAny_in_of (nu F) hd B.mapOf ?_;rw[<-(rel.val k).tu,<-l];show h _ (I.tok _)
 .subst D;cases(show u=Value.ref b from F);show cY (pD I.aA e) λz hd n=>ai n λxs rel B=>?_;clear n;show wpAny_in_heap (wJ J) (qU I.aA G) hd B ?_;have q:=(rel.val k).tu;rw[Ag]at q;rw[<-q,<-l];show h _ (I.tok _)
def Ow{Q:af->ao->Prop}(J:A.units+1<cLine)(I:Inv X pins σ H s)(g:fN H a y o)(F:RelV y u)(h:∀s',Inv X pins σ H s'->Q (.bool (!o.isSome)) s'):
  aM (model X.prog X.w) A (fT .NotIn u (.ref a)) Q E s:=by
 rcases g with⟨kvs,k,e,D,l⟩ | ⟨kvs,k,b,e,D,G,l⟩
 .subst D;show cY (ni I.aA e) λz hd j=>ai j λL rel B=>?_;clear j;show wpAny_notIn_of (nu F) hd B.mapOf ?_;rw[<-(rel.val k).tu,<-l];show h _ (I.tok _)
 .subst D;cases(show u=Value.ref b from F);show cY (pD I.aA e) λz hd n=>ai n λxs rel B=>?_;clear n;show wpAny_notIn_heap (wJ J) (qU I.aA G) hd B ?_;have q:=(rel.val k).tu;rw[Ag]at q;rw[<-q,<-l];show h _ (I.tok _)
def AZ{h':aH}{t':Nat}{n:HO}(I:Inv X pins σ H s)(G:oW (H a))(F:mO a s.heap h')(D:∃q,h'.get? a=some q)(j:fC X.prog X.w (upd H a n) h' a n):
  Inv X pins σ (upd H a n) {s with heap:=h',toks:=t'}:=
 I.write (x:=a) (e:=a) G (.inl rfl) (λb q B z=>(F.2 b B).trans z) D j
def FV{P:aE}{w:aC}{H':Hp}{h':aH}{kvs:List (Key×V)}{vs:List (Key×af)}(z:kvs.length<=dc)(q:(a==sysModules)=false)(j:KV kvs vs)(n:h'.DictOf (fQ P w) a vs):
  fC P w H' h' a (.dK kvs):=⟨z,q,vs,j,n⟩
def OT{H':Hp}{Q:Unit->ao->Prop}(hu:A.units+1<cLine)(I:Inv X pins σ H s)(g:lQ H a y v H')(V:RelV y u)(U:RelV v r)(h:∀s',Inv X pins σ H' s'->Q () s'):
  aM (model X.prog X.w) A (setItem (.ref a) u r) Q E s:=by
 rcases g with⟨kvs,k,e,J,l,G⟩ | ⟨kvs,k,b,e,J,O,l,G⟩
 .subst J;subst G;show cY (xV I.aA e) λz hd j=>ai j λvs rel F=>?_;clear j;have N:vs.length<=dc:=by rw[<-rel.length];show z
  have L:(putK kvs k v).length<=dc:=by have:=tK kvs k v;omega
  show wpAny_setItem_pairs (hsz:=N) (nu V) F λh' B M=>h _ ?_;have he:∃q,h'.get? a=some q:=let⟨q,_,_,D,_⟩:=B;⟨q,D⟩;show AZ I (by rw[e];show True.intro) M he (FV L hd (rel.put k U) B)
 .subst J;subst G;cases(show u=Value.ref b from V);show cY (Pm I.aA e) λz hd n=>ai n λxs rel F=>?_;clear n;have N:xs.length<=dc:=by rw[<-Paired.length rel];show z
  have L:(putK kvs k v).length<=dc:=by have:=tK kvs k v;omega
  show wpAny_setItem_heap (hsz:=N) (wJ hu) (qU I.aA O) F λh' B M=>h _ ?_;show nj B λq es ep D h2 W Y _ Z=>?_;clear B;show AZ I (by rw[e];show True.intro) M ⟨q,D⟩ ⟨L,hd,_,(rel.put k O U).keeps λc ys S=>?_,q,es,ep,D,h2,W,Y,Z⟩;rw[az (kI S e (λz=>nomatch z))];show S
end
section
variable {X:Cx}{pins:List (ab×Obj)}{σ:St}{H:Hp}{s:ao}{a:ab}{kvs:List (Key×V)}{k:Key}{u:af}{A:dj}{E:af->ao->Prop}
def Oi{Q:af->ao->Prop}(I:Inv X pins σ H s)(e:Rd H a (.dK kvs))(h:∀t s',Inv X pins σ H s'->Q (.int kvs.length t) s'):aM (model X.prog X.w) A (call (.builtin "len") [.ref a]) Q E s:=by show cY (ni I.aA e) λz hd j=>ai j λq rel n=>?_;clear j;show call_len_dict hd n (by rw[<-rel.length];rw[aQ]at z;omega) ?_;rw[<-rel.length];show h _ _ (I.tok _)
end
def Af(i:Expr):Prop:=∀n j,subscripted i false n j=operate [n,j] (getItem n j)
def KC{prog:aE}{w:aC}{A:dj}{E:af->ao->Prop}{s:ao}{env:Env}{value j:Expr}{pos:Pos}{T id:String}{Q:af->ao->Prop}
  (q:typeLookup (.type T) "__getitem__"=pure (some (.builtin id))) (z:Af j)
  (h:aM (model prog w) A (eval value env) (λo s₁=>aM (model prog w) A (eval j env) (λi s₂=>s₂.TypeIs o T/\aM (model prog w) A (getItem o i) Q E s₂) E s₁) E s):
  aM (model prog w) A (eval (.Subscript value j pos) env) Q E s:=by
 show Subscript_ (lL h (λo s₁ h₁=>lL h₁ (λi s₂ h₂=>?_) λ_ _ x=>x) λ_ _ x=>x);obtain⟨n,h₂⟩:=h₂;unfold subscriptTail;show aN ?_;rw[getitemInPython_of_ne n.not_modules];show aN (wpAny_specialOf n q ?_);have fin:aM (model prog w) A (subscripted j false o i) (λr s₃=>aM (model prog w) A (letTemporaryGo value o r >>= λ_=>pure r) Q E s₃) E s₂:=by rw[z o i];show wpAny_operating (lL h₂ (λr s₃ h₃=>aN (wpAny_letTemporaryGo (bD h₃))) λ_ _ x=>x)
 first
  |show bD (aN fin)
  |show aN (bD (aN fin))
  |show aN fin
def Pg{X:Cx}{pins:List (ab×Obj)}{σ:St}{H:Hp}{s:ao}{a:ab}{y:V}{o:Option V}(I:Inv X pins σ H s)(g:fN H a y o):s.TypeIs (.ref a) "dict":=by
 rcases g with⟨kvs,k,e,_,_⟩ | ⟨kvs,k,b,e,_,_,_⟩
 .show cY (ni I.aA e) λ_ _ j=>ai j λz _ q=>?_;clear j;show q.typeIs
 .show cY (pD I.aA e) λ_ _ n=>ai n λxs _ q=>?_;clear n;show q.typeIs
def rH(td ty:TE):TE:=λσ H Q=>td σ H λx H1=>ty σ H1 λy H2=>∃a v,x= .ref a/\fN H2 a y (some v)/\Q v H2
def KH(ty td:TE):TE:=λσ H Q=>ty σ H λy H1=>td σ H1 λx H2=>∃a o,x= .ref a/\fN H2 a y o/\Q (.bl o.isSome) H2
def KJ(ty td:TE):TE:=λσ H Q=>ty σ H λy H1=>td σ H1 λx H2=>∃a o,x= .ref a/\fN H2 a y o/\Q (.bl (!o.isSome)) H2
def tW(td ty tv:TE):TS:=λD σ H=>tv σ H λv H1=>td σ H1 λx H2=>ty σ H2 λy n=>∃a j,x= .ref a/\lQ n a y v j/\D.nx σ j
section
variable {X:Cx}{o i e value:Expr}{pos pos' tpos:Pos}{td ty tv:TE}
def pQ(G:X.A.units+1<cLine)(B:PE X o td)(hi:PE X i ty)(D:Af i):PE X (.Subscript o i pos) (rH td ty):=by intro pins s σ H Q I h;show KC PySem.F.slot_dict_getitem.lookup D (br (B pins s σ H _ I h) λu O ⟨x,H1,q,M,J⟩=>br (hi pins O σ H1 _ q J) λS U ⟨y,H2,n,N,a,v,ex,g,L⟩=>?_);subst ex;obtain rfl:u=Value.ref a:=M;show⟨Pg n g,N1 G n g N λW V z j=>⟨v,H2,z,j,L⟩⟩
def Ca(B:X.A.units+1<cLine)(hi:PE X i ty)(z:PE X o td):PC X .In i o (KH ty td):=by intro pins s σ H Q I h;show br (hi pins s σ H _ I h) λN M ⟨y,H1,j,L,F⟩=>br (z pins M σ H1 _ j F) λu O ⟨x,H2,n,J,a,D,ex,g,G⟩=>?_;subst ex;obtain rfl:u=Value.ref a:=J;show N4 B n g L λS q=>⟨.bl D.isSome,H2,q,rfl,G⟩
def HK(hu:X.A.units+1<cLine)(hi:PE X i ty)(ho:PE X o td):PC X .NotIn i o (KJ ty td):=by intro pins s σ H Q I h;show br (hi pins s σ H _ I h) λiv s1 ⟨y,H1,I1,ry,q1⟩=>br (ho pins s1 σ H1 _ I1 q1) λu s2 ⟨x,H2,I2,rx,a,ov,ex,g,q2⟩=>?_;subst ex;obtain rfl:u=Value.ref a:=rx;show Ow hu I2 g ry λs3 I3=>⟨.bl (!ov.isSome),H2,I3,rfl,q2⟩
def vZ(J:X.A.units+1<cLine)(F:PE X o td)(hi:PE X i ty)(L:PE X value tv)(G:swapsWith value (some (.Subscript o i pos')) pos.line X.env=pure false):
  PS X (.Assign [.Subscript o i pos'] value pos) (tW td ty tv):=by
 intro pins s σ H D I h;show wpAny_Assign_Subscript (br (L pins s σ H _ I h) λr W ⟨v,H1,n,S,M⟩=>br (F pins W σ H1 _ n M) λu Y ⟨x,H2,q,U,N⟩=>br (hi pins Y σ H2 _ q N) λiv s3 ⟨y,Z,z,V,a,j,ex,g,O⟩=>?_) G;subst ex;obtain rfl:u=Value.ref a:=U;show OT J z g V S λs4 B=>⟨σ,j,B,O⟩
end
def FU{P:aE}{w:aC}{H:Hp}(h:aH)(j:sysModules<h.objs.size):fC P w H (h.push {cls:= .type "dict",data:= .dict #[]}) h.objs.size (.dK []):=
 ⟨cT _,beq_eq_false_iff_ne.mpr (Ne.symm (eU j)),[],.nil,Heap.DictOf.new h⟩
def Pl{P:aE}{w:aC}{H:Hp}(h:aH)(j:sysModules<h.objs.size):fC P w H (h.push {cls:= .type "dict",data:= .dict #[]}) h.objs.size (.dT []):=
 ⟨cT _,beq_eq_false_iff_ne.mpr (Ne.symm (eU j)),[],.nil,_,#[],0,fj _ rfl,⟨rfl,rfl,rfl⟩,rfl,rfl,List.nodup_nil⟩
def bN:TE:=λ_ H Q=>∀p,H p=none->Q (.ref p) (upd H p (.dK []))
def KI:TE:=λ_ H Q=>∀p,H p=none->Q (.ref p) (upd H p (.dT []))
section
variable {X:Cx}{pos:Pos}
def vU:PE X (.Dict [] [] pos) bN:=λpins s σ H Q I h=>
 wpAny_Dict_empty ⟨.ref s.heap.objs.size,_,I.laid (a:=s.heap.objs.size) (o:= .dK []) (t':=s.toks) (λ_ _ q=>ed _ q) (bo _) (FU s.heap I.big),rfl,h _ (I.aA.fresh (bo _))⟩
def SH:PE X (.Dict [] [] pos) KI:=λpins s σ H Q I h=>
 wpAny_Dict_empty ⟨.ref s.heap.objs.size,_,I.laid (a:=s.heap.objs.size) (o:= .dT []) (t':=s.toks) (λ_ _ q=>ed _ q) (bo _) (Pl s.heap I.big),rfl,h _ (I.aA.fresh (bo _))⟩
end
def pX:List (TE×TE)->St->Hp->(List (V×V)->Hp->Prop)->Prop
 |[],_,H,Q=>Q [] H
 |(tk,tv)::r,σ,H,Q=>tk σ H λx H1=>tv σ H1 λy H2=>pX r σ H2 λps j=>Q ((x,y)::ps) j
abbrev VV:List (V×V)->List (af×af)->Prop:=Paired λp q=>RelV p.1 q.1/\RelV p.2 q.2
def xr(X:Cx)(pos:Pos)(n:List (Option Expr))(j:List Expr)(q:List (TE×TE)):Prop:=
 ∀(pins:List (ab×Obj))(s:ao)(σ:St)(H:Hp)(Q:List (V×V)->Hp->Prop),Inv X pins σ H s->pX q σ H Q->
  aM (model X.prog X.w) X.A (evalPairs (pairTrees n j X.env pos)) (λz s'=>∃ps H',Inv X pins σ H' s'/\VV ps z/\Q ps H') X.xe s
def Ta{X:Cx}{pos:Pos}:xr X pos [] [] []:=λpins s σ H Q I h=>pairTrees_nil_walk ⟨[],H,I,.nil,h⟩
def yM{X:Cx}{pos:Pos}{k v:Expr}{ks:List (Option Expr)}{vs:List Expr}{tk tv:TE}{j:List (TE×TE)}(F:PE X k tk)(J:PE X v tv)(G:xr X pos ks vs j):
  xr X pos (some k::ks) (v::vs) ((tk,tv)::j):=λpins s σ H Q I h=>
 pairTrees_cons_walk (br (F pins s σ H _ I h) λu U n=>bp n λx H1 z O L=>br (J pins U σ H1 _ z L) λY V ⟨y,H2,B,S,M⟩=>
  br (G pins V σ H2 _ B M) λZ W n=>bp n λps q D rel N=>⟨(x,y)::ps,q,D,.cons ⟨O,S⟩ rel,N⟩)
def qX(kvs j:List (Key×V)):List (Key×V):=j.foldl (λacc n=>putK acc n.1 n.2) kvs
def KV.merge:∀{j:List (Key×V)}{n:List (Key×af)}{kvs:List (Key×V)}{vs:List (Key×af)},KV j n->KV kvs vs->KV (qX kvs j) (merged vs n):=by
 intro j n kvs vs r;unfold KV at r;induction r generalizing kvs vs with
 |nil=>intro q;show q
 |@cons p q ps D h t z=>
  intro B;have e:KV (putK kvs p.1 p.2) (stored vs q.1 q.2):=by have:=B.put p.1 h.2;rw[<-h.1];show this
  show z e
def GU:∀(j kvs:List (Key×V)),(qX kvs j).length<=kvs.length+j.length
 |[],kvs=>by show kvs.length<=kvs.length+0;omega
 |p::r,kvs=>by have h1:=GU r (putK kvs p.1 p.2);have h2:=tK kvs p.1 p.2;show(qX (putK kvs p.1 p.2) r).length<=_;rw[aG];omega
def Fs{P:aE}{w:aC}:∀{kvs:List (Key×V)}{z:List (af×af)},VV (kvs.map λn=>(kV n.1,n.2)) z->∃j,Carries (fQ P w) z j/\KV kvs j
 |[],_,r=>by rw[nL]at r;cases r;show⟨[],True.intro,.nil⟩
 |p::kvs,_,r=>by
  rw[eD]at r;cases r with
  |@cons a b as F h t=>obtain⟨j,c,q⟩:=Fs (P:=P) (w:=w) t;obtain⟨D,B⟩:=b;show⟨(p.1,B)::j,⟨nu h.1,rfl,c⟩,.cons ⟨rfl,h.2⟩ q⟩
def Wh(j:List (TE×TE)):TE:=λσ H Q=>∀p,H p=none->pX j σ (upd H p (.dK [])) λps H2=>H2 p=some (.dK [])/\∃kvs:List (Key×V),ps=kvs.map (λn=>(kV n.1,n.2))/\kvs.length<=15/\Q (.ref p) (upd H2 p (.dK (qX [] kvs)))
def SG{X:Cx}{pos:Pos}{j:List (Option Expr)}{n:List Expr}{G:List (TE×TE)}(h:xr X pos j n G)(F:j.all (·.isSome)=true)(U:j.length=n.length)(O:j≠ [])
  (J:j.length<=15):PE X (.Dict j n pos) (Wh G):=by
 intro pins s σ H Q I q;have V:=I.aA.fresh (bo s.heap.objs.size);have M:=I.laid (a:=s.heap.objs.size) (o:= .dK []) (h':=s.heap.push {cls:= .type "dict",data:= .dict #[]}) (t':=s.toks) (λ_ _ q=>ed _ q) (bo _) (FU s.heap I.big);show wpAny_Dict_walk (knd:=fQ X.prog X.w) F U O J (br (h pins _ σ _ _ M (q _ V)) λws s2 ⟨ps,H2,L,rel,e,kvs,ep,lk,q2⟩=>?_);subst ep;obtain⟨rs,c,rk⟩:=Fs (P:=X.prog) (w:=X.w) rel;show cY (xV L.aA e) λz hd B=>ai B λa0 r0 N=>?_;clear B;cases r0;show⟨rs,c,N,λh' D Y=>⟨.ref s.heap.objs.size,_,?_,rfl,q2⟩⟩;have Z:(qX [] kvs).length<=dc:=by have h1:=GU kvs [];rw[dC]at h1;rw[aQ];omega
 have S:∃q,h'.get? s.heap.objs.size=some q:=let⟨q,_,_,W,_⟩:=D;⟨q,W⟩;show AZ L (by rw[e];show True.intro) Y S (FV Z hd (rk.merge .nil) D)
structure M1(X:Cx)(o:Expr)(m:Str)(apos:Pos)(e:Expr)(cpos:Pos):Prop where
 base:attributeBase o m X.env (eval o X.env)=eval o X.env
 d6:((backTo cpos (dY [e] X.env)).all (λx=> !x.1)&&(backToKw cpos (keywordEach [] X.env)).all (λx=>x.1.isSome)
  && decide (([e]:List Expr).length+([]:List lU).length+(if([]:List lU).isEmpty then 0 else 1)<30))=true
 line:(apos.endLine==cpos.line)=true
 trees:backTo cpos (dY [e] X.env)= [(false,eval e X.env)]
structure M2(X:Cx)(o:Expr)(m:Str)(apos:Pos)(e f:Expr)(cpos:Pos):Prop where
 base:attributeBase o m X.env (eval o X.env)=eval o X.env
 d6:((backTo cpos (dY [e,f] X.env)).all (λx=> !x.1)&&(backToKw cpos (keywordEach [] X.env)).all (λx=>x.1.isSome)
  && decide (([e,f]:List Expr).length+([]:List lU).length+(if([]:List lU).isEmpty then 0 else 1)<30))=true
 line:(apos.endLine==cpos.line)=true
 trees:backTo cpos (dY [e,f] X.env)= [(false,eval e X.env),(false,eval f X.env)]
def zE(H:Hp)(a:ab):Prop:=(∃kvs,Rd H a (.dK kvs))\/∃kvs,Rd H a (.dT kvs)
def GG{X:Cx}{pins:List (ab×Obj)}{σ:St}{H:Hp}{s:ao}{a:ab}(I:Inv X pins σ H s)(d:zE H a):
  s.TypeIs (.ref a) "dict"/\(∀b,Value.ref a= .ref b->∃B,s.heap.get? b=some B/\B.dict=none)/\(a==sysModules)=false:=by
 rcases d with⟨kvs,e⟩ | ⟨kvs,e⟩
 .show cY (ni I.aA e) λ_ hd j=>ai j λD _ z=>?_;clear j;show⟨z.typeIs,λb q=>?_,hd⟩;cases q;show gJ z λB _ _ h1 h2 _=>?_;clear z;show⟨B,h1,h2.2.1⟩
 .show cY (pD I.aA e) λ_ hd n=>ai n λxs _ z=>?_;clear n;show⟨z.typeIs,λb q=>?_,hd⟩;cases q;show gJ z λB _ _ h1 h2 _=>?_;clear z;show⟨B,h1,h2.2.1⟩
section
variable {X:Cx}{pins:List (ab×Obj)}{σ:St}{H:Hp}{s:ao}{a:ab}{y d:V}{u r:af}{o:Option V}{A:dj}{E:af->ao->Prop}
def NZ{Q:af->ao->Prop}(L:A.units+1<cLine)(I:Inv X pins σ H s)(g:fN H a y o)(D:RelV y u)(h:∀G s',Inv X pins σ H s'->RelV (o.getD .a9) G->Q G s'):
  aM (model X.prog X.w) A (call (.builtin "dict.get") [.ref a,u]) Q E s:=by
 rcases g with⟨kvs,k,e,B,l⟩ | ⟨kvs,k,b,e,B,J,l⟩
 .subst B;show cY (ni I.aA e) λz hd j=>ai j λM rel q=>?_;clear j;show call_meetsIn uQ q.typeIs Aj (Ls _ _) (meets_dict_get (fQ X.prog X.w) a (nu D) hd) ⟨_,q.mapOf,h _ _ (I.tok _) ?_⟩;rw[l];show(rel.val k).getD rfl
 .subst B;cases(show u=Value.ref b from D);show cY (pD I.aA e) λz hd n=>ai n λxs rel q=>?_;clear n;show call_meetsIn uQ q.typeIs Aj (Ls _ _) (meetsH_dict_get (tupleKind (fQ X.prog X.w)) a b hd) ⟨wJ L,k,xs,qU I.aA J,q,h _ _ (I.tok _) ?_⟩;rw[l];show(rel.val k).getD rfl
def N0{Q:af->ao->Prop}(L:A.units+1<cLine)(I:Inv X pins σ H s)(g:fN H a y o)(D:RelV y u)(rd:RelV d r)(h:∀G s',Inv X pins σ H s'->RelV (o.getD d) G->Q G s'):
  aM (model X.prog X.w) A (call (.builtin "dict.get") [.ref a,u,r]) Q E s:=by
 rcases g with⟨kvs,k,e,B,l⟩ | ⟨kvs,k,b,e,B,J,l⟩
 .subst B;show cY (ni I.aA e) λz hd j=>ai j λM rel q=>?_;clear j;show call_meetsIn uQ q.typeIs Aj (Lu _ _ _) (meets_dict_get_default (fQ X.prog X.w) a (nu D) hd r) ⟨_,q.mapOf,h _ _ (I.tok _) ?_⟩;rw[l];show(rel.val k).getD rd
 .subst B;cases(show u=Value.ref b from D);show cY (pD I.aA e) λz hd n=>ai n λxs rel q=>?_;clear n;show call_meetsIn uQ q.typeIs Aj (Lu _ _ _) (meetsH_dict_get_default (tupleKind (fQ X.prog X.w)) a b hd r) ⟨wJ L,k,xs,qU I.aA J,q,h _ _ (I.tok _) ?_⟩;rw[l];show(rel.val k).getD rd
end
def Wg(td ty:TE):TE:=λσ H Q=>td σ H λx H1=>∃a,x= .ref a/\zE H1 a/\ty σ H1 λy H2=>∃o,fN H2 a y o/\Q (o.getD .a9) H2
def KG(td ty tx:TE):TE:=λσ H Q=>td σ H λx H1=>∃a,x= .ref a/\zE H1 a/\ty σ H1 λy H2=>tx σ H2 λz j=>∃o,fN j a y o/\Q (o.getD z) j
section
variable {X:Cx}{o e f:Expr}{apos cpos:Pos}{td ty tx:TE}
def HQ(G:X.A.units+1<cLine)(D:PE X o td)(B:PE X e ty)(m:M1 X o "get" apos e cpos):PE X (.Call (.Attribute o "get" apos) [e] [] cpos) (Wg td ty):=by intro pins s σ H Q I h;show wpAny_Call_method m.base m.d6 m.line Lx uQ LF (br (D pins s σ H _ I h) λu O ⟨x,H1,n,M,a,ex,d,J⟩=>?_);subst ex;obtain rfl:u=Value.ref a:=M;show cY (GG n d) λt1 S _=>?_;exists t1,S;rw[m.trees];show Calls.callWith_builtin rfl (Calls.evalArgs_plain (Calls.spliced_cons (br (B pins O σ H1 _ n J) λU W ⟨y,H2,q,N,V,g,L⟩=>Calls.spliced_nil ?_)));show NZ G q g N λZ Y z j=>⟨_,H2,z,j,L⟩
def SF(N:X.A.units+1<cLine)(M:PE X o td)(J:PE X e ty)(L:PE X f tx)(m:M2 X o "get" apos e f cpos):PE X (.Call (.Attribute o "get" apos) [e,f] [] cpos) (KG td ty tx):=by
 intro pins s σ H Q I h;show wpAny_Call_method m.base m.d6 m.line Lx uQ LF (br (M pins s σ H _ I h) λu Z ⟨x,H1,n,V,a,ex,d,O⟩=>?_);subst ex;obtain rfl:u=Value.ref a:=V;show cY (GG n d) λt1 t2 _=>?_;exists t1,t2;rw[m.trees];show Calls.callWith_builtin rfl (Calls.evalArgs_plain (Calls.spliced_cons (br (J pins Z σ H1 _ n O) λiv s2 ⟨y,H2,B,W,S⟩=>
  Calls.spliced_cons (br (L pins s2 σ H2 _ B S) λfv s3 ⟨z,q,D,Y,ov,g,U⟩=>Calls.spliced_nil ?_))))
 show N0 N D g W Y λw' s4 G j=>⟨_,q,G,j,U⟩
end
section
variable {X:Cx}{pins:List (ab×Obj)}{σ:St}{H:Hp}{s:ao}{a:ab}{kvs:List (Key×V)}{A:dj}{E:af->ao->Prop}
end
section
variable {X:Cx}{pins:List (ab×Obj)}{σ:St}{H:Hp}{s:ao}{a:ab}{y:V}{u:af}{A:dj}{E:af->ao->Prop}
end
end L2
namespace L2
open PySem PySem.Spec PyProof.Rows
section
variable {prog:aE}{w:aC}{A:dj}{E:af->ao->Prop}
end
section
variable {X:Cx}
end
end L2
namespace L2
open PySem PySem.Spec PyProof.Rows
def boot_reversed5:bootBuiltins "reversed"=some (.type "reversed"):=QC
section
variable {X:Cx}{pins:List (ab×Obj)}{σ:St}{H:Hp}{s:ao}{h':aH}
def Inv.DF{t':Nat}{ch:List ab}{T:ab}{L:HO}(I:Inv X pins σ H s)(k:∀b o,b∉ch->s.heap.get? b=some o->h'.get? b=some o)(D:∀b∈ch,lR X pins H b)(M:s.heap.objs.size<=T)
  (J:fC X.prog X.w (upd H T L) h' T L):Inv X pins σ (upd H T L) {s with heap:=h',toks:=t'}:=by
 have F:H T=none:=I.aA.fresh M;have G:∀b u,H b=some u->b∉ch:=λb u e z=>by have q:=(D b z).1;rw[q]at e;cases e
 show I.step (g':=s.gens) (d':=s.drawn) (ch:=ch) (λb j=>⟨(D b j).2.2.2.1,(D b j).2.1,(D b j).2.2.2.2.1,(D b j).2.2.2.2.2⟩) (λb o _ _ B e _=>k b o B e) (λb o _ _ B e _=>⟨o.slots,k b o B e⟩)
  (λb o _ e n=>?_) (λb o B e=>⟨o,k b o B e⟩) (λb xs e=>?_) (λb o u e=>?_) (λb ps e=>⟨#[],?_⟩) (λm N=>?_) (λb u e=>?_) I.bare
 .rw[az (eU (gY (dU e) M))];show n
 .rw[az (eu e F)];show e
 .rw[az (eu e F)];show e
 .rw[az (eu e F),e];simp
 .show nX N λo es ep O r=>?_;clear N;show⟨o,es,ep,k _ o (λz=>(D _ z).2.1 rfl) O,r⟩
 .by_cases j:b=T
  .subst j;rw[ar]at e;cases e;show J
  .rw[az j]at e;show(I.aA b u e).oE (λc v B q=>k c v ?_ q) (λc q=>by rw[az (eu q F)];show q) λc xs q=>by rw[az (eu q F)];show q
   rcases B with z | z
   .rw[z];show G b u e
   .show G c _ z
def Inv.lock{d:ab}{u:HO}(I:Inv X pins σ H s)(h:H d=some u)(B:oW (some u)):∃j,Inv X pins σ (upd H d (.fe j u)) s:=by
 have x:=I.aA d u h;have ex:∃j,s.heap.get? d=some j:=by
  cases u with
  |lst xs=>obtain⟨_,_,_,_,e⟩:=x;show⟨_,e⟩
  |dK kvs=>obtain⟨_,_,_,_,o,_,_,e,_⟩:=x;show⟨o,e⟩
  |dT kvs=>obtain⟨_,_,_,_,o,_,_,e,_⟩:=x;show⟨o,e⟩
  |set S n=>obtain⟨o,_,_,_,e,_⟩:=x;show⟨o,e⟩
  |ins C dx fs=>obtain⟨_,_,_,e,_⟩:=x;show⟨_,e⟩
  |ext φ=>obtain⟨_,⟨_,e⟩,_⟩:=x;show⟨_,e⟩
  |_=>show False.elim B
 obtain⟨j,e⟩:=ex;have new:fC X.prog X.w (upd H d (.fe j u)) s.heap d (.fe j u):=by
  show⟨e,x.oE (λb v _ q=>q) (λb q=>?_) λb xs q=>?_⟩
  .rw[az (λz=>by rw[z,h]at q;cases q;show B)];show q
  .rw[az (λz=>by rw[z,h]at q;cases q;show B)];show q
 show⟨j,I.write (x:=d) (e:=d) (t':=s.toks) (h':=s.heap) (by rw[h];show B) (.inl rfl) (λb v _ q=>q) ⟨j,e⟩ new⟩
def Inv.yq{d:ab}{u:HO}(I:Inv X pins σ H s)(h:H d=some u)(n:oW (some u)):∀o' j,X.qe d≠some (.fe o' j):=λo' j e=>by have q:=I.base.mq d o' j e;rw[h]at q;cases q;show n
def Inv.unlock{d:ab}{N:Obj}{u:HO}(I:Inv X pins σ H s)(h:H d=some (.fe N u))(L:∀o' G,X.qe d≠some (.fe o' G)):Inv X pins σ (upd H d u) s:=by
 have j:∀b o,H b=some o->(∀o' G,o≠ .fe o' G)->b≠d:=λb o e F z=>by rw[z,h]at e;cases e;show F _ _ rfl
 have B:∀b,H b=none->b≠d:=λb e z=>by rw[z,h]at e;cases e
 show⟨I.ok,I.os,I.bare,⟨I.base.keep,I.base.slot,λb o e n J=>?_,I.base.there,λb xs e=>?_,λb o x e=>?_,λb ps e=>?_⟩,I.loc,I.cell,?_,λx c e=>?_,λp M=>?_,λb o e=>?_,I.len⟩
 .rw[az (B b (I.base.free b o e n J))];show I.base.free b o e n J
 .have q:=I.base.oG b xs e;rw[az (j b _ q (λ_ _ z=>nomatch z))];show q
 .have q:=I.base.mq b o x e;rw[az (λz=>by rw[z]at e;show L _ _ e)];show q
 .obtain⟨m,q⟩:=I.base.oF b ps e;show⟨m,by rw[az (j b _ q (λ_ _ z=>nomatch z))];show q⟩
 .rw[az (B _ I.free)];show I.free
 .rw[az (B c (I.kF x c e))];show I.kF x c e
 .show cY (I.pin p M) λe n r=>?_;show⟨e,by rw[az (B _ n)];show n,r⟩
 .by_cases D:b=d
  .rw[D,ar]at e;cases e;rw[D];obtain⟨_,x⟩:=I.aA d _ h;show x.oE (λc v _ q=>q) (λc q=>by rw[az (j c _ q (λ_ _ z=>nomatch z))];show q) λc xs q=>by rw[az (j c _ q (λ_ _ z=>nomatch z))];show q
  .rw[az D]at e;show(I.aA b o e).oE (λc v _ q=>q) (λc q=>by rw[az (j c _ q (λ_ _ z=>nomatch z))];show q) λc xs q=>by rw[az (j c _ q (λ_ _ z=>nomatch z))];show q
end
def Wl(t:TS):TS:=λD σ H=>∃d u,H d=some u/\oW (some u)/\∀j,t ⟨λσ' H'=>H' d=some (.fe j u)/\D.nx σ' (upd H' d u),λv H'=>H' d=some (.fe j u)/\D.rt v (upd H' d u),λσ' H'=>H' d=some (.fe j u)/\D.bk σ' (upd H' d u),λσ' H'=>H' d=some (.fe j u)/\D.ct σ' (upd H' d u)⟩ σ (upd H d (.fe j u))
section
variable {X:Cx}
def Te{st:aT}{t:TS}(h:PS X st t):PS X st (Wl t):=by
 intro pins s σ H D I B;revert B;intro j;show bp j λd u hd z B=>?_;clear j;obtain⟨G,F⟩:=I.lock hd z;show br (h pins s σ _ _ F (B G)) λf J q=>?_;cases f with
 |next=>obtain⟨σ',H',n,e,q⟩:=q;show⟨σ',_,n.unlock e (I.yq hd z),q⟩
 |brk=>obtain⟨σ',H',n,e,q⟩:=q;show⟨σ',_,n.unlock e (I.yq hd z),q⟩
 |cont=>obtain⟨σ',H',n,e,q⟩:=q;show⟨σ',_,n.unlock e (I.yq hd z),q⟩
 |ret v=>obtain⟨x,σ',H',n,r,e,q⟩:=q;show⟨x,σ',_,n.unlock e (I.yq hd z),r,q⟩
def vW{tg:Expr}{pins:List (ab×Obj)}{σ:St}{H:Hp}{s:ao}{R:It->Hp->Prop}{J:It}{j:Nat->aH->Prop}{tk:Nat}(I:Inv X pins σ H s)(o:Obj)
  (T:Turn X.prog X.w X.K tg J [s.heap.objs.size] s.heap.objs.size j) (st:j 0 (s.heap.push o)) (q:R J H):xq X pins σ tg R (.ref s.heap.objs.size) {s with heap:=s.heap.push o,toks:=tk}:=by
 show⟨s.heap.objs.size,[s.heap.objs.size],j,J,H,rfl,I.kept λb z e=>ed _ e,T,st,λb n=>?_,q⟩;have e:b=s.heap.objs.size:=by simpa using n
 subst e;show I.qQ (bo _) (I.aA.fresh (bo _))
end
def rR(lo c:Int)(n:Nat):It:=⟨λi _=>i<n,λi H x H'=>H'=H/\x= .int (lo+(i:Nat)*c),λi _=>n<=i⟩
def WU{P:aE}{w:aC}{K:aw}{tg:Expr}(it:ab)(lo c:Int)(n:Nat):Turn P w K tg (rR lo c n) [it] it (λi h=>IsRangeIter h it (lo+(i:Nat)*c) ((n:Int)-(i:Nat)) c) where
 mem:=QD
 obj:=λi h st b j=>by
  have e:b=it:=by simpa using j
  subst e;show⟨_,st,λv z=>nomatch z⟩
 keep:=λi h h' st k=>k it QD _ st
 item:=by intro X M S L N i pins s σ H E I B st O;subst M S L;show fK (B it QD) λD f1 f2 F G J=>?_;have W:=Walks.range (prog:=X.prog) (w:=X.w) (I.ok.hd N) it lo c n;show W.item i s _ _ O st λv h' tk Y q Z=>?_;obtain⟨t,rfl⟩:=Y;have U:Inv X pins σ H {s with heap:=h',toks:=tk}:=I.turned (λb o j e=>Z b o (by simpa using j) e) D f1 F G J;show⟨_,rfl,tj (s:={s with heap:=h',toks:=tk}) (n:="range_iterator") q rfl rfl QB ⟨.int (lo+(i:Nat)*c),H,U,⟨t,rfl⟩,⟨rfl,rfl⟩,q,λb j=>(B b j).1⟩⟩
 done:=by intro X M S L N i pins s σ H E I B st O;subst M S L;show fK (B it QD) λD f1 f2 F G J=>?_;show wpAny_pyNext_range_end (I.ok.hd N) st (by have:n<=i:=O;omega) λh' V=>⟨rfl,I.turned (t':=s.toks) (λb o j e=>V b o j e) D f1 F G J⟩
 self:=λA i s Q E st h=>wpAny_pyIter_rangeiter st h
def o8(i j c:Int)(n:Nat):Prop:=c≠0/\c.natAbs<1073741824/\Builtin.Range.small i j c=true/\Builtin.Range.rangeSize i j c=n
def o8.neg{i j:Int}(z:-(2 ^ 62)<=i)(n:i<2 ^ 62)(B:-(2 ^ 62)<=j)(q:j<2 ^ 62):o8 i j (-1) (i-j).toNat:=
 ⟨QB,QB,PySem.W.small_down z n B q,PySem.W.rangeSize_downNat i j⟩
def Gz(ta:TA):TI:=λσ H R=>ta σ H λq H1=>∃(i j c:Int)(n:Nat),q= [.int i,.int j,.int c]/\o8 i j c n/\R (rR i c n) H1
section
variable {X:Cx}{tg:Expr}
def HV{a b c:Expr}{ta:TA}{p pos:Pos}(hg:Gl X "range")(hm:X.mg "range"=none)(ha:PA X [a,b,c] ta)
  (hs:dY [a,b,c] X.env=(false,eval a X.env)::dY [b,c] X.env:=by rfl) (G:(backTo pos (dY [b,c] X.env)).any (·.1)=false:=by rfl):
  PI X tg (.Call (.Name "range" p) [a,b,c] [] pos) (Gz ta):=by
 intro pins s σ H R I h;show Call_ (qV I hg hm boot_range (xw (br (ha pos pins s σ H _ I h) λus F hz=>bp hz λvs H1 N r1 M=>?_) hs G));show kz M λi j k n z=>cY z λe B q=>?_;clear z;clear M;obtain⟨S,U,V,W⟩:=B;subst e;cases r1 with
 |cons r D=>
  cases D with
  |cons r' D=>
   cases D with
   |cons J D=>
    cases D;obtain⟨t,rfl⟩:=r;obtain⟨t',rfl⟩:=r';obtain⟨L,rfl⟩:=J;show call_range_3 S ?_ (.inl (Lr U));show wpAny_pyIter_range (IsRange.new ..) V ?_;have O:Inv X pins σ H1 {F with heap:=F.heap.push {cls:= .type "range",data:= .fields #[.int i t,.int j t',.int k L]}}:=N.kept (t':=F.toks) λb o e=>ed _ e;show vW (tk:=F.toks) O _ (WU _ i k n) ?_ q;have Y:i+((0:Nat):Int)*k=i:=QD;have Z:(n:Int)-((0:Nat):Int)=Builtin.Range.rangeSize i j k:=by rw[W];simp
    show IsRangeIter _ _ (i+((0:Nat):Int)*k) ((n:Int)-((0:Nat):Int)) k;rw[Y,Z];show fj _ rfl
end
def PR{lo c:Int}{n:Nat}{g:TG}{tb:TS}{D:Ends}{σ:St}{H:Hp}(q:Nat->St->Hp->Prop)(G:q 0 σ H)
  (J:∀i σ H,i<n->q i σ H->g (.int (lo+(i:Nat)*c)) σ H λσ2 H2=>tb {D with nx:=q (i+1),ct:=q (i+1),bk:=D.nx} σ2 H2) (I:∀σ H,q n σ H->D.nx σ H):
  ∃W:Nat->Nat->St->Hp->Prop,(∃m,W 0 m σ H)/\∀i m σ H,W i m σ H->
   ((rR lo c n).stop i H/\D.nx σ H)\/((rR lo c n).go i H/\∃N:St->Hp->Prop,(∀σ' H',N σ' H'->∃F,F<m/\W (i+1) F σ' H')/\∀x H',(rR lo c n).kM i H x H'->g x σ H' λσ2 H2=>tb {D with nx:=N,ct:=N,bk:=D.nx} σ2 H2):=by
 exists λi m σ H=>m=n-i/\i<=n/\q i σ H,⟨n,QD,cT _,G⟩;intro i m σ H j;show cY j λB hi p=>?_;subst j B;by_cases z:i<n
 .show .inr ⟨z,q (i+1),λσ' H' L=>⟨n-(i+1),by omega,rfl,z,L⟩,λx H' y=>?_⟩;obtain⟨e,y⟩:=y;subst e;subst y;show J i σ _ z p
 .have e:i=n:=by omega
  subst e;show .inl ⟨bo _,I σ H p⟩
def zK(K:aw)(a:ab)(n:Nat):It:=
 ⟨λi H=>i<n/\∃(xs:List V)(x:V),aj K H a xs/\xs[n-1-i]? =some x,λi H x H'=>H'=H/\∀xs,aj K H a xs->xs[n-1-i]? =some x,λi _=>n<=i⟩
def WV{P:aE}{w:aC}{K:aw}{tg:Expr}(a it:ab)(n:Nat):Turn P w K tg (zK K a n) [it] it (λi h=>i<=n/\h.IsRevIter it a ((n:Int)-1-(i:Nat))) where
 mem:=QD
 obj:=λi h st b B=>by
  have e:b=it:=by simpa using B
  subst e;show eg st λ_ j=>bA j λo e c d=>?_;clear j;clear st;show⟨o,e,λv z=>by rw[d]at z;cases z⟩
 keep:=λi h h' st k=>⟨st.1,st.2.at λo e=>k it QD o e⟩
 item:=by
  intro X V Y U Z i pins s σ H E I G st J;subst V Y U;show eg J λF q=>eB q λxs x hq hx=>?_;clear q;clear J;show bA (I.list hq) λits rv p hz=>?_;show ai (rv.get hx) λu hu ru=>?_;show fK (G it QD) λM f1 f2 N O S=>?_;obtain⟨_,hit⟩:=st;have L:(n:Int)-1-((i:Nat):Int)=((n-1-i:Nat):Int):=by omega
  rw[L]at hit;show wpAny_pyNext_rev_item hit p.isList (x:=u) (by simpa using hu) λh' D sb=>?_;have e2:((n-1-i:Nat):Int)-1=(n:Int)-1-((i+1:Nat):Int):=by omega
  rw[e2]at D;have I1:Inv X pins σ H {s with heap:=h'}:=I.turned (t':=s.toks) (λb o B e=>(sb.2 b B).trans e) M f1 N O S;show bA (id D) λo e c d=>?_;show⟨u,rfl,tj (s:={s with heap:=h'}) e c d QB ⟨x,H,I1,ru,⟨rfl,λys hy=>by rw[I.ym hy hq];show hx⟩,⟨F,D⟩,λb B=>(G b B).1⟩⟩
 done:=by
  intro X V Y U Z i pins s σ H E I G st J;subst V Y U;show fK (G it QD) λM f1 f2 N O S=>?_;obtain⟨F,hit⟩:=st;have a0:n<=i:=J;have L:(n:Int)-1-((i:Nat):Int)=-1:=by omega
  rw[L]at hit;show wpAny_pyNext_rev_end (I.ok.hd Z) hit λh' eb=>⟨rfl,I.turned (t':=s.toks) (λb o B e=>eb b o B e) M f1 N O S⟩
 self:=λA i s Q E st h=>wpAny_pyIter_revIter st.2 h
def Gy(K:aw)(ta:TA):TI:=λσ H R=>ta σ H λj H1=>∃(a:ab)(xs:List V),j= [.ref a]/\aj K H1 a xs/\R (zK K a xs.length) H1
section
variable {X:Cx}{tg:Expr}
def SR{e:Expr}{ta:TA}{p pos:Pos}(F:Gl X "reversed")(G:X.mg "reversed"=none)(D:PA X [e] ta)(L:dY [e] X.env= [(false,eval e X.env)]:=by rfl):PI X tg (.Call (.Name "reversed" p) [e] [] pos) (Gy X.K ta):=by
 intro pins s σ H R I h;show Call_ (qV I F G boot_reversed5 (xw (br (D pos pins s σ H _ I h) λW U n=>bp n λY H1 j N z=>?_) L rfl));show bp z λa xs e J q=>?_;subst z e;cases N with
 |cons r O=>
  cases O;cases r;show bA (j.list J) λits S M n=>?_;have V:=S.length;have B:((its.toArray.size:Nat):Int)-1=(xs.length:Int)-1-((0:Nat):Int):=by simp only[fg];omega
  show call_reversed_list M.isList (wpAny_pyIter_revIter (l:=a) (i:=((its.toArray.size:Nat):Int)-1) ⟨_,fj _ rfl,rfl,rfl⟩ ?_);show vW (tk:=U.toks) j _ (WV a _ xs.length) ⟨cT _,?_⟩ q;rw[<-B];show⟨_,fj _ rfl,rfl,rfl⟩
end
def zJ(x:Str):It:=⟨λi _=>i<x.cps.size,λi H v H'=>H'=H/\∃c,x.cps[i]? =some c/\v= .str ⟨#[c]⟩,λi _=>x.cps.size<=i⟩
def KY{P:aE}{w:aC}{K:aw}{tg:Expr}(it:ab)(x:Str)(t:Tok)(ty:String)(n:ty="str_ascii_iterator"\/ty="str_iterator"):
  Turn P w K tg (zJ x) [it] it (λi h=>h.IsStrIter it ty x t i) where
 mem:=QD
 obj:=λi h st b j=>by
  have e:b=it:=by simpa using j
  subst e;show bA st λo e c d=>?_;clear st;show⟨o,e,λv z=>by rw[d]at z;cases z⟩
 keep:=λi h h' st k=>let⟨o,ho,r⟩:=st;⟨o,k it QD o ho,r⟩
 item:=by
  intro X S Z O B i pins s σ H E I M st V;subst S Z O;show fK (M it QD) λF f1 f2 G J L=>?_;have W:Walks X.prog X.w X.A it [it] [it] x.cps.size (SignAt x) (λi h=>h.IsStrIter it ty x t i):=by
   rcases n with e | e
   .rw[e];show Walks.strAscii (I.ok.hd B) it x t
   .rw[e];show Walks.strWide (I.ok.hd B) it x t
  have Y: ["enumerate","zip","dict_itemiterator","dict_reverseitemiterator","odict_iterator","itertools.zip_longest","itertools.pairwise"].contains ty=false:=by
   rcases n with e | e
   .rw[e];decide
   .rw[e];decide
  show W.item i s _ _ V st λv h' tk hv D kk=>?_;show eB hv λc u U q=>?_;subst hv q;have I1:Inv X pins σ H {s with heap:=h',toks:=tk}:=I.turned (λb o j e=>kk b o (by simpa using j) e) F f1 G J L;show bA (id D) λoi e cc dd=>?_;show⟨_,rfl,tj (s:={s with heap:=h',toks:=tk}) e cc dd Y ⟨.str ⟨#[c]⟩,H,I1,⟨u,rfl⟩,⟨rfl,c,U,rfl⟩,D,λb j=>(M b j).1⟩⟩
 done:=by
  intro X S Z O B i pins s σ H E I M st V;subst S Z O;show fK (M it QD) λF f1 f2 G J L=>?_;have hx:x.cps[i]? =none:=wV V;rcases n with e | e
  .rw[e]at st;show wpAny_pyNext_ascii_end (I.ok.hd B) st hx λh' N=>⟨rfl,I.turned (t':=s.toks) (λb o j e=>N b o j e) F f1 G J L⟩
  .rw[e]at st;show wpAny_pyNext_wide_end (I.ok.hd B) st hx λh' N=>⟨rfl,I.turned (t':=s.toks) (λb o j e=>N b o j e) F f1 G J L⟩
 self:=λA i s Q E st h=>by
  rcases n with e | e
  .rw[e]at st;show wpAny_pyIter_striter_ascii st h
  .rw[e]at st;show wpAny_pyIter_striter_wide st h
def Qa(te:TE):TI:=λσ H R=>te σ H λv H1=>∃x,v= .str x/\R (zJ x) H1
def SS{X:Cx}{tg e:Expr}{te:TE}(B:PE X e te):PI X tg e (Qa te):=by
 intro pins s σ H R I h;show br (B pins s σ H _ I h) λv z ⟨y,H1,j,D,x,ex,q⟩=>?_;subst ex;obtain⟨t,rfl⟩:=D;cases n:x.cps.all (·<128)
 .show wpAny_pyIter_wide n (vW (tk:=z.toks) j _ (KY _ x t "str_iterator" (.inr rfl)) ⟨_,fj _ rfl,rfl,rfl⟩ q)
 .show wpAny_pyIter_ascii n (vW (tk:=z.toks) j _ (KY _ x t "str_ascii_iterator" (.inl rfl)) ⟨_,fj _ rfl,rfl,rfl⟩ q)
section
variable {prog:aE}{w:aC}{A:dj}{E:af->ao->Prop}{s:ao}
end
def QQ{κ:Type}{kvs:List (κ×V)}{vs:List (κ×af)}(h:KV kvs vs):∀{i:Nat}{k:κ}{v:V},kvs[i]? =some (k,v)->∃u,vs[i]? =some (k,u)/\RelV v u:=by
 unfold KV at h;induction h with
 |nil=>intro i k v e;simp at e
 |@cons a b l₁ l₂ r t n=>
  intro i k v e;cases i with
  |zero=>simp only[d5,df.injEq]at e;subst e;show⟨b.2,?_,r.2⟩;simp only[d5];show congrArg some (Prod.ext r.1.symm rfl)
  |succ j=>simp only[d4]at e ⊢;show n e
def TB{k:Key}{u:af}(h:oj k u=true):RelV (kV k) u:=by
 rcases mw h with⟨i,t,rfl,rfl⟩ | ⟨x,t,rfl,rfl⟩
 .show⟨t,rfl⟩
 .show⟨t,rfl⟩
section
variable {X:Cx}{pins:List (ab×Obj)}{σ:St}{H:Hp}{s:ao}{d:ab}{o:Obj}
def Inv.By{kvs:List (Key×V)}(I:Inv X pins σ H s)(h:H d=some (.fe o (.dK kvs))):
  (d==sysModules)=false/\s.heap.get? d=some o/\o.ExactDict/\∃(es:Array DictEntry)(ep:Nat)(vs:List (Key×af)),o.data= .dict es ep/\es.size=kvs.length/\KV kvs vs/\s.heap.DictAt (fQ X.prog X.w) d vs ep:=by
 show j0 (I.aA d _ h) λhd z F j=>ai j λvs D j=>iN j λo' es ep q B n r=>?_;clear j;clear j;rw[hd]at q;cases q;show⟨F,hd,B,es,ep,vs,n,?_,D,o,es,hd,B,n,r⟩;have G:=r.2.1.length;have J:kvs.length=vs.length:=Paired.length D;rw[gW]at G;omega
end
def zH(d:ab)(o:Obj)(kvs:List (Key×V)):It:=
 ⟨λi H=>H d=some (.fe o (.dK kvs))/\i<kvs.length,λi H x H'=>∃T k v,kvs[i]? =some (k,v)/\x= .ref T/\H T=none/\H'=upd H T (.tup [kV k,v]),λi H=>H d=some (.fe o (.dK kvs))/\kvs.length<=i⟩
def FR{o:Obj}{es n:Array DictEntry}{ep j:Nat}(h:o.data= .dict es ep)(h':o.data= .dict n j):n=es/\j=ep:=by rw[h]at h';cases h';show⟨rfl,rfl⟩
section
variable {P:aE}{w:aC}{K:aw}{tg:Expr}{d:ab}{o:Obj}{es:Array DictEntry}{ep:Nat}
def WR{kvs:List (Key×V)}{L:List Expr}{kk:Nat}{tpos:Pos}(it:ab)(S:o.data= .dict es ep):
  Turn P w K (.Tuple L kk tpos) (zH d o kvs) [it] it (λi h=>∃G J,IsItemIter h it d i kvs.length ep G J) where
 mem:=QD
 obj:=λi h st b q=>by
  have e:b=it:=by simpa using q
  subst e;show ic st λG J e=>?_;clear st;show⟨_,e,λv z=>nomatch z⟩
 keep:=λi h h' st k=>let⟨G,J,e⟩:=st;⟨G,J,k it QD _ e⟩
 item:=by
  intro X hP hw hK hc i pins s σ H E I U st hg;subst hP hw hK;obtain⟨hd,hi⟩:=hg;show j0 (I.By hd) λhs b0 hx j=>iN j λa3 a0 vs D b1 Z hm=>?_;clear j;obtain⟨rfl,rfl⟩:=FR S D;obtain⟨⟨k,v⟩,N⟩:∃p,kvs[i]? =some p:=⟨kvs[i],dA hi⟩;show ai (QQ Z N) λu hu ru=>?_;have Y:kvs.length=vs.length:=Paired.length Z;show ic st λG J F=>?_;clear st;rw[Y]at F;have O:it<s.heap.objs.size:=dU F;show wpAny_pyNext_items_item F hm hu λkey h' M ho hT hz hk=>?_;show⟨_,rfl,wpAny_letOwnedTupleGo_items (s:={s with heap:=h'}) ho λB a5 sb=>?_⟩;have a4:B.get? s.heap.objs.size=some {cls:= .type "tuple",data:= .seq #[key,u]}:=(sb.2 _ (oX O)).trans hT;have new:fC X.prog X.w (upd H s.heap.objs.size (.tup [kV k,v])) B s.heap.objs.size (.tup [kV k,v]):=
   ⟨by show 2<=dc;decide,[key,u],.cons (TB (show oj k key=true from M)) (.cons ru .nil),⟨_,a4,rfl,_,rfl⟩⟩
  have I1:Inv X pins σ (upd H s.heap.objs.size (.tup [kV k,v])) {s with heap:=B}:=
   I.DF (t':=s.toks) (ch:= [it]) (λb ob q e=>(sb.2 b (by simpa using q)).trans (hk b ob (by simpa using q) e)) U (bo _) new
  show⟨.ref s.heap.objs.size,_,I1,rfl,⟨_,k,v,N,rfl,I.aA.fresh (bo _),rfl⟩,⟨key,u,?_⟩,λb q=>?_⟩
  .rw[Y];show a5
  .have e:b=it:=by simpa using q
   rw[e,az (eU O)];show(U it QD).1
 done:=by intro X hP hw hK hc i pins s σ H E I U st hg;subst hP hw hK;obtain⟨hd,hi⟩:=hg;show fK (U it QD) λf0 f1 f2 f3 f4 f5=>?_;show j0 (I.By hd) λhs b0 hx n=>iN n λa3 a0 vs D b1 Z hm=>?_;clear n;obtain⟨rfl,rfl⟩:=FR S D;have Y:kvs.length=vs.length:=Paired.length Z;show ic st λG J F=>?_;clear st;rw[Y]at F;show wpAny_pyNext_items_end (I.ok.hd hc) F hm (qm (by omega)) λh' eb=>⟨rfl,I.turned (t':=s.toks) (λb ob q e=>eb b ob q e) f0 f1 f3 f4 f5⟩
 self:=λA i s Q E st h=>let⟨_,_,e⟩:=st;PySem.W.kcp_self e h
end
def Gx(td:TE):TI:=λσ H R=>td σ H λx H1=>∃d o kvs,x= .ref d/\H1 d=some (.fe o (.dK kvs))/\R (zH d o kvs) H1
section
variable {X:Cx}{tg e:Expr}{td:TE}{apos cpos:Pos}
def SQ{n:List Expr}{M:Nat}{tpos:Pos}(S:PE X e td)(B:attributeBase e "items" X.env (eval e X.env)=eval e X.env:=by rfl)(D:(apos.endLine==cpos.line)=true:=by rfl):
  PI X (.Tuple n M tpos) (.Call (.Attribute e "items" apos) [] [] cpos) (Gx td):=by
 intro pins s σ H R I h;show wpAny_Call_method (T:="dict") (id:="dict.items") B rfl D F.plainAttrs_dict F.slot_dict_items F.type_dict_items (br (S pins s σ H _ I h) λu z ⟨x,H1,L,rx,d,o,kvs,ex,hd,q⟩=>?_);subst ex;obtain rfl:u=Value.ref d:=rx;show j0 (L.By hd) λW U hx j=>iN j λes ep N J Y Z G=>?_;clear j;have V:kvs.length=N.length:=Paired.length Z;exists G.dictOf.typeIs,G.dictOf.mapOf.noDict;have O:Inv X pins σ H1 {z with heap:=z.heap.push {cls:= .type "dict_items",data:= .fields #[.ref d]}}:=L.kept (t':=z.toks) λb ob q=>ed _ q;have fin:aM (model X.prog X.w) X.A (pyIter (.ref z.heap.objs.size)) (xq X pins σ (.Tuple n M tpos) R) X.xe {z with heap:=z.heap.push {cls:= .type "dict_items",data:= .fields #[.ref d]}}:=by show wpAny_pyIter_items (d:=d) (knd:=fQ X.prog X.w) ⟨_,fj _ rfl,rfl,rfl⟩ (G.push _) (vW (tk:=z.toks) O _ (WR _ J) ⟨.none,.none,?_⟩ q);rw[V];show fj _ rfl
 show aM _ _ (callWith cpos (.builtin "dict.items") [.ref d] [] []) _ X.xe z;show method_meetsIn F.slot_dict_items F.entry_dict_items rfl (PySem.evalArgs_none ⟨rfl,G.dictOf.typeIs,F.args_dict_items_1 _,_,meets_dict_items (fQ X.prog X.w) d W,⟨N,G.dictOf⟩,fin⟩)
end
def zF(K:aw)(a:ab):It:=
 ⟨λi H=>∃(xs:List V)(x:V),aj K H a xs/\xs[i]? =some x,λi H v H'=>∃T x,v= .ref T/\H T=none/\H'=upd H T (.tup [.int (i:Nat),x])/\∀xs,aj K H a xs->xs[i]? =some x,λi H=>∃xs:List V,aj K H a xs/\xs.length<=i⟩
def WO{P:aE}{w:aC}{K:aw}{J:List Expr}{kk:Nat}{tpos:Pos}(a e it:ab):
  Turn P w K (.Tuple J kk tpos) (zF K a) [e,it] e (λi h=>(∃B,IsEnum h e it ((i:Nat):Int) B)/\h.IsListIter it a i/\e≠it) where
 mem:=QD
 obj:=λi h st b D=>by
  show cY st λj O _=>?_;clear st;obtain⟨B,F⟩:=j;obtain⟨o,ho,hc,hd⟩:=O;have V:b=e\/b=it:=by simpa using D
  rcases V with z | z
  .rw[z];show⟨_,F,λv q=>nomatch q⟩
  .rw[z];show⟨o,ho,λv q=>by rw[hd]at q;cases q⟩
 keep:=λi h h' st k=>let⟨⟨B,F⟩,hi,n⟩:=st;⟨⟨B,k e QD _ F⟩,hi.at λo q=>k it QD o q,n⟩
 item:=by
  intro X Z hw Y hc i pins s σ H E I S st M;subst Z hw Y;show cY st λj hit n=>?_;clear st;obtain⟨B,F⟩:=j;show eB M λxs x U hx=>?_;clear M;show bA (I.list U) λits rv p hz=>?_;show ai (rv.get hx) λu hu ru=>?_;have L:e<s.heap.objs.size:=dU F;have a5:it<s.heap.objs.size:=by obtain⟨_,q,_⟩:=hit;show dU q
  show wpAny_pyNext_enum_item F hit p.isList (x:=u) (by simpa using hu) n λh' ho N hT b0 hk=>?_;show⟨_,rfl,wpAny_letOwnedTupleGo_enum (s:={s with heap:=h',toks:=s.toks+1}) ho λG a4 sb=>?_⟩;have a0:G.get? s.heap.objs.size=some {cls:= .type "tuple",data:= .seq #[.int i s.toks,u]}:=(sb.2 _ (oX L)).trans hT;have new:fC X.prog X.w (upd H s.heap.objs.size (.tup [.int (i:Nat),x])) G s.heap.objs.size (.tup [.int (i:Nat),x]):=
   ⟨by show 2<=dc;decide,[.int i s.toks,u],.cons ⟨_,rfl⟩ (.cons ru .nil),⟨_,a0,rfl,_,rfl⟩⟩
  have I1:Inv X pins σ (upd H s.heap.objs.size (.tup [.int (i:Nat),x])) {s with heap:=G,toks:=s.toks+1}:=
   I.DF (ch:= [e,it]) (λb ob D q=>(sb.2 b (λz=>D (by simp[z]))).trans (hk b ob (λz=>D (by simp[z])) (λz=>D (by simp[z])) q)) S (bo _) new
  show⟨.ref s.heap.objs.size,_,I1,rfl,⟨_,x,rfl,I.aA.fresh (bo _),rfl,λys hy=>by rw[I.ym hy U];show hx⟩,⟨⟨u,?_⟩,N.at λo q=>(sb.2 it (Ne.symm n)).trans q,n⟩,λb D=>?_⟩
  .have e1:((i+1:Nat):Int)=(i:Int)+1:=by omega
   rw[e1];show a4
  .have a3:b<s.heap.objs.size:=by
    have V:b=e\/b=it:=by simpa using D
    rcases V with z | z
    .rw[z];show L
    .rw[z];show a5
   rw[az (eU a3)];show(S b D).1
 done:=by intro X Z hw Y hc i pins s σ H E I S st M;subst Z hw Y;show cY st λj hit n=>?_;clear st;obtain⟨B,F⟩:=j;show ai M λxs U hx=>?_;clear M;show bA (I.list U) λits rv p hz=>?_;show fK (S it QD) λf0 f1 f2 f3 f4 f5=>?_;have hl:=rv.length;show wpAny_pyNext_enum_end (I.ok.hd hc) F hit p.isList (by simp;omega) λh' eb=>⟨rfl,I.turned (t':=s.toks) (λb o D q=>eb b o D q) f0 f1 f3 f4 f5⟩
 self:=λA i s Q E st h=>let⟨⟨_,F⟩,_⟩:=st;DR F h
def P9(K:aw)(ta:TA):TI:=λσ H R=>ta σ H λj H1=>∃a xs,j= [.ref a]/\aj K H1 a xs/\R (zF K a) H1
def SO{X:Cx}{e:Expr}{ta:TA}{p pos tpos:Pos}{n:List Expr}{kk:Nat}(S:Gl X "enumerate")(V:X.mg "enumerate"=none)(N:PA X [e] ta)(Y:dY [e] X.env= [(false,eval e X.env)]:=by rfl):
  PI X (.Tuple n kk tpos) (.Call (.Name "enumerate" p) [e] [] pos) (P9 X.K ta):=by
 intro pins s σ H R I h;show Call_ (qV I S V boot_enumerate (xw (br (N pos pins s σ H _ I h) λus j G=>bp G λvs H1 D r1 J=>?_) Y rfl));show bp J λa xs ex W q=>?_;subst J ex;cases r1 with
 |cons r rr=>
  cases rr;cases r;show bA (D.list W) λits rv p' G=>?_;show call_enumerate_list p'.isList λh' F hit Z U=>DR F ?_;have L:Inv X pins σ H1 {j with heap:=h'}:=D.kept (t':=j.toks) U;show⟨j.heap.objs.size+1,[j.heap.objs.size+1,j.heap.objs.size],_,_,H1,rfl,L,WO a (j.heap.objs.size+1) j.heap.objs.size,⟨⟨.none,F⟩,hit,Nat.succ_ne_self _⟩,λb O=>?_,q⟩;have M:b=j.heap.objs.size+1\/b=j.heap.objs.size:=by simpa using O
  have B:j.heap.objs.size<=b:=by
   rcases M with z | z
   .rw[z];show Nat.le_add_right _ _
   .rw[z];show bo _
  show D.qQ B (D.aA.fresh B)
end L2
section
namespace Bits
open PySem PyProof.Rows
end Bits
end
section
namespace TL
open PySem PySem.Builtin PySem.Builtin.Str PySem.StrLaws
end TL
end
namespace L2
open PySem PySem.Spec PyProof.Rows
section
variable {X:Cx}{pins:List (ab×Obj)}{σ:St}{H:Hp}{s:ao}{Q:VK}
end
section
variable {X:Cx}
end
section
variable {X:Cx}{o e:Expr}{to te:TE}
end
end L2
namespace L2
open PySem PySem.Spec PyProof.Rows
section
variable {X:Cx}
end
end L2
namespace Att
open PySem PySem.W PySem.Calls PyProof.Rows
section
variable {prog:aE}{w:aC}{A:dj}{E:af->ao->Prop}{s:ao}{K:Frag}
end
end Att
namespace L2
open PySem PySem.Spec PyProof.Rows
end L2
namespace L2
open PySem PySem.Spec PyProof.Rows
end L2
namespace L2
open PySem PySem.Spec PyProof.Rows
def inClass(s:aT)(j:Nat):aT:=match s with
 |.ClassDef _ _ _ body _ _ _ _ _ _ _=>body.getD j (.Pass ⟨0,0,0,0⟩)
 |_=> .Pass ⟨0,0,0,0⟩
def xT(s:aT):Arguments:=match s with
 |.FunctionDef _ a _ _ _ _ _ _ _ _=>a
 |_=>{posonlyargs:= [],args:= [],vararg:=none,kwonlyargs:= [],kw_defaults:= [],kwarg:=none,defaults:= []}
def pC(s:aT):List aT:=match s with
 |.FunctionDef _ _ b _ _ _ _ _ _ _=>b
 |_=> []
def aS(s:aT):Scope:=match s with
 |.FunctionDef _ _ _ _ _ _ j _ _ _=>j
 |_=>{kind:= .function,names:= [],isGenerator:=false,isCoroutine:=false}
abbrev lO:mL:=λ_ _ _ _ _ _=>False
abbrev E0:XK:=λ_ _ _=>False
def yI{X:Cx}:Passes lO X E0:=λ_ _ _ _ _ _ _ h=>h.elim
structure oP(K:aw)(x qual:Str)(st:aT)(f:ab)(fd:mN):Prop where
 ex:∃(oc:af)(od:Option ab)(kV doc pm:af)(an:Option ab)(cdv ct:af)(osl:Array (Option af)),
  fd=uR x qual (xT st) (pC st) (aS st) .none kV doc pm an cdv ct/\K.lookup f=some ⟨oc,od,.func fd,osl⟩/\Ex K cdv qual=true
 kp:uS K (.ref f)=true
section
variable {P:aE}{w:aC}{K:aw}{mg:Str->Option af}{base:aH}
def oP.ok{x n:Str}{st:aT}{f:ab}{fd:mN}{N ps:List Str}{k:Nat}{sp:Sp}(F:oP K x n st f fd)(S:bj N ps (aS st))(len:∀vs H Q E,sp vs H Q E->vs.length=ps.length)
  (D:∀(z:af)(A:dj)(j:List Env)(s:ao)(H:Hp)(vs:List V)(Q:VK)(E:XK),fD k (A.deeper (envOfC n (aS st) s.heap.objs.size f z))->sp vs H Q E->
   ∃t,iY (nT lO P w K mg base N n (aS st) f z A j s H E).rb (pC st) t/\t {nx:=λ_ H'=>Q .a9 H',rt:=Q} (start N vs) H):jw P w K mg base lO (k+1) f fd ps sp:=by
 show kB F.ex λoc od Z L pm W z Y U B=>cY B λG O I=>?_;subst B G;show PH O I S len λA j s H vs Q E M J=>?_;show ai (D z A j s H vs Q E M J) λt h q=>?_;show⟨t,h.rb,q⟩
def oP.binds{x n:Str}{st:aT}{f:ab}{fd:mN}{ps:List Str}(F:oP K x n st f fd)
  (h:∀(I z J:af)(D:Option ab)(q G:af)(us:List af),us.length=ps.length->bindArgs (uR x n (xT st) (pC st) (aS st) .none I z J D q G) ⟨us,[]⟩=pure (ps.zip us)):Binds K fd ps []:=by
 show kB F.ex λO S I z J D q G M j=>cY j λB N L=>?_;subst j B;show .all (h I z J D q G)
def Xq{x j:Str}{st:aT}{f:ab}{I:af}{J B:Option ab}{z:Array (Option af)}{F q G n D:af}(l:K.lookup f=some ⟨I,J,.func (uR x j (xT st) (pC st) (aS st) .none F q G B n D),z⟩)
  (c:Ex K n j=true) (k:uS K (.ref f)=true):oP K x j st f (uR x j (xT st) (pC st) (aS st) .none F q G B n D):=⟨⟨I,J,F,q,G,B,n,D,z,rfl,l,c⟩,k⟩
end
section
variable {X:Cx}
def pv(i:Nat){x:Str}{pos:Pos}(n:X.N[i]? =some x:=by rfl)(z:sG X.env.scope x:=by first | show Or.inl rfl | show Or.inr (Or.inl rfl) | show Or.inr (Or.inr rfl))(q:(x==("__debug__":Str))=false:=by decide)
  (j:(x==("__classdict__":Str))=false:=by decide):PE X (.Name x pos) (aB i):=SM n z q j
def Fn:gX X (.builtin "len") (λxs H Q=>∃a kvs,xs= [V.ref a]/\H a=some (.dK kvs)/\Q (.int kvs.length) H):=by intro pins s σ H xs F Q I r h;show bp h λa kvs n B q=>?_;subst h n;show ai (vals1 r) λu j D=>?_;subst j;cases D;show Oi I (.inl B) λt s' z=>⟨.int kvs.length,H,z,⟨t,rfl⟩,q⟩
end
def ah(H H':Hp):Prop:=∀b o,H b=some o->H' b=some o
def ah.refl(H:Hp):ah H H:=λ_ _ h=>h
def ah.trans{H H1 H2:Hp}(a:ah H H1)(b:ah H1 H2):ah H H2:=λc o h=>b c o (a c o h)
def ah.free{H H':Hp}(e:ah H H'){l:ab}(h:H' l=Option.none):H l=Option.none:=by
 cases q:H l with
 |none=>rfl
 |some o=>rw[e l o q]at h;cases h
def ah.seq{K:aw}{H H':Hp}{a:ab}{xs:List V}(e:ah H H')(h:aj K H a xs):aj K H' a xs:=by
 rcases h with(h | ⟨o,h⟩) | h
 .show .inl (.inl (e _ _ h))
 .show .inl (.inr ⟨o,e _ _ h⟩)
 .show .inr h
section
variable {κ:Type} [DecidableEq κ]
end
def at_of{xs:List V}{z:Int}{j:Nat}{v:V}(e:z=(j:Int))(h:xs[j]? =some v):ly xs z=some v:=by rw[e];show LX h
end L2
namespace L2
open PySem PySem.Spec PyProof.Rows
open PySem.W (WData Codec OpenSpec Well WellAll ReadsW ReadsAllW)
def Eo(H:Hp):Prop:=∀b,H b=none\/∃o u,H b=some (.fe o u)
def K9{P:Params}{h:aH}:∀(ns:List Int)(us:List af),WellAll P h us (ns.map WData.int)->Vals (ns.map V.int) us
 |[],_,x=>by cases x;show .nil
 |n::r,_,x=>by
  cases x with
  |cons a b=>cases a;show .cons ⟨_,rfl⟩ (K9 r _ b)
def Iv{R:PySem.W.WRecords}{cl:Str->Option ab}{h:aH}:∀(ns:List Int)(us:List af),Vals (ns.map V.int) us->∃c,ReadsAllW R cl h us (ns.map WData.int) c
 |[],_,x=>by cases x;show⟨_,ReadsAllW.nil⟩
 |n::r,_,x=>by
  cases x with
  |cons a b=>obtain⟨t,rfl⟩:=a;obtain⟨c,q⟩:=Iv r _ b;show⟨_,ReadsAllW.cons (ReadsW.int n t) q⟩
def XJ{P:aE}{w:aC}{K:aw}{L mb:Str->Option af}{k:Nat}{fa:ab}{fd:mN}{x:Str}{sp:Sp}{c:ao}{u0:af}{ns ms:List Int}{R:PySem.W.WRecords}{cl:Str->Option ab}
  (N:K.In c.heap) (I:c.heap.Ns mainGlobals L) (S:c.heap.Ns builtinsNs mb) (T:∀x:Str,x≠"__name__"->mb x=bootBuiltins x) (G:c.heap.NoLimit) (hg:c.gens=#[])
  (Z:Well w.params c.heap u0 (.list (ns.map .int))) (hz:ns.length<=dc) (X:fD k callerA)
  (F:∀i:aH,K.In i->i.Ns mainGlobals L->jw P w K L i lO k fa fd [x] sp) (B:∀(s:ao)(us:List af),us.length=1->BindsTo s fd ⟨us,[]⟩ ([x].zip us))
  (Y:∀(H:Hp)(a:ab),Eo H->aj K H a (ns.map V.int)->sp [.ref a] H (λv M=>∃l,v= .ref l/\aj K M l (ms.map V.int)) λ_ _ _=>False):
  codeAny (model P w) callerA (.call (.ref fa) ⟨[u0],[]⟩) (λr t=>∃u as,r= .ok (.ret u)/\ReadsW R cl t.heap u (.list (ms.map .int)) as/\OldK c.heap t.heap/\t.os=c.os/\AllBare t.gens) c:=by
 obtain⟨a,vs,rfl,D,j⟩:∃(a:ab)(vs:List af),u0= .ref a/\c.heap.get? a=some {cls:= .type "list",data:= .seq vs.toArray}/\WellAll w.params c.heap vs (ns.map .int):=by
  cases Z with
  |list D j=>show⟨_,_,rfl,D,j⟩
 have C:=K9 _ _ j;obtain⟨H,hO,aA,hK,a0,hS⟩:∃H:Hp,Eo H/\fB P w H c.heap/\(∀b u,H b=some u->K.lookup b=none)/\(∀(b:ab)(o:Obj)(es:Array DictEntry)(ep:Nat),c.heap.get? b=some o->o.data= .dict es ep->H b=none)/\aj K H a (ns.map V.int):=by
  cases U:K.lookup a with
  |some o=>have e2:=N a o U;rw[D]at e2;obtain rfl:=df.inj e2;show⟨λ_=>none,λ_=> .inl rfl,λ_ _ q=>(nomatch q),λ_ _ q=>(nomatch q),λ_ _ _ _ _ _=>rfl,.inr ⟨_,vs.toArray,_,U,rfl,rfl,rfl,by rw[fg,<-C.length,ay];show hz,by simpa using C⟩⟩
  |none=>
   have J:∀b u,upd (λ_=>none) a (.fe {cls:= .type "list",data:= .seq vs.toArray} (.lst (ns.map V.int))) b=some u->b=a/\u= .fe {cls:= .type "list",data:= .seq vs.toArray} (.lst (ns.map V.int)):=λb u q=>by
    by_cases e:b=a
    .subst e;rw[ar]at q;show⟨rfl,(df.inj q).symm⟩
    .rw[az e]at q;cases q
   show⟨upd (λ_=>none) a (.fe {cls:= .type "list",data:= .seq vs.toArray} (.lst (ns.map V.int))),λb=>?_,λb u q=>?_,λb u q=>?_,λb o es ep e d=>?_,.inl (.inr ⟨_,ar⟩)⟩
   .cases q:upd (λ_=>none) a (.fe {cls:= .type "list",data:= .seq vs.toArray} (.lst (ns.map V.int))) b with
    |none=>show .inl rfl
    |some u=>show .inr ⟨_,_,by rw[(J b u q).2]⟩
   .obtain⟨rfl,rfl⟩:=J b u q;show⟨D,by rw[ay];show hz,vs,_,C,D⟩
   .rw[(J b u q).1];show U
   .cases q:upd (λ_=>none) a (.fe {cls:= .type "list",data:= .seq vs.toArray} (.lst (ns.map V.int))) b with
    |none=>rfl
    |some u=>rw[(J b u q).1,D]at e;cases e;cases d
 have f:∀{b:ab}{o:Obj},c.heap.get? b=some o->H b=none->(pF c.heap H).get? b=some o:=λe n=>P4 e n;have p:∀{b:ab}{m:Str->Option af},c.heap.Ns b m->(pF c.heap H).Ns b m:=λ{b m} ⟨o,es,ep,e,d,r⟩=>⟨o,es,ep,f e (a0 b o es ep e d),d,r⟩;have E:K.In (pF c.heap H):=λb o e=>f (N b o e) (by
  cases q:H b with
  |none=>rfl
  |some u=>rw[hK b u q]at e;cases e)
 have e0:qd P w K L (pF c.heap H) callerA [] c H:=⟨rfl,⟨E,p I,⟨mb,p S,T⟩,let⟨mc,O,Q⟩:=G;⟨mc,p O,Q⟩⟩,λb o e=>Rv e,Aa (P5 _ _),trivial,λb S=>absurd (show b∈([]:List ab)from S) QD,aA,.of_eq hg⟩;show sR ((F _ E (p I)).run callerA [] c H ⟨[.ref a],[]⟩ [.ref a] [.ref a] _ _ X e0 (B c _ rfl) (.cons rfl .nil) (Y H _ hO hS)) λr t x=>?_;cases r with
 |error e=>show False.elim x
 |ok fl=>
  cases fl with
  |ret u=>
   obtain⟨v,M,os,bare,un,y,r',l,rfl,q⟩:=x;have A:∀b o,c.heap.get? b=some o->t.heap.get? b=some o:=λb o e=>by
    rcases hO b with z | ⟨ob,u3,z⟩
    .show un.keep b o e z (by intro z;show absurd (show b∈([]:List ab)from z) QD) QD
    .obtain⟨e1,_⟩:=aA b _ z;rw[e]at e1;cases e1;show(y b _ (un.mq b _ _ z)).1
   cases r';obtain⟨g,o,n,rv,O,Q,h3⟩:∃(g:List af)(o:Obj)(n:Nat),Vals (ms.map V.int) g/\t.heap.get? l=some o/\o.cls= .type "list"/\o.data= .seq g.toArray n:=by
    rcases q with q | ⟨o,g,n,e,hc,_,hd,_,C⟩
    .obtain⟨_,g,n,C,e⟩:=(show fC P w M t.heap l (.lst (ms.map V.int))from q.ok y);show⟨g,_,n,C,e,rfl,rfl⟩
    .show⟨g.toList,o,n,C,A _ _ (N _ _ e),hc,by simp[hd]⟩
   obtain⟨as,X⟩:=Iv (R:=R) (cl:=cl) (h:=t.heap) _ _ rv;show⟨_,_,rfl,ReadsW.list O Q h3 X,OldK.of_keep A,os,bare⟩
  |_=>show False.elim x
end L2
namespace L2
open PySem PySem.Spec PyProof.Rows
section
variable {X:Cx}
def gi{x:Str}{i:Int}{a:Pos}(h:∃t,X.mg x=some (.int i t))(c:Gl X x:=by rfl)(b:(x==("__debug__":Str))=false:=by decide):PE X (.Name x a) (tC (.int i)):=by obtain⟨t,h⟩:=h;show HR c h ⟨t,rfl⟩ b
def gr{x:Str}{a:ab}{b:Pos}(h:X.mg x=some (.ref a))(d:Gl X x:=by rfl)(c:(x==("__debug__":Str))=false:=by decide):PE X (.Name x b) (tC (.ref a)):=
 HR d h rfl c
end
structure Def(K:aw)(mg:Str->Option af)(x:Str)(st:aT)(ps:List Str):Prop where
 ex:∃f fd,oP K x x st f fd/\mg x=some (.ref f)/\Binds K fd ps []
structure bu(P:aE)(w:aC)(K:aw)(mg:Str->Option af)(base:aH)(k:Nat)(x:Str)(ps:List Str)(sp:Sp):Prop where
 ex:∃f fd,jw P w K mg base lO k f fd ps sp/\mg x=some (.ref f)/\uS K (.ref f)=true/\Binds K fd ps []
section
variable {P:aE}{w:aC}{K:aw}{mg:Str->Option af}{base:aH}
def Def.has{x:Str}{d:aT}{N ps:List Str}{k:Nat}{sp:Sp}(D:Def K mg x d ps)(S:bj N ps (aS d))(len:∀vs H Q E,sp vs H Q E->vs.length=ps.length)
  (c:∀(f:ab)(b:af)(A:dj)(a:List Env)(s:ao)(H:Hp)(vs:List V)(Q:VK)(E:XK),fD k (A.deeper (envOfC x (aS d) s.heap.objs.size f b))->sp vs H Q E->
   ∃t,iY (nT lO P w K mg base N x (aS d) f b A a s H E).rb (pC d) t/\t {nx:=λ_ e=>Q .a9 e,rt:=Q} (start N vs) H):bu P w K mg base (k+1) x ps sp:=by
 obtain⟨f,fd,F,j,i⟩:=D.ex;show⟨f,fd,F.ok S len λb A a s H vs Q E l h=>c f b A a s H vs Q E l h,j,F.kp,i⟩
def bu.mono{j k:Nat}{x:Str}{ps:List Str}{sp:Sp}(h:bu P w K mg base j x ps sp)(d:j<=k):bu P w K mg base k x ps sp:=by obtain⟨f,fd,F,a,b,c⟩:=h.ex;show⟨f,fd,F.mono d,a,b,c⟩
end
section
variable {X:Cx}
def pc{k:Nat}{x:Str}{ps:List Str}{sp:Sp}{e:Expr}{es:List Expr}{t:TA}{p a:Pos}(h:bu X.prog X.w X.K X.mg X.base k x ps sp)(o:fD k X.A)(d:PA X (e::es) t)(l:Gl X x:=by rfl)(b:(x==("__debug__":Str))=false:=by decide)
  (j:dY (e::es) X.env=(false,eval e X.env)::dY es X.env:=by rfl) (c:(backTo a (dY es X.env)).any (·.1)=false:=by rfl):PE X (.Call (.Name x p) (e::es) [] a) (a7 sp [] E0 t):=by
 obtain⟨f,fd,F,n,m,i⟩:=h.ex;show SD F o l n m i .nil yI d b j c
end
structure lP(K:aw)(mg:Str->Option af)(x q:Str)(C:ab)(st:aT)(ps:List Str):Prop where
 yn:mg x=some (.ref C)
 cl:ke K C
 yf:∃f fd,Mk K C f/\oP K "__init__" q st f fd/\Binds K fd ps []
structure kO(P:aE)(w:aC)(K:aw)(mg:Str->Option af)(base:aH)(k:Nat)(x:Str)(C:ab)(ps:List Str)(sp:Sp):Prop where
 yn:mg x=some (.ref C)
 yf:∃f fd,Mk K C f/\jw P w K mg base lO k f fd ps sp/\Binds K fd ps []
def lP.has{P:aE}{w:aC}{K:aw}{mg:Str->Option af}{base:aH}{x q:Str}{C:ab}{d:aT}{N ps:List Str}{k:Nat}{sp:Sp}(D:lP K mg x q C d ps)(S:bj N ps (aS d))(len:∀vs H Q E,sp vs H Q E->vs.length=ps.length)
  (c:∀(f:ab)(b:af)(A:dj)(a:List Env)(s:ao)(H:Hp)(vs:List V)(Q:VK)(E:XK),fD k (A.deeper (envOfC q (aS d) s.heap.objs.size f b))->sp vs H Q E->
   ∃t,iY (nT lO P w K mg base N q (aS d) f b A a s H E).rb (pC d) t/\t {nx:=λ_ e=>Q .a9 e,rt:=Q} (start N vs) H):kO P w K mg base (k+1) x C ps sp:=by
 obtain⟨f,fd,M,F,i⟩:=D.yf;show⟨D.yn,f,fd,M,F.ok S len λb A a s H vs Q E j h=>c f b A a s H vs Q E j h,i⟩
section
variable {X:Cx}
def kJ{k:Nat}{C:ab}{x:Str}{ps:List Str}{sp:Sp}{e:Expr}{es:List Expr}{t:TA}{p a:Pos}(h:kO X.prog X.w X.K X.mg X.base k x C ps sp)(m:fD (k+1) X.A)(d:PA X (e::es) t)(l:Gl X x:=by rfl)(b:(x==("__debug__":Str))=false:=by decide)
  (j:dY (e::es) X.env=(false,eval e X.env)::dY es X.env:=by rfl) (c:(backTo a (dY es X.env)).any (·.1)=false:=by rfl):PE X (.Call (.Name x p) (e::es) [] a) (iU C sp [] E0 t):=by
 obtain⟨f,fd,M,F,i⟩:=h.yf;show SJ M F m l h.yn i .nil yI d b j c
def Ia{k:Nat}{C:ab}{x:Str}{ps:List Str}{sp:Sp}{p b:Pos}(h:kO X.prog X.w X.K X.mg X.base k x C ps sp)(e:fD (k+1) X.A)(d:Gl X x:=by rfl)(a:(x==("__debug__":Str))=false:=by decide):PE X (.Call (.Name x p) [] [] b) (iU C sp [] E0 aR):=by obtain⟨f,fd,M,F,c⟩:=h.yf;show SK M F e d h.yn c .nil yI a
end
section
variable {X:Cx}
def bM:R2:=λx y H Q=>match x with
 |.int i=>gn y λj=>Q (.int (i+j)) H
 |x=>bS x y H Q
def gh:eJ X (binaryOp .Add) bM:=by
 intro a s σ H x y v u Q I b c h;cases x with
 |int i=>show ik a s σ H _ y v u Q I b c h
 |_=>show mC a s σ H _ y v u Q I b c h
def cb:R2:=λx y H Q=>match x with
 |.int i=>gn y λj=>rP i j/\Q (.int (i*j)) H
 |x=>bT x y H Q
def BS:eJ X (binaryOp .Mult) cb:=by
 intro a s σ H x y v u Q I b c h;cases x with
 |int i=>show yD a s σ H _ y v u Q I b c h
 |_=>show B6 a s σ H _ y v u Q I b c h
def dw{b:Bool}{A B:Prop}(e:b=true)(h:A):if b=true then A else B:=by subst e;show h
def dJ{b:Bool}{A B:Prop}(e:b=false)(h:B):if b=true then A else B:=by subst e;show h
def cN{a:Option V}{l:List (Option V)}:(a::l)[0]? =some a:=rfl
def cO{a:Option V}{l:List (Option V)}{n:Nat}:(a::l)[n+1]? =l[n]? :=rfl
def cP{α β:Type}{f:α->β}:qr f []= []:=rfl
def cQ{α β:Type}{f:α->β}{a:α}{l:List α}:qr f (a::l)=f a::qr f l:=rfl
def cK{α:Type}{l:List α}: []++l=l:=rfl
def cM{α:Type}{a:α}{l m:List α}:(a::l)++m=a::(l++m):=rfl
def cR{α:Type}{a b:α}{l:List α}:(a::l).set 0 b=b::l:=rfl
def cS{α:Type}{a b:α}{l:List α}{n:Nat}:(a::l).set (n+1) b=a::l.set n b:=rfl
def onT(b:Bool)(A B:Prop):Prop:=match b with
 |true=>A
 |false=>B
def W6(i:Int)(y:V):Bool:=match y with
 |.int j=>decide (i=j)
 |y=>decide (V.int i=y)
def W7(i:Str)(y:V):Bool:=match y with
 |.str j=>decide (i=j)
 |y=>decide (V.str i=y)
def W5(i:Bool)(y:V):Bool:=match y with
 |.bl j=>decide (i=j)
 |y=>decide (V.bl i=y)
def vEq(x y:V):Bool:=match x with
 |.int i=>W6 i y
 |.str i=>W7 i y
 |.bl i=>W5 i y
 |x=>decide (x=y)
def vEq_eq(x y:V):vEq x y=decide (x=y):=by
 cases x with
 |int i=>cases y with
  |int j=>show(decide_eq_decide.mpr (by rw[V.int.injEq]))
  |_=>rfl
 |str i=>cases y with
  |str j=>show(decide_eq_decide.mpr (by rw[V.str.injEq]))
  |_=>rfl
 |bl i=>cases y with
  |bl j=>show(decide_eq_decide.mpr (by rw[V.bl.injEq]))
  |_=>rfl
 |_=>rfl
def rB(K:aw):R2:=λx y H Q=>onT (ud x y) (Q (.bl (vEq x y)) H) (wc K x y H Q)
def oEq(e:X.A.units+64<cLine):eJ X (fT .Eq) (rB X.K):=by
 intro a s σ H x y v u Q I b d h;unfold rB at h;rw[vEq_eq]at h;cases c:ud x y with
 |true=>rw[c]at h;show Sg a s σ H x y v u Q I b d ⟨c,h⟩
 |false=>rw[c]at h;show Sh e a s σ H x y v u Q I b d h
def rC(K:aw):R2:=λx y H Q=>onT (ud x y) (Q (.bl (!vEq x y)) H) (yP K x y H Q)
def yt(e:X.A.units+64<cLine):eJ X (fT .NotEq) (rC X.K):=by
 intro a s σ H x y v u Q I b d h;unfold rC at h;rw[vEq_eq]at h;cases c:ud x y with
 |true=>rw[c]at h;show Sm a s σ H x y v u Q I b d ⟨c,h⟩
 |false=>rw[c]at h;show Sn e a s σ H x y v u Q I b d h
section
variable {K:aw}{H:Hp}{Q:VK}
def cB{i j:Int}:rB K (.int i) (.int j) H Q=Q (.bl (decide (i=j))) H:=rfl
def cD{i j:Str}:rB K (.str i) (.str j) H Q=Q (.bl (decide (i=j))) H:=rfl
def cA{i j:Bool}:rB K (.bl i) (.bl j) H Q=Q (.bl (decide (i=j))) H:=rfl
def cC{i j:ab}:rB K (.ref i) (.ref j) H Q=wc K (.ref i) (.ref j) H Q:=rfl
def cF{i j:Int}:rC K (.int i) (.int j) H Q=Q (.bl (!decide (i=j))) H:=rfl
def cH{i j:Str}:rC K (.str i) (.str j) H Q=Q (.bl (!decide (i=j))) H:=rfl
def cE{i j:Bool}:rC K (.bl i) (.bl j) H Q=Q (.bl (!decide (i=j))) H:=rfl
def cG{i j:ab}:rC K (.ref i) (.ref j) H Q=yP K (.ref i) (.ref j) H Q:=rfl
end
def bJ(K:aw):List V->Hp->VK->Prop:=λa H Q=>match a with
 |[x]=>∃n,zM K x H n/\Q (.int n) H
 |_=>False
def nh:gX X (.builtin "len") (bJ X.K):=by
 intro a s σ H c b Q I r h
 match c,r,h with
 |[x],r,⟨n,l,q⟩=>show MP a s σ H [x] b Q I r ⟨x,n,rfl,l,q⟩
def qW{K:aw}{H:Hp}{a:ab}{ns:List Nat}(h:H a=some (.lst (ns.map λ(n:Nat)=>V.int (n:Int)))):zM K (.ref a) H ns.length:= .inl ⟨_,aj.of h,by rw[ay]⟩
def Nj:gX X (.builtin "ord") (λa H Q=>∃x,a= [.str x]/\x.length=1/\Q (.int (x.cps.getD 0 0:Nat)) H):=MR
end
def k9(K:aw)(a:ab)(xs:List V):Prop:=∃(o:Obj)(b:Array af)(n:Nat),K.lookup a=some o/\o.cls= .type "tuple"/\o.data= .seq b n/\b.size<=dc/\Vals xs b.toList
def k9.sq{K:aw}{a:ab}{xs:List V}(h:k9 K a xs)(H:Hp):eV K H a xs:= .inr h
abbrev vn(n:Nat):V:= .int (n:Int)
abbrev vr(ns:List Nat):List V:=ns.map vn
abbrev Row(H:Hp)(a:ab)(ns:List Nat):Prop:=H a=some (.lst (vr ns))
def gH(H:Hp)(o:HO)(Q:VK):Prop:=∀(p:ab)(H':Hp),H p=none->ah H H'->H' p=some o->Q (.ref p) H'
def ah.upd{H H':Hp}{p:ab}{o:HO}(h:ah H H')(a:H p=none):ah H (upd H' p o):=λb u e=>by rw[az (eu e a)];show h b u e
def ah.new{H:Hp}{p:ab}{o:HO}(a:H p=none):ah H (L2.upd H p o):=(ah.refl H).upd a
def del(H:Hp)(D:ab):Hp:=λb=>if b=D then none else H b
def eT{H:Hp}{D b:ab}(h:b≠D):del H D b=H b:=QH h
def nU{H:Hp}{D:ab}:del H D D=none:=QG rfl
def fU{H:Hp}{D:ab}{o:HO}:del (upd H D o) D=del H D:=by
 funext b;by_cases h:b=D
 .subst h;rw[nU,nU]
 .rw[eT h,eT h,az h]
def gB{H:Hp}{D:ab}:ah (del H D) H:=λb o e=>by
 by_cases h:b=D
 .subst h;rw[nU]at e;cases e
 .rw[eT h]at e;show e
def FP{H:Hp}{D:ab}(h:H D=none):del H D=H:=by
 funext b;by_cases e:b=D
 .subst e;rw[nU,h]
 .show eT e
def ah.del{H H':Hp}{D:ab}(h:ah H H'):ah (L2.del H D) (L2.del H' D):=λb o e=>by
 by_cases q:b=D
 .subst q;rw[nU]at e;cases e
 .rw[eT q]at e ⊢;show h b o e
def ah.iP{H H':Hp}{D:ab}(h:ah H (L2.del H' D)):ah H H':=h.trans gB
inductive Made {α:Type} (R:α->Option V->Prop):List α->List V->Prop
 |nil:Made R [] []
 |put {x:α}{y:V}{xs:List α}{ys:List V}:R x (some y)->Made R xs ys->Made R (x::xs) (y::ys)
 |out {x:α}{xs:List α}{ys:List V}:R x none->Made R xs ys->Made R (x::xs) ys
section
variable {α:Type}
def Made.Dg{R:α->Option V->Prop}{x:α}{y:V}(r:R x (some y)):∀{xs:List α}{a:List V},Made R xs a->Made R (xs++[x]) (a++[y])
 |_,_,.nil=> .put r .nil
 |_,_,.put q t=> .put q (t.Dg r)
 |_,_,.out q t=> .out q (t.Dg r)
def Made.Df{R:α->Option V->Prop}{x:α}(r:R x none):∀{xs:List α}{a:List V},Made R xs a->Made R (xs++[x]) a
 |_,_,.nil=> .out r .nil
 |_,_,.put q t=> .put q (t.Df r)
 |_,_,.out q t=> .out q (t.Df r)
def Made.mono{R R':α->Option V->Prop}(h:∀x y,R x y->R' x y):∀{xs:List α}{a:List V},Made R xs a->Made R' xs a
 |_,_,.nil=> .nil
 |_,_,.put q t=> .put (h _ _ q) (t.mono h)
 |_,_,.out q t=> .out (h _ _ q) (t.mono h)
def Made.length_le{R:α->Option V->Prop}:∀{xs:List α}{a:List V},Made R xs a->a.length<=xs.length
 |_,_,.nil=>bo _
 |_,_,.put _ t=>si t.length_le
 |_,_,.out _ t=>Nat.le_succ_of_le t.length_le
def Made.vD{f:α->Option V}:∀{xs:List α}{a:List V},Made (λx y=>y=f x) xs a->a=xs.filterMap f
 |_,_,.nil=>rfl
 |x::xs,y::a,.put q t=>by rw[nK,<-q,t.vD]
 |x::xs,a,.out q t=>by rw[nK,<-q,t.vD]
end
def take_snoc{α:Type}:∀{l:List α}{i:Nat}{x:α},l[i]? =some x->l.take (i+1)=l.take i++[x]
 |[],i,x,h=>by simp at h
 |a::l,0,x,h=>by have e:a=x:=df.inj h;subst e;rfl
 |a::l,i+1,x,h=>by have b:=take_snoc (l:=l) (i:=i) (x:=x) h;show a::l.take (i+1)=a::l.take i++[x];rw[b];rfl
def gM(g:TG)(tt:TT)(te:TE)(vs:List Nat)(σ:St)(x:V)(H:Hp)(C:Option V->Hp->Prop):Prop:=
 g x (wipe σ vs) H λσ2 c=>wipe σ2 vs=wipe σ vs/\tt σ2 c λb a=>if b=true then te σ2 a λy d=>C (some y) d else C none a
def ny(J:It)(g:TG)(tt:TT)(te:TE)(vs:List Nat)(σ:St)(e:Hp)(Q:VK):Prop:=∀D,e D=none->∃W:Nat->Nat->Hp->Prop,(∃m,W 0 m (upd e D (.lst [])))/\∀i m H,W i m H->
 (J.stop i H/\Q (.ref D) H)\/(J.go i H/\∃d:Hp->Prop,(∀c,d c->∃j,j<m/\W (i+1) j c)/\∀x c,J.kM i H x c->g x (wipe σ vs) c λσ2 k=>wipe σ2 vs=wipe σ vs/\tt σ2 k λb f=>
  if b=true then te σ2 f λy h=>∃a,h D=some (.lst a)/\a.length<dc/\d (upd h D (.lst (a++[y])))else d f)
section
variable {K:aw}{g:TG}{tt:TT}{te:TE}{vs:List Nat}{σ:St}{H:Hp}{Q:VK}
def tJ{α:Type}{J:It}{xs:List V}{zs:List α}(B:xs.length=zs.length)(R:Hp->α->Option V->Prop)(F:∀{H H':Hp}{x:α}{y:Option V},ah H H'->R H x y->R H' x y)(hz:xs.length<=dc)
  (A:∀(D:ab)(H':Hp),H D=none->ah H (del H' D)->(∀i,i<xs.length->J.go i H')/\J.stop xs.length H'/\∀i x k,J.kM i H' x k->i<xs.length->k=H'/\xs[i]? =some x)
  (n:∀(D:ab)(i:Nat)(x:V)(z:α)(f:Hp)(C:Option V->Hp->Prop),xs[i]? =some x->zs[i]? =some z->H D=none->f D≠none->ah H (del f D)->(∀(y:Option V)(a:Hp),a D=f D->ah (del f D) (del a D)->R (del a D) z y->C y a)->gM g tt te vs σ x f C)
  (q:∀(D:ab)(H':Hp)(b:List V),H D=none->ah H H'->H' D=some (.lst b)->Made (R H') zs b->Q (.ref D) H'):ny J g tt te vs σ H Q:=by
 intro D o;exists λi m H'=>m=xs.length-i/\i<=xs.length/\∃b,H' D=some (.lst b)/\ah H (del H' D)/\Made (R (del H' D)) (zs.take i) b,⟨xs.length,QD,cT _,[],ar,by rw[fU,FP o];show ah.refl _,.nil⟩;rintro i m f ⟨rfl,M,b,u,s,v⟩;obtain⟨g1,g2,g3⟩:=A D f o s;by_cases h:i<xs.length
 .show .inr ⟨g1 i h,λH'=>∃b,H' D=some (.lst b)/\ah H (del H' D)/\Made (R (del H' D)) (zs.take (i+1)) b,λH' p=>⟨xs.length-(i+1),QA,rfl,h,p⟩,λx k L=>?_⟩;obtain⟨e,I⟩:=g3 i x k L h;subst e;obtain⟨z,j⟩:∃z,zs[i]? =some z:=⟨_,dA QA⟩;have t:=n D i x z k (λy a=>match y with
   |some y=>∃c,a D=some (.lst c)/\c.length<dc/\∃d,upd a D (.lst (c++[y])) D=some (.lst d)/\ah H (del (upd a D (.lst (c++[y]))) D)/\Made (R (del (upd a D (.lst (c++[y]))) D)) (zs.take (i+1)) d
   |none=>∃d,a D=some (.lst d)/\ah H (del a D)/\Made (R (del a D)) (zs.take (i+1)) d) I j o (by rw[u];simp) s λy a e E r=>?_
  .show t
  .have l:=v.mono (R':=R (del a D)) λx y r=>F E r;have G:=v.length_le;rw[ff]at G;cases y with
   |some y=>
    exists b,by rw[e,u],QA,b++[y],ar,?_
    .rw[fU];show s.trans E
    .rw[fU,take_snoc j];show l.Dg r
   |none=>
    exists b,by rw[e,u],s.trans E
    rw[take_snoc j];show l.Df r
 .have e:i=xs.length:=QA;subst e;rw[B,gk]at v;show .inl ⟨g2,q D f b o s.iP u (v.mono λx y r=>F gB r)⟩
def vG{a:ab}{xs:List V}(c:aj K H a xs):∀(D:ab)(H':Hp),H D=none->ah H (del H' D)->(∀i,i<xs.length->(jP K a).go i H')/\(jP K a).stop xs.length H'/\∀i x b,(jP K a).kM i H' x b->i<xs.length->b=H'/\xs[i]? =some x:=
 λD H' f s=>⟨λi d=>⟨xs,xs[i],s.iP.seq c,dA d⟩,⟨xs,s.iP.seq c,bo _⟩,λi x b ⟨e,y⟩ _=>⟨e,y xs (s.iP.seq c)⟩⟩
def QT{J:It}{xs:List V}(R:Hp->V->Option V->Prop)(o:∀{H H':Hp}{x:V}{y:Option V},ah H H'->R H x y->R H' x y)(hz:xs.length<=dc)
  (d:∀(D:ab)(H':Hp),H D=none->ah H (del H' D)->(∀i,i<xs.length->J.go i H')/\J.stop xs.length H'/\∀i x e,J.kM i H' x e->i<xs.length->e=H'/\xs[i]? =some x)
  (b:∀(D:ab)(x:V)(a:Hp)(C:Option V->Hp->Prop),x∈xs->H D=none->a D≠none->ah H (del a D)->(∀(y:Option V)(c:Hp),c D=a D->ah (del a D) (del c D)->R (del c D) x y->C y c)->gM g tt te vs σ x a C)
  (q:∀(D:ab)(H':Hp)(j:List V),H D=none->ah H H'->H' D=some (.lst j)->Made (R H') xs j->Q (.ref D) H'):ny J g tt te vs σ H Q:=
 tJ rfl R o hz d (λD i x z a C f h k l m n=>by rw[f]at h;cases h;show b D x a C (dD f) k l m n) q
def GO{J:It}{xs:List V}(f:V->Option V)(hz:xs.length<=dc)
  (l:∀(D:ab)(H':Hp),H D=none->ah H (del H' D)->(∀i,i<xs.length->J.go i H')/\J.stop xs.length H'/\∀i x m,J.kM i H' x m->i<xs.length->m=H'/\xs[i]? =some x)
  (b:∀(D:ab)(x:V)(a:Hp)(C:Option V->Hp->Prop),x∈xs->H D=none->a D≠none->ah H (del a D)->(∀(c:Hp),ah a c->C (f x) c)->gM g tt te vs σ x a C)
  (q:∀(D:ab)(H':Hp),H D=none->ah H H'->H' D=some (.lst (xs.filterMap f))->Q (.ref D) H'):ny J g tt te vs σ H Q:=
 QT (λ_ x y=>y=f x) (λ_ r=>r) hz l
  (λD x a C h j d k n=>b D x a C h j d k λc s=>n (f x) c (by
   cases e:a D with
   |none=>show absurd e d
   |some o=>rw[s D o e]) s.del rfl)
  λD H' p h j d k=>q D H' h j (by rw[d,k.vD])
def GP{a:ab}{xs:List V}(f:V->Option V)(d:aj K H a xs)(hz:xs.length<=dc)
  (b:∀(D:ab)(x:V)(c:Hp)(C:Option V->Hp->Prop),x∈xs->H D=none->c D≠none->ah H (del c D)->(∀(h:Hp),ah c h->C (f x) h)->gM g tt te vs σ x c C)
  (q:∀(D:ab)(H':Hp),H D=none->ah H H'->H' D=some (.lst (xs.filterMap f))->Q (.ref D) H'):ny (jP K a) g tt te vs σ H Q:=
 GO f hz (λD H' l s=>⟨λi j=>⟨xs,xs[i],s.iP.seq d,dA j⟩,⟨xs,s.iP.seq d,bo _⟩,λi x k ⟨e,y⟩ _=>⟨e,y xs (s.iP.seq d)⟩⟩) b q
def uf(x:Str):List V:=x.cps.toList.map λc=>V.str ⟨#[c]⟩
def QV{x:Str}(f:V->Option V)(hz:x.length<=dc)
  (a:∀(D:ab)(v:V)(b:Hp)(C:Option V->Hp->Prop),v∈uf x->H D=none->b D≠none->ah H (del b D)->(∀(j:Hp),ah b j->C (f v) j)->gM g tt te vs σ v b C)
  (q:∀(D:ab)(H':Hp),H D=none->ah H H'->H' D=some (.lst ((uf x).filterMap f))->Q (.ref D) H'):ny (zJ x) g tt te vs σ H Q:=by
 have h:(uf x).length=x.cps.size:=by unfold uf;rw[ay,gW]
 show GO f (by rw[h];show hz) (λD H' n s=>⟨λi d=>by rw[h]at d;show d,by rw[h];show bo _,λi v m l d=>?_⟩) a q;obtain⟨e,c,k,rfl⟩:=l;exists e;unfold uf;rw[eP,oM,k];rfl
end
def dO:bootBuiltins "len"=some (.builtin "len"):=QC
def Ma:bootBuiltins "ord"=some (.builtin "ord"):=QC
def sP:bootBuiltins "all"=some (.builtin "all"):=QC
def E5:bootBuiltins "max"=some (.builtin "max"):=QC
def AJ:bootBuiltins "sorted"=some (.builtin "sorted"):=QC
def Mc:bootBuiltins "str"=some (.type "str"):=QC
def L9:bootBuiltins "list"=some (.type "list"):=QC
def Mb:bootBuiltins "set"=some (.type "set"):=QC
section
variable {X:Cx}
def Nr:gX X (.type "str") (λa H Q=>∃i,a= [.int i]/\i.natAbs.log2<1920/\Q (.str (toString i)) H):=MS
end
def iL{Q:VK}{H:Hp}{a b:Bool}(k:Q (.bl a) H)(e:a=b):Q (.bl b) H:=e▸k
def qT{Q:VK}{H:Hp}{a b:Int}(k:Q (.int a) H)(e:a=b):Q (.int b) H:=e▸k
def i6(ns:List Nat):nP:= .list (ns.map λ(n:Nat)=>uP (n:Int))
def FW{K:aw}{H:Hp}:∀a:List Nat,oO K H (vr a) (a.map λ(n:Nat)=>uP (n:Int))
 |[]=> .nil
 |n::r=> .cons (.int _) (FW r)
def sT{K:aw}{H:Hp}{a:ab}{ns:List Nat}(h:Row H a ns):Dp K H (.ref a) (i6 ns):= .lst (aj.of h) (FW ns)
def xO:∀a:List Nat,uL (a.map λ(n:Nat)=>uP (n:Int))=true
 |[]=>by rw[nL,uL]
 |n::r=>by rw[eD,uL,xu,xO r];rfl
def xU:∀a:List Nat,qz (a.map λ(n:Nat)=>uP (n:Int))=0
 |[]=>by rw[nL,qz]
 |n::r=>by rw[eD,qz,uM,xU r];rfl
def ze(ns:List Nat):SeqAt.shaped (i6 ns)=true:=by unfold SeqAt.shaped i6;rw[xu,xO,uM,xU];rfl
def F3:∀b a:List Nat,uO (b.map λ(n:Nat)=>uP (n:Int)) (a.map λ(n:Nat)=>uP (n:Int))=decide (b=a)
 |[],[]=>by simp[uO]
 |[],m::a=>by simp[uO]
 |n::b,[]=>by simp[uO]
 |n::b,m::a=>by rw[eD,eD,uO,uN,F3 b a];rw[kN];simp;intro _;lia
def A6(ns ms:List Nat):uN (i6 ns) (i6 ms)=decide (ns=ms):=by unfold i6;rw[uN,F3]
def sZ{K:aw}{H:Hp}{Q:VK}{a b:ab}{ns ms:List Nat}(c:Row H a ns)(d:Row H b ms)(q:Q (.bl (decide (ns=ms))) H):wc K (.ref a) (.ref b) H Q:=
 ⟨_,_,sT c,sT d,ze _,ze _,by rw[A6];show q⟩
def Rg{K:aw}{H:Hp}{Q:VK}{a b:ab}{ns ms:List Nat}(c:Row H a ns)(d:Row H b ms)(q:Q (.bl (!decide (ns=ms))) H):yP K (.ref a) (.ref b) H Q:=
 ⟨_,_,sT c,sT d,ze _,ze _,by rw[A6];show q⟩
abbrev b9(H:Hp):List ab->List (List Nat)->Prop:=Paired λa b=>Row H a b
def Rows(H:Hp)(p:ab)(a:List (List Nat)):Prop:=∃b:List ab,H p=some (.lst (b.map V.ref))/\b9 H b a
def b9.mono{H H':Hp}(h:ah H H'){as:List ab}{a:List (List Nat)}(r:b9 H as a):b9 H' as a:=Paired.dS r λ_ _ q=>h _ _ q
def Rows.mono{H H':Hp}(h:ah H H'){p:ab}{a:List (List Nat)}:Rows H p a->Rows H' p a:=λ⟨as,e,r⟩=>⟨as,h _ _ e,r.mono h⟩
def Paired.snoc{α β:Type}{F:α->β->Prop}{a:α}{b:β}(r:F a b):∀{l:List α}{m:List β},Paired F l m->Paired F (l++[a]) (m++[b])
 |_,_,.nil=> .cons r .nil
 |_,_,.cons q t=> .cons q (Paired.snoc r t)
def Paired.get{α β:Type}{F:α->β->Prop}:∀{l:List α}{m:List β}{i:Nat}{b:β},Paired F l m->m[i]? =some b->∃a,l[i]? =some a/\F a b
 |_,_,_,_,.nil,e=>by simp at e
 |_,_,0,_,.cons r _,e=>by simp at e;subst e;show⟨_,rfl,r⟩
 |_,_,i+1,_,.cons _ t,e=>by obtain⟨u,c,d⟩:=Paired.get (i:=i) t (by simpa using e);show⟨u,by simpa using c,d⟩
def Paired.get'{α β:Type}{F:α->β->Prop}:∀{l:List α}{m:List β}{i:Nat}{a:α},Paired F l m->l[i]? =some a->∃b,m[i]? =some b/\F a b
 |_,_,_,_,.nil,e=>by simp at e
 |_,_,0,_,.cons r _,e=>by simp at e;subst e;show⟨_,rfl,r⟩
 |_,_,i+1,_,.cons _ t,e=>by obtain⟨u,c,d⟩:=Paired.get' (i:=i) t (by simpa using e);show⟨u,by simpa using c,d⟩
def Paired.take{α β:Type}{F:α->β->Prop}:∀{l:List α}{m:List β}(n:Nat),Paired F l m->Paired F (l.take n) (m.take n)
 |_,_,0,_=> .nil
 |_,_,_+1,.nil=> .nil
 |_,_,n+1,.cons r t=> .cons r (Paired.take n t)
def Paired.drop{α β:Type}{F:α->β->Prop}:∀{l:List α}{m:List β}(n:Nat),Paired F l m->Paired F (l.drop n) (m.drop n)
 |_,_,0,r=>r
 |_,_,_+1,.nil=> .nil
 |_,_,n+1,.cons _ t=>Paired.drop n t
def Paired.app{α β:Type}{F:α->β->Prop}:∀{l a:List α}{m b:List β},Paired F l m->Paired F a b->Paired F (l++a) (m++b)
 |_,_,_,_,.nil,s=>s
 |_,_,_,_,.cons r t,s=> .cons r (Paired.app t s)
def Ik(K:aw):R2:=λx y H Q=>∃a p c b,x= .ref a/\y= .ref p/\Row H a c/\Rows H p b/\Q (.bl (b.contains c)) H
def jY(a:List (List Nat)):List nP:=a.map i6
def A3{K:aw}{H:Hp}:∀{as:List ab}{a:List (List Nat)},b9 H as a->oO K H (as.map V.ref) (jY a)
 |_,_,.nil=> .nil
 |_,_,.cons r t=> .cons (sT r) (A3 t)
def AQ:∀a:List (List Nat),uL (jY a)=true
 |[]=>by rw[jY,nL,uL]
 |n::r=>by have b:=AQ r;unfold jY at b ⊢;rw[eD,uL,b];unfold i6;rw[xu,xO];rfl
def EN(ns:List Nat):∀a:List (List Nat),(jY a).any (λy=>uN y (i6 ns))=a.contains ns
 |[]=>rfl
 |m::r=>by
  have b:=EN ns r;unfold jY at b ⊢;rw[eD,uA,b,A6,List.contains_cons];congr 1;by_cases h:m=ns
  .subst h;simp
  .have c:¬ns=m:=λe=>h e.symm;simp[h,c]
def Sk{X:Cx}(o:X.A.units+65<cLine):eJ X (fT .In) (Ik X.K):=by
 intro d s σ H x y v u Q I l m h;obtain⟨a,p,c,b,rfl,rfl,e,⟨as,f,i⟩,q⟩:=h;obtain⟨r,j⟩:=Dp.reads I (i6 c) (.ref a) v (sT e) l;obtain⟨t,k⟩:=Dp.reads I (.list (jY b)) (.ref p) u (.lst (aj.of f) (A3 i)) m;show SeqAt.in_list_reads k j (AQ b) (by unfold i6;rw[xu];show xO c) ?_ ?_
 .have:(i6 c).depth=1:=by unfold i6;rw[uM,xU]
  have n:min (qz (jY b)) (i6 c).depth<=(i6 c).depth:=Nat.min_le_right _ _;lia
 .rw[EN];show⟨.bl _,H,I,rfl,q⟩
def bP(b:TI)(g:TG)(tt:TT)(te:TE)(vs:List Nat):TE:=λσ H Q=>b σ H λJ a=>ny J g tt te vs σ a Q
def pl{X:Cx}{c h b:Expr}{e:List Expr}{a:Scope}{own:List (Str×Nat)}{f:Pos}{i:TI}{g:TG}{tt:TT}{te:TE}(k:X.calm=true)(j:X.N.Nodup)(hi:PI X h b i)(p:ux X.N X.env.scope a own)
  (m:∀(s:ao)(H:Hp)(C:ab)(cl:List (Str×ab))(d:List ab),PG (X.iz s H a (compEnvC a cl C X.env) d) h g) (o:∀(s:ao)(H:Hp)(C:ab)(cl:List (Str×ab))(d:List ab),uH (X.iz s H a (compEnvC a cl C X.env) d) e tt)
  (l:∀(s:ao)(H:Hp)(C:ab)(cl:List (Str×ab))(d:List ab),PE (X.iz s H a (compEnvC a cl C X.env) d) c te) (n:∀x,foldedSetIterable b X.env x=pure x:=by intro _;rfl):
  PE X (.ListComp c [⟨h,b,e,0⟩] a f) (bP i g tt te (own.map (·.2))):=SI k j hi p m o l n
def oa(J:It)(g:TG)(e:TS)(D:Ends)(σ:St)(c:Hp):Prop:=∃W:Nat->Nat->St->Hp->Prop,(∃m,W 0 m σ c)/\∀i m σ H,W i m σ H->
 (J.stop i H/\D.nx σ H)\/(J.go i H/\∃N:St->Hp->Prop,(∀σ' a,N σ' a->∃b,b<m/\W (i+1) b σ' a)/\∀x a,J.kM i H x a->g x σ a λσ2 d=>e {D with nx:=N,ct:=N,bk:=D.nx} σ2 d)
def gT(c:TI)(g:TG)(b:TS):TS:=λD σ H=>c σ H λJ a=>oa J g b D σ a
def fA{X:Cx}{d a:Expr}{b:List aT}{f:TI}{g:TG}{e:TS}{c:Pos}(i:X.calm=true)(hi:PI X d a f)(j:PG X d g)(h:iY X b e)(k:PassesOwn (model X.prog X.w) X.A X.env X.xe:=by show PassesOwn.never)(l:∀x,foldedSetIterable a X.env x=pure x:=by intro _;rfl):
  PS X (.For d a b [] c) (gT f g e):=Td k i hi j h l
def forL{K:aw}{a:ab}{xs:List V}{g:TG}{c:TS}{D:Ends}{σ:St}{H:Hp}(b:Nat->St->Hp->Prop)(e:b 0 σ H)(h:∀i σ H,i<=xs.length->b i σ H->aj K H a xs)
  (j:∀i x σ H,xs[i]? =some x->b i σ H->g x σ H λσ2 d=>c {D with nx:=b (i+1),ct:=b (i+1),bk:=D.nx} σ2 d) (f:∀σ H,b xs.length σ H->D.nx σ H):oa (jP K a) g c D σ H:=PN b e h j f
def Gj{K:aw}{a:ab}{xs:List V}{g:TG}{c:TS}{D:Ends}{σ:St}{H:Hp}(b:Nat->St->Hp->Prop)(e:b 0 σ H)(h:∀i σ H,i<=xs.length->b i σ H->eV K H a xs)
  (j:∀i x σ H,xs[i]? =some x->b i σ H->g x σ H λσ2 d=>c {D with nx:=b (i+1),ct:=b (i+1),bk:=D.nx} σ2 d) (f:∀σ H,b xs.length σ H->D.nx σ H):oa (rS K a) g c D σ H:=PU b e h j f
def forR{lo:Int}{n:Nat}{g:TG}{b:TS}{D:Ends}{σ:St}{H:Hp}(a:Nat->St->Hp->Prop)(d:a 0 σ H)
  (f:∀i σ H,i<n->a i σ H->g (.int (lo+i)) σ H λσ2 c=>b {D with nx:=a (i+1),ct:=a (i+1),bk:=D.nx} σ2 c) (e:∀σ H,a n σ H->D.nx σ H):oa (qg lo n) g b D σ H:=PQ a d f e
def PJ{K:aw}{a:ab}{xs:List V}{d f:Nat}{h:TS}{D:Ends}{σ:St}{H:Hp}(b:Nat->St->Hp->Prop)(k:b 0 σ H)(r:∀i σ H,i<=xs.length->b i σ H->aj K H a xs)
  (s:∀(i:Nat) x σ H T,xs[i]? =some x->b i σ H->H T=none->h {D with nx:=b (i+1),ct:=b (i+1),bk:=D.nx} ((σ.set d (some (.int (i:Nat)))).set f (some x)) (upd H T (.tup [.int (i:Nat),x]))) (n:∀σ H,b xs.length σ H->D.nx σ H):
  oa (zF K a) (vE K 2 (qS (aY d) (qS (aY f) x9))) h D σ H:=by
 exists λi m σ H=>m=xs.length-i/\i<=xs.length/\b i σ H,⟨xs.length,QD,cT _,k⟩;rintro i m σ H ⟨rfl,o,p⟩;have q:=r i σ H o p;by_cases c:i<xs.length
 .show .inr ⟨⟨xs,xs[i],q,dA c⟩,b (i+1),λσ' j u=>⟨xs.length-(i+1),QA,rfl,c,u⟩,λv j y=>?_⟩;obtain⟨T,x,rfl,l,rfl,t⟩:=y;show⟨T,_,rfl,eV.of ar,rfl,_,_,rfl,_,_,rfl,rfl,s i x σ H T (t xs q) p l⟩
 .have e:i=xs.length:=QA;subst e;show .inl ⟨⟨xs,q,bo _⟩,n σ H p⟩
def vb(p:Nat->Bool)(v:V):Option V:=match v with
 |.int i=>some (.bl (p i.toNat))
 |_=>none
def K7(p:Nat->Bool):∀a:List Nat,(vr a).filterMap (vb p)=(a.map p).map V.bl
 |[]=>rfl
 |n::r=>by show(vn n::vr r).filterMap (vb p)=_;rw[nK,K7 p r];rfl
def yh{K:aw}{g:TG}{tt:TT}{te:TE}{vs:List Nat}{σ:St}{H:Hp}{Q:VK}{a:ab}{ns:List Nat}(p:Nat->Bool)(j:Row H a ns)(hz:ns.length<=dc)
  (b:∀(c:Nat)(d:Hp)(C:Option V->Hp->Prop),(∀(e:Hp),ah d e->C (some (.bl (p c))) e)->gM g tt te vs σ (vn c) d C)
  (q:∀(D:ab)(H':Hp),ah H H'->aj K H' D ((ns.map p).map V.bl)->Q (.ref D) H'):ny (jP K a) g tt te vs σ H Q:=by
 show GP (xs:=vr ns) (vb p) (aj.of j) (by rw[ay];show hz) (λD v d C l i f h k=>?_) λD H' i f h=>q D H' f (aj.of (by rw[h,K7]));obtain⟨c,_,rfl⟩:=dM.mp l;show b c d C k
def xJ{ns:List Nat}{p:Nat->Bool}:(ns.map p).all id=ns.all p:=by rw[D1];rfl
def fu{xs:List V}{x:V}(h:xs[0]? =some x):ly xs 0=some x:=at_of (j:=0) rfl h
def vm(xs:List V)(lo hi:Nat):lA xs (some (lo:Int)) (some (hi:Int))=(xs.drop lo).take (hi-lo):=by
 unfold lA;rw[HT.yS,HT.yS];by_cases h:lo<=xs.length
 .rw[Ae h];by_cases a:hi<=xs.length
  .rw[Ae a]
  .rw[Nat.min_eq_right QA,nM (by rw[iI];lia),nM (by rw[iI];lia)]
 .rw[uB QA,uB QA];simp
def vk(xs:List V)(lo:Nat):lA xs (some (lo:Int)) none=xs.drop lo:=by
 unfold lA;rw[HT.yS,HT.CA];by_cases h:lo<=xs.length
 .rw[Ae h,nM (by rw[iI];lia)]
 .rw[uB QA,uB QA];simp
def sS(xs:List V)(hi:Nat):lA xs none (some (hi:Int))=xs.take hi:=by
 unfold lA;rw[HT.yS,HT.CA,D2,xm];by_cases h:hi<=xs.length
 .rw[Ae h]
 .rw[Nat.min_eq_right QA,nM (bo _),nM QA]
def um(ns:List Nat)(n:Nat):(vr ns).drop n=vr (ns.drop n):=(zW ..).symm
def p7(ns:List Nat)(n:Nat):(vr ns).take n=vr (ns.take n):=(zX ..).symm
def iG(ns ms:List Nat):vr ns++vr ms=vr (ns++ms):=(fk ..).symm
def dh(ns:List Nat):(vr ns).length=ns.length:=ay ..
def oJ{ns:List Nat}{i c:Nat}(h:ns[i]? =some c):(vr ns)[i]? =some (vn c):=by show(ns.map vn)[i]? =_;rw[eP,h];rfl
def DK{c:TT}{h:TS}{D:Ends}{σ:St}{H:Hp}(a:St->Hp->Prop)(μ:St->Hp->Nat)(i:a σ H)
  (j:∀σ H,a σ H->c σ H λb d=>if b=true then ∃N:St->Hp->Prop,(∀σ' H',N σ' H'->∃f,f<μ σ H/\f=μ σ' H'/\a σ' H')/\h {D with nx:=N,ct:=N,bk:=D.nx} σ d else D.nx σ d):KN c h D σ H:=
 ⟨λm σ H=>m=μ σ H/\a σ H,⟨_,rfl,i⟩,λm σ H ⟨e,p⟩=>by subst e;show j σ H p⟩
def b9.push{H':Hp}{p q:ab}{as:List ab}{P:List (List Nat)}{ns:List Nat}(r:b9 (del H' p) as P)(c:H' p≠none)(b:H' q=none)(o:HO):b9 (del (upd (upd H' q (.lst (vr ns))) p o) p) (as++[q]) (P++[ns]):=by rw[fU];have a:q≠p:=λe=>c (e▸b);show Paired.snoc (by show del _ p q=_;rw[eT a,ar]) (r.mono (ah.new b).del)
def b9.keep{H':Hp}{p T:ab}{as:List ab}{P:List (List Nat)}(r:b9 (del H' p) as P)(a:H' T=none)(o:HO):b9 (del (upd H' T o) p) as P:=r.mono (ah.new a).del
def hY(as:List ab)(q:ab):as.map V.ref++[V.ref q]=(as++[q]).map V.ref:=by rw[fk];rfl
def nn{α:Type}{o:Option α}{x:α}(h:o=some x):o≠none:=by rw[h];show λe=>nomatch e
def fW{α:Type}{g:α->V}{l:List α}{i:Nat}{x:V}(h:(l.map g)[i]? =some x):∃a,l[i]? =some a/\x=g a:=by
 rw[eP]at h;cases e:l[i]? with
 |none=>rw[e]at h;cases h
 |some a=>rw[e]at h;show⟨a,rfl,(df.inj h).symm⟩
def b9.ne{H:Hp}{p:ab}{as:List ab}{h:List (List Nat)}(m:H p=some (.lst (as.map V.ref)))(r:b9 H as h):∀a∈as,a≠p:=λa k e=>by
 obtain⟨i,l,f⟩:=oU.mp k;obtain⟨d,_,c⟩:=Paired.get' r (show as[i]? =some a by rw[dA l,f]);have c:H a=some (.lst (vr d)):=c;rw[e,m]at c;have j:as.map V.ref=vr d:=HO.lst.inj (df.inj c);cases as with
 |nil=>cases k
 |cons b as=>cases d with
  |nil=>cases j
  |cons n d=>cases j
def b9.del{H:Hp}{p:ab}:∀{as:List ab}{b:List (List Nat)},b9 H as b->(∀a∈as,a≠p)->b9 (L2.del H p) as b
 |_,_,.nil,_=> .nil
 |_,_,.cons r t,h=> .cons (by show L2.del H p _=_;rw[eT (h _ cZ)];show r) (b9.del t λa c=>h a (du _ c))
def ET{xs:List V}{x:V}(h:xs[xs.length-1]? =some x):ly xs (-1)=some x:=by
 have a:xs.length-1<xs.length:=(dW.mp h).1;have e:pG xs.length (-1)=some (xs.length-1):=by unfold pG;rw[QH QA,QG QA];congr 1;lia
 unfold ly;rw[e];show h
def Paired.dropLast{α β:Type}{F:α->β->Prop}{l:List α}{m:List β}(r:Paired F l m):Paired F l.dropLast m.dropLast:=by rw[Le,Le,Paired.length r];show Paired.take _ r
def Gb{α:Type}{p:α->Bool}:∀{l:List α}{i:Nat}{x:α},l[i]? =some x->p x=true->(∀y∈l.take i,p y=false)->l.find? p=some x
 |[],_,_,h,_,_=>by simp at h
 |a::l,0,x,h,hp,_=>by have e:a=x:=df.inj h;subst e;rw[mS,hp]
 |a::l,i+1,x,h,hp,hn=>by rw[mS,hn a (by rw[Eh];show cZ)];show Gb (i:=i) h hp λy b=>hn y (by rw[Eh];show du _ b)
def Kn{j c:Nat}(b:0<c):Builtin.Range.rangeSize 0 (j:Int) (c:Int)=(((j+c-1) / c:Nat):Int):=by
 unfold Builtin.Range.rangeSize;rw[QG QA];by_cases h:0<j
 .rw[QG QA];have e:(j:Int)-0-1=((j-1:Nat):Int):=QA;have a:j+c-1=(j-1)+c:=QA;rw[e,a,zZ _ b];rfl
 .rw[QH QA,show j=0 by lia,xg QA];rfl
def o8.up{j c:Nat}(a:0<c)(b:j<=1000000)(d:c<=1000000):o8 0 (j:Int) (c:Int) ((j+c-1) / c):=by show⟨QA,QA,?_,Kn a⟩;unfold Builtin.Range.small;rw[Kn a];have e:(j+c-1) / c<=j+c-1:=Nat.div_le_self _ _;generalize (j+c-1) / c=n at *;simp only[Builtin.Range.rangeFitsLong,eC,uz,QK,beq_iff_eq,show((c:Int)>0)by lia,if_true];lia
def Gi{lo c:Int}{n:Nat}{g:TG}{b:TS}{D:Ends}{σ:St}{H:Hp}(a:Nat->St->Hp->Prop)(e:a 0 σ H)
  (h:∀(i:Nat) σ H,i<n->a i σ H->g (.int (lo+(i:Nat)*c)) σ H λσ2 d=>b {D with nx:=a (i+1),ct:=a (i+1),bk:=D.nx} σ2 d) (f:∀σ H,a n σ H->D.nx σ H):oa (rR lo c n) g b D σ H:=PR a e h f
abbrev aO(p:ab)(H H':Hp):Prop:=ah (del H p) (del H' p)
def aO.at{p b:ab}{H H':Hp}{o:HO}(h:aO p H H')(e:H b=some o)(n:b≠p):H' b=some o:=gB _ _ (h b o (by rw[eT n];show e))
def aO.put{p:ab}{H H':Hp}{o:HO}(h:aO p H H'):aO p H (upd H' p o):=by show ah _ _;rw[fU];show h
def aO.new{p q:ab}{H H':Hp}{o:HO}(h:aO p H H')(a:H' q=none):aO p H (upd H' q o):=ah.trans h (ah.new a).del
def aO.same{p:ab}{H a H':Hp}(h:aO p a H')(s:ah H a)(c:H p=none):ah H H':=λb o e=>h.at (s b o e) (eu e c)
def qx(H:Hp)(b:List (List Nat))(Q:VK):Prop:=∀(p:ab)(H':Hp)(as:List ab),H p=none->ah H H'->H' p=some (.lst (as.map V.ref))->b9 H' as b->(∀a∈as,H a=none)->Q (.ref p) H'
def pE{H:Hp}{as:List ab}{q:ab}(h:∀a∈as,H a=none)(c:H q=none):∀a∈as++[q],H a=none:=λa b=>by
 rcases eA.mp b with b | b
 .show h a b
 .rw[iw.mp b];show c
section
variable {X:Cx} (K:aw)
def fz(b:X.A.units+64<cLine)(a:X.K=K:=by rfl):eJ X (fT .Eq) (rB K):=by subst a;show oEq b
def pM(b:X.A.units+64<cLine)(a:X.K=K:=by rfl):eJ X (fT .NotEq) (rC K):=by subst a;show yt b
def tm(a:X.K=K:=by rfl):eJ X (fT .In) (Ij K false):=by subst a;show Sl
def Qd(b:X.A.units+65<cLine)(a:X.K=K:=by rfl):eJ X (fT .In) (Ik K):=by subst a;show Sk b
def cX(a:X.K=K:=by rfl):mP X (we K):=by subst a;show tD
def kK(a:X.K=K:=by rfl):Am X (jv K):=by subst a;show wG
def eK(a:X.K=K:=by rfl):gX X (.builtin "len") (bJ K):=by subst a;show nh
def Ay(b:X.calm=true)(a:X.K=K:=by rfl):gX X (.builtin "all") (Ii K):=by subst a;show xS b
def Q1(b:X.K=K:=by rfl):gX X (.type "list") (λc H Q=>∃p a,c= [.ref p]/\(aj K H p a\/eV K H p a)/\∀l,H l=none->Q (.ref l) (upd H l (.lst a))):=by subst b;show MQ
def ax{e:Expr}{f:Str}{a:Pos}{b:TE}(h:PE X e b)(d:attributeBase e f X.env (eval e X.env)=eval e X.env:=by rfl)(c:X.K=K:=by rfl):PE X (.Attribute e f a) (gb K b f):=by subst c;show tO h d
def gu{o a:Expr}{f:Str}{c b:Pos}{d e:TE}(i:PE X o d)(k:PE X a e)(j:swapsWith a (some (.Attribute o f b)) c.line X.env=pure false:=by rfl)(h:X.K=K:=by rfl):PS X (.Assign [.Attribute o f b] a c) (bU K d e f):=by subst h;show gq i k j
def fV{d l:Expr}{a:TE}(c:PE X l a)(b:X.K=K:=by rfl):PI X d l (iC K a):=by subst b;show rj c
def Qj{d l:Expr}{a:TE}(c:PE X l a)(b:X.K=K:=by rfl):PI X d l (Bz K a):=by subst b;show HW c
def ya{es:List Expr}{k:Nat}{t:o9}{n:Nat}{b:Pos}(d:X.calm=true)(h:uG X es t)(e:(assignEach es X.env).length=n:=by rfl)(a:(assignEach es X.env).findIdx? (·.1)=none:=by rfl)(c:X.K=K:=by rfl):PG X (.Tuple es k b) (vE K n t):=by subst c;show HU d h e a
def gI{o e:Expr}{i te:TE}{b a:Pos}(l:PE X o i)(k:PE X e te)(c:attributeBase o "append" X.env (eval o X.env)=eval o X.env:=by rfl)
  (f:((backTo a (dY [e] X.env)).all (λx=> !x.1)&&(backToKw a (keywordEach [] X.env)).all (λx=>x.1.isSome)&&decide ([e].length+([]:List lU).length+(if([]:List lU).isEmpty then 0 else 1)<30))=true:=by rfl)
  (d:(b.endLine==a.line)=true:=by rfl) (h:dY [e] X.env= [(false,eval e X.env)]:=by rfl) (j:X.K=K:=by rfl):PE X (.Call (.Attribute o "append" b) [e] [] a) (bH K "list" tT i (aL te aR)):=by
 subst j;show nE kZ sr su qY l (ae k ag h) c f d h rfl
def kC{o e:Expr}{i te:TE}{b a:Pos}(l:PE X o i)(k:PE X e te)(c:attributeBase o "extend" X.env (eval o X.env)=eval o X.env:=by rfl)
  (f:((backTo a (dY [e] X.env)).all (λx=> !x.1)&&(backToKw a (keywordEach [] X.env)).all (λx=>x.1.isSome)&&decide ([e].length+([]:List lU).length+(if([]:List lU).isEmpty then 0 else 1)<30))=true:=by rfl)
  (d:(b.endLine==a.line)=true:=by rfl) (h:dY [e] X.env= [(false,eval e X.env)]:=by rfl) (j:X.K=K:=by rfl):PE X (.Call (.Attribute o "extend" b) [e] [] a) (bH K "list" Cp i (aL te aR)):=by
 subst j;show nE kZ LB LG G3 l (ae k ag h) c f d h rfl
def SY{o:Expr}{e:TE}{a b:Pos}(h:PE X o e)(c:attributeBase o "pop" X.env (eval o X.env)=eval o X.env:=by rfl)(d:(a.endLine==b.line)=true:=by rfl)(f:X.K=K:=by rfl):PE X (.Call (.Attribute o "pop" a) [] [] b) (bV K "list" Ip e):=by subst f;show Cc kZ LC LH G4 h c d
end
def dB{K:aw}{i:Nat}{f:Str}{σ:St}{H:Hp}{Q:VK}{a C d:ab}{b:List (Str×V)}{v:V}(h:H a=some (.ins C d b))(c:ke K C)(n:gZ K C f)(l:b.lookup f=some v)(q:Q v H)(hσ:σ[i]? =some (some (.ref a)):=by rfl):gb K (aB i) f σ H Q:=onS.mk hσ ⟨a,C,d,b,v,rfl,h,c,n,l,q⟩
def vp{n m:Nat}:decide ((n:Int)=(m:Int))=decide (n=m):=by rw[kN];simp;lia
def FL{n m:Nat}:decide ((n:Int)<=(m:Int))=decide (n<=m):=by rw[kN];simp
def dk{K:aw}{H:Hp}{Q:VK}{a:ab}{xs:List V}{i:Int}{v:V}(h:aj K H a xs)(e:ly xs i=some v)(q:Q v H):we K (V.ref a) (V.int i) H Q:= .inl ⟨a,xs,i,v,rfl,rfl,h,e,q⟩
def mi{b:Bool}{A B:Prop}(f:b=false->B)(t:b=true->A):if b=true then A else B:=by
 cases b
 .show f rfl
 .show t rfl
def ky{b:Bool}{A B:Prop}(f:b=false->A)(t:b=true->B):if(!b)=true then A else B:=by
 cases b
 .show f rfl
 .show t rfl
def sN{H a:Hp}{q:ab}{o:HO}(e:upd H q o=a)(h:H q=none):ah H a:=e▸ah.new h
def vN{H a:Hp}{q:ab}{o:HO}(e:upd H q o=a):a q=some o:=e▸ar
def fsc{N P:List Str}{h:Scope}(a:h.kind= .function:=by rfl)(b:h.isCoroutine=false:=by rfl)(c:h.isGenerator=false:=by rfl)(d:N.Nodup:=by decide +kernel)(e:N.take P.length=P:=by rfl)(f:∀x∈P,h.names.lookup x=some .local\/h.names.lookup x=some .cell:=by decide +kernel)(g:∀y∈h.names,y.2≠ .free:=by decide +kernel):bj N P h:=⟨a,b,c,d,e,f,g⟩
section
variable {X:Cx}
def stX{x:Str}{e:Expr}{te:TE}{b a:Pos}(i:Nat)(c:X.N.Nodup)(d:PE X e te)(hi:X.N[i]? =some x:=by rfl)(j:Loc X.env.scope x:=by show Or.inl rfl)(h:swapsWith e (some (.Name x a)) b.line X.env=pure false:=by rfl)(f:X.fn x=true\/X.env.scope.names.lookup x=some .local:=by first | show .inl rfl | show .inr rfl | assumption):PS X (.Assign [.Name x a] e b) (bf te (aY i)):=Tg c hi j d h f
def gnX{x:Str}{a:Pos}(i:Nat)(b:X.N.Nodup)(hi:X.N[i]? =some x:=by rfl)(d:Loc X.env.scope x:=by show Or.inl rfl)(c:X.fn x=true\/X.env.scope.names.lookup x=some .local:=by first | show .inl rfl | show .inr rfl | assumption):PG X (.Name x a) (aY i):=SN b hi d c
def pqX{k j:Nat}{x:Str}{ps:List Str}{sp:Sp}{e:Expr}{es:List Expr}{t:TA}{p a:Pos}(h:bu X.prog X.w X.K X.mg X.base k x ps sp)(m:fD j X.A)(d:PA X (e::es) t)(l:k<=j:=by decide)(i:Gl X x:=by rfl)(b:(x==("__debug__":Str))=false:=by decide)(f:dY (e::es) X.env=(false,eval e X.env)::dY es X.env:=by rfl)(c:(backTo a (dY es X.env)).any (·.1)=false:=by rfl):PE X (.Call (.Name x p) (e::es) [] a) (a7 sp [] E0 t):=pc h (m.mono l) d i b f c
end
def Def.hsX{P:aE}{w:aC}{K:aw}{mg:Str->Option af}{base:aH}{x:Str}{st:aT}{N ps:List Str}{k:Nat}{sp:Sp}(D:Def K mg x st ps)(S:bj N ps (aS st))
  (hbody:∀(f:ab)(cdv:af)(A:dj)(outer:List Env)(s:ao)(H:Hp)(vs:List V)(Q:VK)(E:XK),fD k (A.deeper (envOfC x (aS st) s.heap.objs.size f cdv))->sp vs H Q E->
   ∃t,iY (nT lO P w K mg base N x (aS st) f cdv A outer s H E).rb (pC st) t/\t {nx:=λ_ H'=>Q .a9 H',rt:=Q} (start N vs) H) (len:∀vs H Q E,sp vs H Q E->vs.length=ps.length:=by intro _ _ _ _ h;first | show jC h λ_ h=>h.1▸rfl | show ic h λ_ _ h=>h.1▸rfl | show jD h λ_ _ _ h=>h.1▸rfl | show kz h λ_ _ _ _ h=>h.1▸rfl | show e5_1 h λ_ _ _ _ _ h=>h.1▸rfl | show e6_1 h λ_ _ _ _ _ _ h=>h.1▸rfl | show e7_1 h λ_ _ _ _ _ _ _ h=>h.1▸rfl | show e8_1 h λ_ _ _ _ _ _ _ _ h=>h.1▸rfl | show kB h λ_ _ _ _ _ _ _ _ _ h=>h.1▸rfl | show e10_1 h λ_ _ _ _ _ _ _ _ _ _ h=>h.1▸rfl | show e11_1 h λ_ _ _ _ _ _ _ _ _ _ _ h=>h.1▸rfl | show e11_1 h λ_ _ _ _ _ _ _ _ _ _ _ h=>h.elim λ_ h=>h.1▸rfl | show e11_1 h λ_ _ _ _ _ _ _ _ _ _ _ h=>h.elim λ_ h=>h.elim λ_ h=>h.1▸rfl | show e11_1 h λ_ _ _ _ _ _ _ _ _ _ _ h=>h.elim λ_ h=>h.elim λ_ h=>h.elim λ_ h=>h.1▸rfl | show e11_1 h λ_ _ _ _ _ _ _ _ _ _ _ h=>h.elim λ_ h=>h.elim λ_ h=>h.elim λ_ h=>h.elim λ_ h=>h.1▸rfl | show e11_1 h λ_ _ _ _ _ _ _ _ _ _ _ h=>h.elim λ_ h=>h.elim λ_ h=>h.elim λ_ h=>h.elim λ_ h=>h.elim λ_ h=>h.1▸rfl | show e11_1 h λ_ _ _ _ _ _ _ _ _ _ _ h=>h.elim λ_ h=>h.elim λ_ h=>h.elim λ_ h=>h.elim λ_ h=>h.elim λ_ h=>h.elim λ_ h=>h.1▸rfl):bu P w K mg base (k+1) x ps sp:=D.has S len hbody
end L2
namespace Rp
open PySem PySem.Spec PyProof.Rows L2
def top(i:Nat):aT:=PySem.Challenge.pw_reportstold_s01_answers.main.body.getD i (.Pass ⟨0,0,0,0⟩)
abbrev Ji:aT:=top 4
def lI:bj ["first_lines","second_lines","known","first","second","counts","numbers","place","other"] ["first_lines","second_lines"] (aS Ji):=fsc
abbrev CJ:aT:=top 5
def yY:bj ["lines","known","numbers","line","key"] ["lines","known"] (aS CJ):=fsc
abbrev IW:aT:=top 6
def wm:bj ["first","second","below","counts","line"] ["first","second"] (aS IW):=fsc
abbrev CD:aT:=top 7
def tY:bj ["line","second","below","counts","behind","other"] ["line","second","below"] (aS CD):=fsc
abbrev JT:aT:=top 18
def Dc:bj ["text","sign"] ["text"] (aS JT):=fsc
abbrev JD:aT:=top 19
def Ux:bj ["number"] ["number"] (aS JD):=fsc
abbrev Ju:aT:=top 20
def Kb:bj ["row","texts","text"] ["row","texts"] (aS Ju):=fsc
abbrev JX:aT:=top 21
def t8:bj ["row","byte","pieces","start","place","each"] ["row","byte"] (aS JX):=fsc
abbrev Jw:aT:=top 22
def Kc:bj ["row","lines"] ["row"] (aS Jw):=fsc
abbrev Jd:aT:=top 23
def CZ:bj ["lines","row","line"] ["lines"] (aS Jd):=fsc
abbrev Jf:aT:=top 24
def Uk:bj ["row","size"] ["row","size"] (aS Jf):=fsc
abbrev J6:aT:=top 25
def De:bj ["row","size"] ["row"] (aS J6):=fsc
abbrev Jm:aT:=top 26
def Uq:bj ["byte"] ["byte"] (aS Jm):=fsc
abbrev Jk:aT:=top 27
def Uo:bj ["byte"] ["byte"] (aS Jk):=fsc
abbrev Jn:aT:=top 28
def C3:bj ["row","byte"] ["row"] (aS Jn):=fsc
abbrev Js:aT:=top 29
def Ut:bj ["byte"] ["byte"] (aS Js):=fsc
abbrev Jr:aT:=top 30
def C5:bj ["row","byte"] ["row"] (aS Jr):=fsc
abbrev Jp:aT:=top 31
def C4:bj ["row","byte"] ["row"] (aS Jp):=fsc
abbrev Jo:aT:=top 43
def Ur:bj ["number"] ["number"] (aS Jo):=fsc
abbrev Jj:aT:=top 44
def Um:bj ["number"] ["number"] (aS Jj):=fsc
abbrev Jq:aT:=top 45
def Us:bj ["number"] ["number"] (aS Jq):=fsc
abbrev Jl:aT:=top 46
def Up:bj ["number"] ["number"] (aS Jl):=fsc
abbrev JB:aT:=top 47
def Uv:bj ["answer"] ["answer"] (aS JB):=fsc
abbrev JC:aT:=top 48
def Uw:bj ["answer"] ["answer"] (aS JC):=fsc
abbrev JY:aT:=top 49
def UA:bj ["answer"] ["answer"] (aS JY):=fsc
abbrev JW:aT:=top 50
def Uz:bj ["version"] ["version"] (aS JW):=fsc
abbrev Je:aT:=top 51
def C0:bj ["answers","person","day","answer"] ["answers","person","day"] (aS Je):=fsc
abbrev IU:aT:=top 52
def yU:bj ["answers","best","answer"] ["answers"] (aS IU):=fsc
abbrev IS:aT:=top 53
def CQ:bj ["filed","test","answer"] ["filed","test"] (aS IS):=fsc
abbrev IT:aT:=top 54
def CS:bj ["filed","test","day","answer"] ["filed","test","day"] (aS IT):=fsc
abbrev CF:aT:=top 55
def CW:bj ["filed","tests","answer"] ["filed","tests"] (aS CF):=fsc
abbrev Jb:aT:=top 57
def yX:bj ["text","width","cut","piece","start"] ["text","width"] (aS Jb):=fsc
abbrev JK:aT:=top 58
def rF:bj ["text","width","lines","line","piece"] ["text","width"] (aS JK):=fsc
abbrev Jv:aT:=top 67
def pU:bj ["template","answers","person","day","layout","body","room","page","lines","line"] ["template","answers","person","day"] (aS Jv):=fsc
abbrev JF:aT:=top 68
def y0:bj ["template","room"] ["template"] (aS JF):=fsc
abbrev JE:aT:=top 69
def yZ:bj ["layout","template","portion","page","lines","number","count"] ["layout","template","portion","page"] (aS JE):=fsc
abbrev IV:aT:=top 70
def CT:bj ["layout","template","lines","part"] ["layout","template"] (aS IV):=fsc
abbrev Ja:aT:=top 71
def yW:bj ["layout","template","counting","conditions","part"] ["layout","template"] (aS Ja):=fsc
abbrev JG:aT:=top 72
def y4:bj ["layout","part","width","unknown","line"] ["layout","part","width"] (aS JG):=fsc
abbrev JS:aT:=top 73
def za:bj ["layout","name","line","answer","value"] ["layout","name"] (aS JS):=fsc
abbrev J0:aT:=top 74
def wB:bj ["layout","names","heading","name","lines","day"] ["layout","names"] (aS J0):=fsc
abbrev JZ:aT:=top 75
def wA:bj ["layout","names","day","line","name","answer","cell"] ["layout","names","day"] (aS JZ):=fsc
abbrev CH:aT:=top 76
def wq:bj ["layout","pieces","page","pages","fillings","filled","kind","row"] ["layout","pieces","page","pages"] (aS CH):=fsc
abbrev J2:aT:=top 77
def Kh:bj ["layout","name","answer"] ["layout","name"] (aS J2):=fsc
abbrev CM:aT:=top 78
def Uy:bj ["layout","answer"] ["layout","answer"] (aS CM):=fsc
abbrev Jz:aT:=top 83
def Kd:bj ["laboratory","template","person","day","reader","layout"] ["laboratory","template","person","day","reader"] (aS Jz):=fsc
abbrev CP:aT:=top 84
def wD:bj ["laboratory","reader","greatest","thing","number","version"] ["laboratory","reader"] (aS CP):=fsc
abbrev CG:aT:=top 85
def CY:bj ["laboratory","told","number"] ["laboratory","told"] (aS CG):=fsc
abbrev IP:aT:=top 86
def yT:bj ["laboratory","duties","reader","number"] ["laboratory"] (aS IP):=fsc
abbrev CI:aT:=top 87
def t7:bj ["laboratory","reader","told_before","lines","told","number","answer"] ["laboratory","reader"] (aS CI):=fsc
abbrev IZ:aT:=top 88
def CV:bj ["answer","told_version","line"] ["answer","told_version"] (aS IZ):=fsc
abbrev J3:aT:=top 89
def UB:bj ["version"] ["version"] (aS J3):=fsc
abbrev JQ:aT:=top 110
def wz:bj ["text","reading","lines","number","line"] ["text"] (aS JQ):=fsc
abbrev JA:aT:=top 111
def Uu:bj ["line"] ["line"] (aS JA):=fsc
abbrev CK:aT:=top 112
def Kf:bj ["reading","number","entry","reason"] ["reading","number","entry"] (aS CK):=fsc
abbrev Jc:aT:=top 113
def Uj:bj ["depth","kind"] ["depth","kind"] (aS Jc):=fsc
abbrev CL:aT:=top 114
def C9:bj ["reading","entry","part_count","misplaced"] ["reading","entry"] (aS CL):=fsc
abbrev JN:aT:=top 115
def y9:bj ["line","words","kind","behind"] ["line"] (aS JN):=fsc
abbrev JP:aT:=top 116
def C7:bj ["kind","line","behind","number","bounds"] ["kind","line","behind"] (aS JP):=fsc
abbrev J8:aT:=top 117
def uc:bj ["digits","byte","number"] ["digits"] (aS J8):=fsc
abbrev JO:aT:=top 118
def C6:bj ["kind","line","behind","word"] ["kind","line","behind"] (aS JO):=fsc
abbrev JR:aT:=top 119
def C8:bj ["kind","line","size","pieces"] ["kind","line"] (aS JR):=fsc
abbrev J1:aT:=top 120
def t9:bj ["text","sections","pieces","section","halves","hole"] ["text"] (aS J1):=fsc
abbrev JM:aT:=top 121
def y8:bj ["inside","kind","front","name"] ["inside"] (aS JM):=fsc
abbrev JJ:aT:=top 122
def wy:bj ["template","lines","entry","part"] ["template"] (aS JJ):=fsc
abbrev Jh:aT:=top 136
def Ul:bj ["things","number"] ["things","number"] (aS Jh):=fsc
abbrev J4:aT:=top 137
def UC:bj ["row"] ["row"] (aS J4):=fsc
abbrev IL:aT:=top 138
def J9:bj ["laboratory","call","reading"] ["laboratory","call"] (aS IL):=fsc
abbrev IK:aT:=top 139
def oz:bj ["laboratory","call","person","day","flag","test","unit","value","number","answer"] ["laboratory","call"] (aS IK):=fsc
abbrev IY:aT:=top 140
def yV:bj ["laboratory","call","number","flag","value"] ["laboratory","call"] (aS IY):=fsc
abbrev J5:aT:=top 141
def Ki:bj ["laboratory","call","number"] ["laboratory","call"] (aS J5):=fsc
abbrev IM:aT:=top 142
def Uh:bj ["answer","version"] ["answer","version"] (aS IM):=fsc
abbrev Jt:aT:=top 143
def tZ:bj ["laboratory","call","number","person","day","reader","report"] ["laboratory","call"] (aS Jt):=fsc
abbrev JU:aT:=top 144
def Dd:bj ["laboratory","call","reader","letter"] ["laboratory","call"] (aS JU):=fsc
abbrev JV:aT:=top 145
def Kg:bj ["laboratory","call","number"] ["laboratory","call"] (aS JV):=fsc
abbrev CN:aT:=top 146
def wC:bj ["laboratory","call","number","thing","row","answer_number"] ["laboratory","call"] (aS CN):=fsc
abbrev Jx:aT:=top 147
def wu:bj ["laboratory","call","duties","row","reader","answer_number"] ["laboratory","call"] (aS Jx):=fsc
abbrev CO:aT:=top 148
def zb:bj ["laboratory","call","reader","number","told"] ["laboratory","call"] (aS CO):=fsc
abbrev Jy:aT:=top 149
def wx:bj ["laboratory","call","number","answer","row","version"] ["laboratory","call"] (aS Jy):=fsc
abbrev JH:aT:=top 150
def y6:bj ["laboratory","call","number","person","day"] ["laboratory","call"] (aS JH):=fsc
abbrev JI:aT:=top 151
def Ke:bj ["laboratory","call","number"] ["laboratory","call"] (aS JI):=fsc
abbrev J7:aT:=top 152
def ub:bj ["laboratory","call","width","text","lines","row","line"] ["laboratory","call"] (aS J7):=fsc
abbrev IX:aT:=top 153
def CU:bj ["laboratory","call","number","other"] ["laboratory","call"] (aS IX):=fsc
abbrev Jg:aT:=top 154
def wt:bj ["laboratory","call","person","day","test","answer"] ["laboratory","call"] (aS Jg):=fsc
abbrev I0:aT:=top 155
def Ka:bj ["laboratory","call","counts"] ["laboratory","call"] (aS I0):=fsc
abbrev IQ:aT:=top 157
def Ui:bj ["laboratory","call"] ["laboratory","call"] (aS IQ):=fsc
abbrev JL:aT:=top 158
def oA:bj ["calls","start","kind","form","place","numbers","rows","step","end"] ["calls","start"] (aS JL):=fsc
abbrev CC:aT:=top 159
def tX:bj ["calls","laboratory","answered","place","call"] ["calls"] (aS CC):=fsc
abbrev IF:aT:=inClass (top 40) 0
def Ua:bj ["self"] ["self"] (aS IF):=fsc
abbrev IJ:aT:=inClass (top 41) 0
def Ug:bj ["self","status","flag","value"] ["self","status","flag","value"] (aS IJ):=fsc
abbrev IC:aT:=inClass (top 42) 0
def T7:bj ["self","number","person","day","test","unit"] ["self","number","person","day","test","unit"] (aS IC):=fsc
abbrev IG:aT:=inClass (top 66) 0
def Ub:bj ["self","person","day","filed"] ["self","person","day","filed"] (aS IG):=fsc
abbrev II:aT:=inClass (top 82) 0
def Ud:bj ["self","kind","reader","person","pages","row","told"] ["self","kind","reader","person","pages","row","told"] (aS II):=fsc
abbrev IE:aT:=inClass (top 107) 0
def T9:bj ["self","kind","line","number","names","pieces"] ["self","kind","line","number","names","pieces"] (aS IE):=fsc
abbrev CB:aT:=inClass (top 108) 0
def Ue:bj ["self","settings","parts"] ["self","settings","parts"] (aS CB):=fsc
abbrev IH:aT:=inClass (top 109) 0
def Uc:bj ["self"] ["self"] (aS IH):=fsc
abbrev ID:aT:=inClass (top 135) 0
def T8:bj ["self","kind","numbers","rows","end"] ["self","kind","numbers","rows","end"] (aS ID):=fsc
structure Ad where
 jh:ab
 Version:ab
 Answer:ab
 iW:ab
 Sent:ab
 Entry:ab
 Template:ab
 kq:ab
 Call:ab
structure bh(K:aw)(mg:Str->Option af)(ad:Ad):Prop where
 sL:mg "all"=none
 EU:mg "enumerate"=none
 dN:mg "len"=none
 LZ:mg "list"=none
 EV:mg "max"=none
 L0:mg "ord"=none
 uZ:mg "range"=none
 L3:mg "reversed"=none
 L4:mg "set"=none
 AF:mg "sorted"=none
 L5:mg "str"=none
 L6:mg "tuple"=none
 Mh:∃t,mg "BOTH"=some (.int 0 t)
 Fc:∃t,mg "FIRST_ALONE"=some (.int 1 t)
 Fi:∃t,mg "SECOND_ALONE"=some (.int 2 t)
 AN:∃t,mg "LINE_END"=some (.int 10 t)
 ME:∃t,mg "PAGE_END"=some (.int 12 t)
 qI:∃t,mg "BLANK"=some (.int 32 t)
 Ml:∃t,mg "FIRST_SIGN"=some (.int 32 t)
 Fe:∃t,mg "LAST_SIGN"=some (.int 126 t)
 Fg:∃t,mg "OPENING"=some (.int 123 t)
 AL:∃t,mg "CLOSING"=some (.int 125 t)
 Mr:∃t,mg "LONGEST_NAME"=some (.int 8 t)
 Mt:∃t,mg "LONGEST_WORD"=some (.int 12 t)
 Mj:∃t,mg "FINAL"=some (.int 0 t)
 Mi:∃t,mg "CORRECTED"=some (.int 1 t)
 AO:∃t,mg "WITHDRAWN"=some (.int 2 t)
 Fd:∃a,mg "FLAG_SIGNS"=some (.ref a)/\k9 K a [.str "",.str " L",.str " H",.str " !"]
 Fh:∃t,mg "READERS"=some (.int 20 t)
 Mn:∃t,mg "GREATEST_PERSON"=some (.int 1000000000 t)
 Mp:∃t,mg "LAST_DAY"=some (.int 100000 t)
 Mz:∃t,mg "NAME_SIZE"=some (.int 10 t)
 MM:∃t,mg "VALUE_SIZE"=some (.int 14 t)
 MJ:∃t,mg "UNIT_SIZE"=some (.int 12 t)
 Fb:∃t,mg "DAY_SIZE"=some (.int 10 t)
 E9:∃t,mg "CELL_SIZE"=some (.int 15 t)
 MH:∃t,mg "TABLE_DAYS"=some (.int 5 t)
 MF:∃t,mg "REPORT"=some (.int 0 t)
 Mq:∃t,mg "LETTER"=some (.int 1 t)
 Mm:∃a,mg "FIRST_WORDS"=some (.ref a)/\k9 K a [.str "width",.str "lines",.str "head",.str "foot",.str "text",.str "row",.str "table",.str "blank",.str "if",.str "end"]
 Fj:∃a,mg "SETTINGS"=some (.ref a)/\k9 K a [.str "width",.str "lines",.str "head",.str "foot"]
 -- RANGES={'width':(20,100),'lines':(5,60)}
 -- MOST_NAMES={'row':1,'table':6,'if':1}
 Mg:∃a,mg "BARE_HOLES"=some (.ref a)/\k9 K a [.str "person",.str "day",.str "page",.str "pages"]
 ML:∃t,mg "USUAL_WIDTH"=some (.int 60 t)
 MK:∃t,mg "USUAL_LINES"=some (.int 40 t)
 Ms:∃t,mg "LONGEST_TEXT"=some (.int 200 t)
 Mw:∃t,mg "MOST_PARTS"=some (.int 40 t)
 Mv:∃t,mg "MOST_IFS"=some (.int 4 t)
 Fl:∃t,mg "ZERO"=some (.int 48 t)
 MD:∃t,mg "NUMBER_SIGN"=some (.int 35 t)
 MA:∃t,mg "NONE_OF_THESE"=some (.int 1 t)
 MG:∃t,mg "SETTING_MISPLACED"=some (.int 2 t)
 AM:∃t,mg "IF_UNPAIRED"=some (.int 3 t)
 MI:∃t,mg "TOO_MANY_PARTS"=some (.int 4 t)
 Mx:∃t,mg "MOST_TEMPLATES"=some (.int 8 t)
 Mu:∃t,mg "MOST_ANSWERS"=some (.int 60 t)
 My:∃t,mg "MOST_VERSIONS"=some (.int 6 t)
 Ff:∃t,mg "MOST_SENT"=some (.int 40 t)
 Mo:∃t,mg "GREATEST_WIDTH"=some (.int 100 t)
 jW:∃t,mg "NO_SUCH_ONE"=some (.int (-1) t)
 xN:∃t,mg "WRONG_FORM"=some (.int (-2) t)
 MC:∃t,mg "NOT_STANDING"=some (.int (-3) t)
 vd:∃t,mg "NO_ROOM"=some (.int (-6) t)
 MB:∃t,mg "NOTHING_DUE"=some (.int (-8) t)
 -- FORMS=((0,1),(3,3),(2,1),(1,0),(4,0),(1,0),(1,0),(1,0),(0,0),(2,0),(1,0),(3,0),(1,
 -- ANSWERED_BY=(add_template,add_answer,correct_answer,withdraw_answer,issue_report,send_letter,show_sent,te
 N3:Def K mg "hold_against" Ji ["first_lines","second_lines"]
 Oy:Def K mg "numbered" CJ ["lines","known"]
 NI:Def K mg "common_counts" IW ["first","second"]
 NO:Def K mg "counts_above" CD ["line","second","below"]
 OR:Def K mg "row_of" JT ["text"]
 Ox:Def K mg "number_row" JD ["number"]
 Og:Def K mg "known_text" Ju ["row","texts"]
 OX:Def K mg "split_at" JX ["row","byte"]
 Oj:Def K mg "lines_of" Jw ["row"]
 NT:Def K mg "ended_lines" Jd ["lines"]
 NW:Def K mg "filled_up" Jf ["row","size"]
 Pa:Def K mg "without_end_blanks" J6 ["row"]
 N8:Def K mg "is_letter" Jm ["byte"]
 N6:Def K mg "is_digit" Jk ["byte"]
 N9:Def K mg "is_name" Jn ["row"]
 Oe:Def K mg "is_word_sign" Js ["byte"]
 Od:Def K mg "is_word" Jr ["row"]
 Ob:Def K mg "is_plain" Jp ["row"]
 Oa:Def K mg "is_person" Jo ["number"]
 N5:Def K mg "is_day" Jj ["number"]
 Oc:Def K mg "is_reader" Jq ["number"]
 N7:Def K mg "is_flag" Jl ["number"]
 Ou:Def K mg "newest_number" JB ["answer"]
 Ov:Def K mg "newest_version" JC ["answer"]
 OY:Def K mg "stands" JY ["answer"]
 OW:Def K mg "shown_value" JW ["version"]
 NU:Def K mg "file_of" Je ["answers","person","day"]
 NG:Def K mg "best_answer" IU ["answers"]
 ND:Def K mg "answer_of_test" IS ["filed","test"]
 NF:Def K mg "answer_of_test_on" IT ["filed","test","day"]
 NQ:Def K mg "days_of_tests" CF ["filed","tests"]
 NP:Def K mg "cut_pieces" Jb ["text","width"]
 OF:Def K mg "put_into_lines" JK ["text","width"]
 Oh:Def K mg "lay_out" Jv ["template","answers","person","day"]
 OA:Def K mg "page_room" JF ["template"]
 Oz:Def K mg "page_lines" JE ["layout","template","portion","page"]
 NH:Def K mg "body_lines" IV ["layout","template"]
 NN:Def K mg "counting_parts" Ja ["layout","template"]
 OB:Def K mg "part_lines" JG ["layout","part","width"]
 OQ:Def K mg "row_line" JS ["layout","name"]
 O0:Def K mg "table_lines" J0 ["layout","names"]
 OZ:Def K mg "table_line" JZ ["layout","names","day"]
 NV:Def K mg "fill_holes" CH ["layout","pieces","page","pages"]
 O6:Def K mg "value_of_test" J2 ["layout","name"]
 OV:Def K mg "show_value" CM ["layout","answer"]
 Oq:Def K mg "make_report" Jz ["laboratory","template","person","day","reader"]
 O5:Def K mg "told_to" CP ["laboratory","reader"]
 NS:Def K mg "due_numbers" CG ["laboratory","told"]
 NB:Def K mg "all_duties" IP ["laboratory"]
 Oo:Def K mg "make_letter" CI ["laboratory","reader"]
 NL:Def K mg "correction_line" IZ ["answer","told_version"]
 O7:Def K mg "version_row" J3 ["version"]
 ON:Def K mg "read_template" JQ ["text"]
 Ot:Def K mg "means_something" JA ["line"]
 OH:Def K mg "read_entry" CK ["reading","number","entry"]
 NR:Def K mg "depth_behind" Jc ["depth","kind"]
 OP:Def K mg "reason_against" CL ["reading","entry"]
 OJ:Def K mg "read_line" JN ["line"]
 OM:Def K mg "read_number_line" JP ["kind","line","behind"]
 Pc:Def K mg "written_number" J8 ["digits"]
 OL:Def K mg "read_names_line" JO ["kind","line","behind"]
 OO:Def K mg "read_text_line" JR ["kind","line"]
 O4:Def K mg "text_pieces" J1 ["text"]
 OI:Def K mg "read_hole" JM ["inside"]
 OE:Def K mg "printed_lines" JJ ["template"]
 N2:Def K mg "has_place" Jh ["things","number"]
 O8:Def K mg "with_count" J4 ["row"]
 Nz:Def K mg "add_template" IL ["laboratory","call"]
 Ny:Def K mg "add_answer" IK ["laboratory","call"]
 NK:Def K mg "correct_answer" IY ["laboratory","call"]
 O9:Def K mg "withdraw_answer" J5 ["laboratory","call"]
 NA:Def K mg "add_version" IM ["answer","version"]
 Of:Def K mg "issue_report" Jt ["laboratory","call"]
 OS:Def K mg "send_letter" JU ["laboratory","call"]
 OU:Def K mg "show_sent" JV ["laboratory","call"]
 O2:Def K mg "tell_about" CN ["laboratory","call"]
 Ol:Def K mg "list_duties" Jx ["laboratory","call"]
 O3:Def K mg "tell_told" CO ["laboratory","call"]
 Om:Def K mg "list_versions" Jy ["laboratory","call"]
 OC:Def K mg "preview_report" JH ["laboratory","call"]
 OD:Def K mg "print_template" JI ["laboratory","call"]
 Pb:Def K mg "wrap_text" J7 ["laboratory","call"]
 NJ:Def K mg "compare_sent" IX ["laboratory","call"]
 NY:Def K mg "find_newest" Jg ["laboratory","call"]
 NM:Def K mg "count_all" I0 ["laboratory","call"]
 NC:Def K mg "answer_call" IQ ["laboratory","call"]
 OG:Def K mg "read_call" JL ["calls","start"]
 Xp:Def K mg "answers" CC ["calls"]
 tF:lP K mg "Laboratory" "Laboratory.__init__" ad.jh IF ["self"]
 qN:∀f∈(["templates","answers","sent"]:List Str),gZ K ad.jh f
 tI:lP K mg "Version" "Version.__init__" ad.Version IJ ["self","status","flag","value"]
 qO:∀f∈(["status","flag","value"]:List Str),gZ K ad.Version f
 tE:lP K mg "Answer" "Answer.__init__" ad.Answer IC ["self","number","person","day","test","unit"]
 nr:∀f∈(["number","person","day","test","unit","versions"]:List Str),gZ K ad.Answer f
 vI:lP K mg "Layout" "Layout.__init__" ad.iW IG ["self","person","day","filed"]
 nZ:∀f∈(["person","day","filed","row","pages","shown"]:List Str),gZ K ad.iW f
 tH:lP K mg "Sent" "Sent.__init__" ad.Sent II ["self","kind","reader","person","pages","row","told"]
 nt:∀f∈(["kind","reader","person","pages","row","told"]:List Str),gZ K ad.Sent f
 ij:lP K mg "Entry" "Entry.__init__" ad.Entry IE ["self","kind","line","number","names","pieces"]
 fL:∀f∈(["kind","line","number","names","pieces"]:List Str),gZ K ad.Entry f
 js:lP K mg "Template" "Template.__init__" ad.Template CB ["self","settings","parts"]
 gL:∀f∈(["width","lines","head","foot","parts"]:List Str),gZ K ad.Template f
 tG:lP K mg "Reading" "Reading.__init__" ad.kq IH ["self"]
 hU:∀f∈(["settings","parts","depth","wrong_line","reason"]:List Str),gZ K ad.kq f
 BB:lP K mg "Call" "Call.__init__" ad.Call ID ["self","kind","numbers","rows","end"]
 vB:∀f∈(["kind","numbers","rows","end"]:List Str),gZ K ad.Call f
def aLaboratoryX{K:aw}{g:Str->Option af}{ad:Ad}(G:bh K g ad){i:Nat}{f:Str}{σ:L2.St}{H:Hp}{Q:VK}{a c:ab}{b:List (Str×V)}{v:V}(h:H a=some (.ins ad.jh c b))(q:Q v H)(d:f∈(["templates","answers","sent"]:List Str):=by decide +kernel)(l:b.lookup f=some v:=by rfl)(e:σ[i]? =some (some (.ref a)):=by rfl):gb K (aB i) f σ H Q:=dB h G.tF.cl (G.qN _ d) l q e
def aVersionX{K:aw}{g:Str->Option af}{ad:Ad}(G:bh K g ad){i:Nat}{f:Str}{σ:L2.St}{H:Hp}{Q:VK}{a c:ab}{b:List (Str×V)}{v:V}(h:H a=some (.ins ad.Version c b))(q:Q v H)(d:f∈(["status","flag","value"]:List Str):=by decide +kernel)(l:b.lookup f=some v:=by rfl)(e:σ[i]? =some (some (.ref a)):=by rfl):gb K (aB i) f σ H Q:=dB h G.tI.cl (G.qO _ d) l q e
def aAnswerX{K:aw}{g:Str->Option af}{ad:Ad}(G:bh K g ad){i:Nat}{f:Str}{σ:L2.St}{H:Hp}{Q:VK}{a c:ab}{b:List (Str×V)}{v:V}(h:H a=some (.ins ad.Answer c b))(q:Q v H)(d:f∈(["number","person","day","test","unit","versions"]:List Str):=by decide +kernel)(l:b.lookup f=some v:=by rfl)(e:σ[i]? =some (some (.ref a)):=by rfl):gb K (aB i) f σ H Q:=dB h G.tE.cl (G.nr _ d) l q e
def aLayoutX{K:aw}{g:Str->Option af}{ad:Ad}(G:bh K g ad){i:Nat}{f:Str}{σ:L2.St}{H:Hp}{Q:VK}{a c:ab}{b:List (Str×V)}{v:V}(h:H a=some (.ins ad.iW c b))(q:Q v H)(d:f∈(["person","day","filed","row","pages","shown"]:List Str):=by decide +kernel)(l:b.lookup f=some v:=by rfl)(e:σ[i]? =some (some (.ref a)):=by rfl):gb K (aB i) f σ H Q:=dB h G.vI.cl (G.nZ _ d) l q e
def aSentX{K:aw}{g:Str->Option af}{ad:Ad}(G:bh K g ad){i:Nat}{f:Str}{σ:L2.St}{H:Hp}{Q:VK}{a c:ab}{b:List (Str×V)}{v:V}(h:H a=some (.ins ad.Sent c b))(q:Q v H)(d:f∈(["kind","reader","person","pages","row","told"]:List Str):=by decide +kernel)(l:b.lookup f=some v:=by rfl)(e:σ[i]? =some (some (.ref a)):=by rfl):gb K (aB i) f σ H Q:=dB h G.tH.cl (G.nt _ d) l q e
def aEntryX{K:aw}{g:Str->Option af}{ad:Ad}(G:bh K g ad){i:Nat}{f:Str}{σ:L2.St}{H:Hp}{Q:VK}{a c:ab}{b:List (Str×V)}{v:V}(h:H a=some (.ins ad.Entry c b))(q:Q v H)(d:f∈(["kind","line","number","names","pieces"]:List Str):=by decide +kernel)(l:b.lookup f=some v:=by rfl)(e:σ[i]? =some (some (.ref a)):=by rfl):gb K (aB i) f σ H Q:=dB h G.ij.cl (G.fL _ d) l q e
def aTemplateX{K:aw}{g:Str->Option af}{ad:Ad}(G:bh K g ad){i:Nat}{f:Str}{σ:L2.St}{H:Hp}{Q:VK}{a c:ab}{b:List (Str×V)}{v:V}(h:H a=some (.ins ad.Template c b))(q:Q v H)(d:f∈(["width","lines","head","foot","parts"]:List Str):=by decide +kernel)(l:b.lookup f=some v:=by rfl)(e:σ[i]? =some (some (.ref a)):=by rfl):gb K (aB i) f σ H Q:=dB h G.js.cl (G.gL _ d) l q e
def aReadingX{K:aw}{g:Str->Option af}{ad:Ad}(G:bh K g ad){i:Nat}{f:Str}{σ:L2.St}{H:Hp}{Q:VK}{a c:ab}{b:List (Str×V)}{v:V}(h:H a=some (.ins ad.kq c b))(q:Q v H)(d:f∈(["settings","parts","depth","wrong_line","reason"]:List Str):=by decide +kernel)(l:b.lookup f=some v:=by rfl)(e:σ[i]? =some (some (.ref a)):=by rfl):gb K (aB i) f σ H Q:=dB h G.tG.cl (G.hU _ d) l q e
def aCallX{K:aw}{g:Str->Option af}{ad:Ad}(G:bh K g ad){i:Nat}{f:Str}{σ:L2.St}{H:Hp}{Q:VK}{a c:ab}{b:List (Str×V)}{v:V}(h:H a=some (.ins ad.Call c b))(q:Q v H)(d:f∈(["kind","numbers","rows","end"]:List Str):=by decide +kernel)(l:b.lookup f=some v:=by rfl)(e:σ[i]? =some (some (.ref a)):=by rfl):gb K (aB i) f σ H Q:=dB h G.BB.cl (G.vB _ d) l q e
end Rp
namespace Rt
open Vblaan
def bc(b:Nat):List Nat->List (List Nat)
 |[]=> [[]]
 |c::l=>match bc b l with
  |[]=> [[c]]
  |w::r=>if c=b then[]::w::r else(c::w)::r
def j8(b:Nat):∀l:List Nat,bc b l≠ []
 |[]=>by simp[bc]
 |c::l=>by
  unfold bc;split
  .simp
  .split<;>simp
def rG{b:Nat}(l:List Nat):bc b (b::l)= []::bc b l:=by
 show(match bc b l with
  |[]=> [[b]]
  |w::r=>if b=b then[]::w::r else(b::w)::r)=_
 cases e:bc b l with
 |nil=>show absurd e (j8 b l)
 |cons w r=>simp
def oB{b c:Nat}(h:c≠b){l w:List Nat}{r:List (List Nat)}(e:bc b l=w::r):bc b (c::l)=(c::w)::r:=by
 show(match bc b l with
  |[]=> [[c]]
  |w::r=>if c=b then[]::w::r else(c::w)::r)=_
 rw[e];simp[h]
def ug{b:Nat}:∀{l:List Nat},(∀c∈l,c≠b)->bc b l= [l]
 |[],_=>rfl
 |c::l,h=>by have d:=ug (b:=b) (l:=l) λx a=>h x (du _ a);rw[oB (h c cZ) d]
def pV{b:Nat}:∀{p:List Nat}(q:List Nat),(∀c∈p,c≠b)->bc b (p++b::q)=p::bc b q
 |[],q,_=>by rw[zY,rG]
 |c::p,q,h=>by have d:=pV (b:=b) (p:=p) q λx a=>h x (du _ a);rw[nJ,oB (h c cZ) d]
def kc:∀l:List Nat,wordsOf l=bc 32 l
 |[]=>rfl
 |c::l=>by
  show(match wordsOf l with
   |[]=> [[c]]
   |w::r=>if c=32 then[]::w::r else(c::w)::r)=(match bc 32 l with
   |[]=> [[c]]
   |w::r=>if c=32 then[]::w::r else(c::w)::r)
  rw[kc l];cases bc 32 l<;>rfl
def nW(p:List (List Nat)):List (List Nat):=if p.getLast? =some []then p.dropLast else p
def BJ:∀l:List Nat,linesOf l=nW (bc 10 l)
 |[]=>rfl
 |c::l=>by
  have a:=BJ l;show(match linesOf l with
   |[]=>if c=10 then[[]]else[[c]]
   |w::r=>if c=10 then[]::w::r else(c::w)::r)=_
  cases e:bc 10 l with
  |nil=>show absurd e (j8 10 l)
  |cons w r=>
   rw[e]at a;by_cases b:c=10
   .subst b;rw[rG,e];unfold nW at a ⊢;rw[Lg];by_cases d:(w::r).getLast? =some []
    .rw[QG d]at a ⊢;rw[a];cases r with
     |nil=>rfl
     |cons x r=>rfl
    .rw[QH d]at a ⊢;rw[a];rfl
   .rw[oB b e];unfold nW at a ⊢;cases r with
    |nil=>
     cases w with
     |nil=>simp at a;rw[a];simp[b]
     |cons x w=>simp at a;rw[a];simp[b]
    |cons x r=>
     rw[Lg]at a ⊢;by_cases d:(x::r).getLast? =some []
     .rw[QG d]at a ⊢;rw[a];simp[b]
     .rw[QH d]at a ⊢;rw[a];simp[b]
structure k0(b:Nat)(row:List Nat)(i:Nat)(P:List (List Nat))(start:Nat):Prop where
 le:start<=i
 il:i<=row.length
 eq:bc b row=P++bc b (row.drop start)
 free:∀c∈(row.drop start).take (i-start),c≠b
def k0.zero(b:Nat)(a:List Nat):k0 b a 0 [] 0:=⟨bo _,cT _,rfl,QD⟩
def Wq{α:Type}{l:List α}{s i:Nat}{x:α}(h:l[i]? =some x)(a:s<=i):(l.drop s).take (i+1-s)=(l.drop s).take (i-s)++[x]:=by
 have e:i+1-s=(i-s)+1:=QA;have g:(l.drop s)[i-s]? =some x:=by rw[w6,show s+(i-s)=i by lia];show h
 rw[e,List.take_add_one,g];rfl
def k0.miss{b:Nat}{d:List Nat}{i:Nat}{P:List (List Nat)}{a x:Nat}(I:k0 b d i P a)(h:d[i]? =some x)(f:x≠b):k0 b d (i+1) P a where
 le:=Nat.le_succ_of_le I.le
 il:=(dW.mp h).1
 eq:=I.eq
 free:=λc e=>by
  rw[Wq h I.le]at e;rcases eA.mp e with e | e
  .show I.free c e
  .rw[iw.mp e];show f
def k0.hit{b:Nat}{c:List Nat}{i:Nat}{P:List (List Nat)}{a:Nat}(I:k0 b c i P a)(h:c[i]? =some b):k0 b c (i+1) (P++[(c.drop a).take (i-a)]) (i+1) where
 le:=bo _
 il:=(dW.mp h).1
 eq:=by
  have d:=(dW.mp h).1;have f:c[i]=b:=(dW.mp h).2;have le:=I.le;have e:c.drop a=(c.drop a).take (i-a)++b::c.drop (i+1):=by have:=(jQ (i-a) (c.drop a)).symm;rw[mR,show a+(i-a)=i by lia]at this;rw[kQ d,f]at this;show this
  rw[I.eq,eZ];congr 1
  conv=>lhs;rw[e]
  rw[pV _ I.free];rfl
 free:=QD
def k0.done{b:Nat}{d:List Nat}{P:List (List Nat)}{a:Nat}(I:k0 b d d.length P a):bc b d=P++[d.drop a]:=by rw[I.eq];congr 1;show ug λc e=>I.free c ?_;rw[nM (by rw[iI];show bo _)];show e
def parts(k n:Nat)(w:List Nat):List (List Nat):=(gG n).map λi=>(w.drop (i*k)).take k
def turns(len k:Nat):Nat:=(len+k-1) / k
def KZ{len k:Nat}(a:0<k)(b:0<len)(h:len<=k):turns len k=1:=by unfold turns;have:len+k-1=(len-1)+k:=QA;rw[this,zZ _ a,xg QA]
def DG{len k:Nat}(a:0<k)(h:k<len):turns len k=turns (len-k) k+1:=by unfold turns;have:len+k-1=(len-k+k-1)+k:=QA;rw[this,zZ _ a]
def B9(k n:Nat)(w:List Nat):parts k (n+1) w=w.take k::parts k n (w.drop k):=by
 unfold parts;rw[Eg,eD,gd];congr 1
 .simp
 .show oT λi _=>?_;show(w.drop ((i+1)*k)).take k=((w.drop k).drop (i*k)).take k;rw[mR,show k+i*k=(i+1)*k by rw[kX];lia]
def FE{k:Nat}(a:0<k):∀(f:Nat)(w:List Nat),w≠ []->w.length<=f->cutUp k f w=parts k (turns w.length k) w
 |0,w,b,d=>by have:w= []:=iX QA;show absurd this b
 |f+1,w,b,d=>by
  have c:0<w.length:=qo.mpr b;unfold cutUp;by_cases h:w.length<=k
  .rw[QG h,KZ a c h,B9,nM h];rfl
  .have hd:(w.drop k).length=w.length-k:=iI;rw[QH h,DG a QA,B9,FE a f (w.drop k) (Lm QA) QA,hd]
def jX(k:Nat)(b:List Nat):List (List Nat):=(bc 32 b).flatMap λw=>parts k (turns w.length k) w
def parts_nil{k:Nat}(a:0<k):parts k (turns ([]:List Nat).length k) []= []:=by
 have:turns ([]:List Nat).length k=0:=by unfold turns;show(0+k-1) / k=0;show xg QA
 rw[this];rfl
def Bu{k:Nat}(a:0<k):∀l:List (List Nat),(l.filter λw=> !w.isEmpty).flatMap (λw=>cutUp k w.length w)=l.flatMap λw=>parts k (turns w.length k) w
 |[]=>rfl
 |w::l=>by
  cases w with
  |nil=>rw[kR,QH QD,kg,parts_nil a,zY];show Bu a l
  |cons x w=>rw[kR,QG QD,kg,kg,Bu a l,FE a _ _ QD (bo _)]
def AY{k:Nat}(a:0<k)(b:List Nat):jX k b=(pieces b).flatMap λw=>cutUp k w.length w:=by unfold jX pieces;rw[kc,Bu a]
def Sx{k:Nat}(c:0<k)(w:List Nat):∀p∈parts k (turns w.length k) w,p≠ []/\p.length<=k:=by
 intro p d;obtain⟨i,a,rfl⟩:=dM.mp d;have a:=r8.mp a;constructor
 .apply Lm;rw[ff,iI];have:i*k<w.length:=by unfold turns at a;have b:=(Nat.le_div_iff_mul_le c).mp (Nat.succ_le_of_lt a);rw[kX]at b;lia
  lia
 .rw[ff];lia
def FA{k:Nat}(a:0<k)(b:List Nat):∀p∈jX k b,p≠ []/\p.length<=k:=by intro p c;obtain⟨w,_,h⟩:=lV.mp c;show Sx a w p h
def iE(k:Nat)(a:List (List Nat)×List Nat)(p:List Nat):List (List Nat)×List Nat:=
 if a.2= []then(a.1,p)else if a.2.length+1+p.length<=k then(a.1,a.2++[32]++p)else(a.1++[a.2],p)
def Ig(k:Nat)(ps:List (List Nat)):List (List Nat):=let a:=ps.foldl (iE k) ([],[]);a.1++[a.2]
def Cm(k:Nat):∀(ps:List (List Nat))(L:List (List Nat))(a:List Nat),a≠ []->(∀p∈ps,p≠ [])->
  (ps.foldl (iE k) (L,a)).1++[(ps.foldl (iE k) (L,a)).2]=L++fillFrom k a ps
 |[],L,a,_,_=>rfl
 |p::ps,L,a,hc,hp=>by
  have c:=hp p cZ;have b:=λq d=>hp q (du _ d);rw[gF];unfold fillFrom;by_cases h:a.length+1+p.length<=k
  .have e:iE k (L,a) p=(L,a++(32::p)):=by unfold iE;rw[QH hc,QG h];simp
   rw[e,QG h];show Cm k ps L _ QD b
  .have e:iE k (L,a) p=(L++[a],p):=by unfold iE;rw[QH hc,QH h]
   rw[e,QH h,Cm k ps _ p c b,eZ];rfl
def Xl{k:Nat}(c:0<k)(b:List Nat):wrap k b=Ig k (jX k b):=by
 unfold wrap Ig;rw[<-AY c];have a:=λp g=>(FA c b p g).1;cases e:jX k b with
 |nil=>rfl
 |cons p d=>rw[e]at a;have f:iE k ([],[]) p=([],p):=rfl;show fillFrom k p d=_;dsimp only;rw[gF,f,Cm k d [] p (a p cZ) λq h=>a q (du _ h)];rfl
def yL{α:Type}(r n:Nat)(l:List α):List (List α):=(gG n).map λi=>(l.drop (i*r)).take r
def mD(len r:Nat):Nat:=max 1 (turns len r)
def Ci{α:Type}(r n:Nat)(l:List α):yL r (n+1) l=l.take r::yL r n (l.drop r):=by
 unfold yL;rw[Eg,eD,gd];congr 1
 .simp
 .show oT λi _=>?_;show(l.drop ((i+1)*r)).take r=((l.drop r).drop (i*r)).take r;rw[mR,show r+i*r=(i+1)*r by rw[kX];lia]
def Fv{r:Nat}(a:0<r):∀(f:Nat)(l:List (List Nat)),turns l.length r<=f+1->chunks r f l=yL r (mD l.length r) l
 |0,l,b=>by
  unfold chunks mD;have:l.length<=r:=by
   apply Classical.byContradiction;intro h;rw[DG a QA]at b;have:0<turns (l.length-r) r:=by unfold turns;show Nat.div_pos QA a
   lia
  have e:max 1 (turns l.length r)=1:=QA;rw[e,Ci,nM this];rfl
 |f+1,l,b=>by
  unfold chunks;by_cases h:l.length<=r
  .have d:turns l.length r<=1:=by
    by_cases c:0<l.length
    .rw[KZ a c h];show bo _
    .unfold turns;rw[show l.length=0 by lia,xg QA];lia
   have e:mD l.length r=1:=by unfold mD;lia
   rw[QG h,e,Ci,nM h];rfl
  .have hd:(l.drop r).length=l.length-r:=iI;have i:=DG a (show r<l.length by lia);have g:0<turns (l.length-r) r:=by unfold turns;show Nat.div_pos QA a
   have e:mD l.length r=mD (l.length-r) r+1:=by unfold mD;lia
   rw[QH h,e,Ci,Fv a f (l.drop r) (by rw[hd];lia),hd]
end Rt
namespace Rt
open Vblaan
def wsum(ps:List (List Nat)):Nat:=(ps.map λp=>p.length+1).sum
def DT:wsum []=0:=rfl
def jO(p:List Nat)(ps:List (List Nat)):wsum (p::ps)=(p.length+1)+wsum ps:=by unfold wsum;rw[eD,List.sum_cons]
def Lb(ps a:List (List Nat)):wsum (ps++a)=wsum ps+wsum a:=by unfold wsum;rw[fk,List.sum_append]
def Br(k:Nat):∀(ps:List (List Nat))(a:List Nat),∃m,(fillFrom k a ps).length=m+1/\m*(k+1)+(a.length+1)<=2*(a.length+1+wsum ps)
 |[],a=>⟨0,rfl,by rw[DT];lia⟩
 |p::ps,a=>by
  unfold fillFrom;rw[jO];by_cases h:a.length+1+p.length<=k
  .rw[QG h];obtain⟨m,e,i⟩:=Br k ps (a++(32::p));exists m,e;rw[aP,aG]at i;lia
  .rw[QH h];obtain⟨m,e,i⟩:=Br k ps p;exists m+1,by rw[aG,e]
   rw[kX];lia
def HJ(k:Nat):∀(n:Nat)(w:List Nat),wsum (parts k n w)<=w.length+n
 |0,w=>by show wsum []<=_;rw[DT];lia
 |n+1,w=>by rw[B9,jO];have:=HJ k n (w.drop k);rw[iI]at this;rw[ff];lia
def DH{k:Nat}(a:0<k)(n:Nat):turns n k<=n:=by
 unfold turns;cases n with
 |zero=>rw[xg QA];lia
 |succ n=>have:n+1+k-1=n+k:=QA;rw[this,zZ _ a];have:=Nat.div_le_self n k;lia
def pW(b:Nat):∀l:List Nat,wsum (bc b l)=l.length+1
 |[]=>rfl
 |c::l=>by
  have a:=pW b l;by_cases h:c=b
  .subst h;rw[rG,jO,a,aG];simp;lia
  .cases e:bc b l with
   |nil=>show absurd e (j8 b l)
   |cons w r=>rw[oB h e,jO,aG,aG];rw[e,jO]at a;lia
def Bw{k:Nat}(a:0<k):∀l:List (List Nat),wsum (l.flatMap λw=>parts k (turns w.length k) w)<=2*wsum l
 |[]=>by simp[wsum]
 |w::l=>by rw[kg,Lb,jO];have b:=Bw a l;have c:=HJ k (turns w.length k) w;have d:=DH a w.length;lia
def FC{k:Nat}(a:0<k)(b:List Nat):wsum (jX k b)<=2*(b.length+1):=by have:=Bw a (bc 32 b);rw[pW]at this;show this
def zz{k:Nat}(a:0<k)(b:List Nat):∃m,(wrap k b).length=m+1/\m*(k+1)<=4*(b.length+1):=by
 unfold wrap;rw[<-AY a];have d:=FC a b;cases e:jX k b with
 |nil=>show⟨0,rfl,QA⟩
 |cons p f=>obtain⟨m,c,g⟩:=Br k f p;rw[e,jO]at d;show⟨m,c,QA⟩
def Xk{k:Nat}(f:20<=k){b:List Nat}(e:b.length<=400):(wrap k b).length<=77:=by obtain⟨m,a,c⟩:=zz (show 0<k by lia) b;have d:m*21<=m*(k+1):=xk m QA;lia
def Bs{k:Nat}:∀(ps:List (List Nat))(a:List Nat),a.length<=k->(∀p∈ps,p.length<=k)->∀l∈fillFrom k a ps,l.length<=k
 |[],a,d,_,l,b=>by rw[iw.mp b];show d
 |p::ps,a,d,hp,l,b=>by
  unfold fillFrom at b;have c:=λq e=>hp q (du _ e);by_cases h:a.length+1+p.length<=k
  .rw[QG h]at b;show Bs ps _ (by rw[aP,aG];lia) c l b
  .rw[QH h]at b;rcases bG.mp b with rfl | b
   .show d
   .show Bs ps p (hp p cZ) c l b
def DS{k:Nat}(c:0<k)(b:List Nat):∀l∈wrap k b,l.length<=k:=by
 unfold wrap;rw[<-AY c];have a:=λp f=>(FA c b p f).2;cases e:jX k b with
 |nil=>intro l d;rw[iw.mp d];show cT _
 |cons p h=>rw[e]at a;show Bs h p (a p cZ) λq g=>a q (du _ g)
def yN(n:Nat):∀(l:List Nat)(x:Nat),x∈putNat n l↔x=n\/x∈l
 |[],x=>by simp[putNat]
 |m::r,x=>by
  unfold putNat;split
  .simp
  .split
   .rename_i b a;subst a;simp
   .rw[bG,yN n r x,bG];constructor
    .rintro(h | h | h)
     .show .inr (.inl h)
     .show .inl h
     .show .inr (.inr h)
    .rintro(h | h | h)
     .show .inr (.inl h)
     .show .inl h
     .show .inr (.inr h)
def Co(n:Nat):∀(l:List Nat),l.Pairwise (·<·)->(putNat n l).Pairwise (·<·)
 |[],_=>by simp[putNat]
 |m::r,h=>by
  have c:=(lW.mp h).1;have d:=(lW.mp h).2;unfold putNat;split
  .rename_i b;show lW.mpr ⟨λx a=>?_,h⟩;rcases bG.mp a with rfl | a
   .show b
   .show xi b (c x a)
  .split
   .show h
   .rename_i b e;show lW.mpr ⟨λx a=>?_,Co n r d⟩;rcases(yN n r x).mp a with rfl | a
    .lia
    .show c x a
def x6{α:Type}(f:α->Nat):∀(l:List α)(a:List Nat)(x:Nat),x∈l.foldl (λa y=>putNat (f y) a) a↔x∈a\/∃y∈l,f y=x
 |[],a,x=>QD
 |y::l,a,x=>by
  rw[gF,x6 f l,yN];constructor
  .rintro((h | h) | ⟨z,b,e⟩)
   .show .inr ⟨y,cZ,h.symm⟩
   .show .inl h
   .show .inr ⟨z,du _ b,e⟩
  .rintro(h | ⟨z,b,e⟩)
   .show .inl (.inr h)
   .rcases bG.mp b with rfl | b
    .show .inl (.inl e.symm)
    .show .inr ⟨z,b,e⟩
def Gg{α:Type}(f:α->Nat):∀(l:List α)(a:List Nat),a.Pairwise (·<·)->(l.foldl (λa y=>putNat (f y) a) a).Pairwise (·<·)
 |[],_,h=>h
 |y::l,a,h=>by rw[gF];show Gg f l _ (Co _ _ h)
def Ct:∀{a b:List Nat},a.Pairwise (·<·)->b.Pairwise (·<·)->(∀x,x∈a↔x∈b)->a=b
 |[],[],_,_,_=>rfl
 |[],y::b,_,_,h=>by have:=(h y).mpr cZ;cases this
 |x::a,[],_,_,h=>by have:=(h x).mp cZ;cases this
 |x::a,y::b,ha,hb,h=>by
  have d:=(lW.mp ha).1;have f:=(lW.mp hb).1;have e:x=y:=by
   have i:=(h x).mp cZ;have j:=(h y).mpr cZ;rcases bG.mp i with e | i
   .show e
   .rcases bG.mp j with e | j
    .show e.symm
    .have:=d y j;have:=f x i;lia
  subst e;rw[Ct (lW.mp ha).2 (lW.mp hb).2 λz=>?_];constructor
  .intro g;rcases bG.mp ((h z).mp (du _ g))with e | c
   .have:=d z g;lia
   .show c
  .intro g;rcases bG.mp ((h z).mpr (du _ g))with e | c
   .have:=f z g;lia
   .show c
def Tx(n:Nat):(gG n).Pairwise (·<·):=Ef
def Cu:∀{l:List Int},l.Pairwise (·<=·)->l.Nodup->l.Pairwise (·<·)
 |[],_,_=> .nil
 |x::l,h,d=>by have b:=lW.mp h;have a:=mU.mp d;show lW.mpr ⟨λy c=>?_,Cu b.2 a.2⟩;have:=b.1 y c;have:x≠y:=λe=>a.1 (e▸c);lia
def UU{l:List Int}{ns:List Nat}(h:l.Pairwise (·<=·))(d:l.Nodup)(f:ns.Pairwise (·<·))(c:∀x:Int,x∈l↔∃n∈ns,x=(n:Int)):l=ns.map λ(n:Nat)=>(n:Int):=by
 have r:=Cu h d;have e:l=(l.map Int.toNat).map λ(n:Nat)=>(n:Int):=by
  rw[gd]
  conv=>lhs;rw[<-List.map_id l]
  show oT λx g=>?_;obtain⟨n,_,e⟩:=(c x).mp g;show x=((x.toNat:Nat):Int);lia
 rw[e];congr 1;show Ct ?_ f λx=>?_
 .rw[qv];show r.imp_of_mem λ{a b} j o k=>?_;obtain⟨n,_,i⟩:=(c a).mp j;obtain⟨m,_,q⟩:=(c b).mp o;lia
 .rw[dM];constructor
  .rintro⟨y,p,rfl⟩;obtain⟨n,f,i⟩:=(c y).mp p;have:y.toNat=n:=QA;rw[this];show f
  .intro g;show⟨(x:Int),(c _).mpr ⟨x,g,rfl⟩,QA⟩
def nG(b:Option (Nat×Answer))(x:Nat×Answer):Option (Nat×Answer):=match b with
 |none=>some x
 |some y=>if y.2.day<=x.2.day then some x else some y
def L7{x y:Nat×Answer}(h:y.1<x.1):(if later y x=true then some x else some y)=(if y.2.day<=x.2.day then some x else some y):=by
 have e:later y x=decide (y.2.day<=x.2.day):=by unfold later;rw[kN];simp[h];lia
 rw[e];by_cases c:y.2.day<=x.2.day<;>simp[c]
def AH:∀(l:File)(b:Option (Nat×Answer)),(∀y,b=some y->∀x∈l,y.1<x.1)->(l.map (·.1)).Pairwise (·<·)->
  l.foldl (λ(b:Option (Nat×Answer)) x=>match b with
   |none=>some x
   |some y=>if later y x=true then some x else some y) b=l.foldl nG b
 |[],_,_,_=>rfl
 |x::l,b,hb,hp=>by
  rw[eD]at hp;have h:=(lW.mp hp).1;have f:=(lW.mp hp).2;have g:∀z∈l,x.1<z.1:=λz a=>h z.1 (List.mem_map_of_mem a);rw[gF,gF];cases b with
  |none=>show AH l (some x) (λy e z a=>by cases e;show g z a) f
  |some y=>
   have d:=hb y rfl x cZ;have c:∀z∈l,y.1<z.1:=λz a=>hb y rfl z (du _ a);show wZ _ (if later y x=true then some x else some y) l=wZ _ (if y.2.day<=x.2.day then some x else some y) l;rw[L7 d];show AH l _ (λz e=>?_) f;split at e
   .cases e;show g
   .cases e;show c
def EX(l:File)(h:(l.map (·.1)).Pairwise (·<·)):best l=l.foldl nG none:=
 AH l none (λ_ e=>by cases e) h
def Ga{l:File}(h:(l.map (·.1)).Pairwise (·<·))(p:Nat×Answer->Bool):((l.filter p).map (·.1)).Pairwise (·<·):=
 List.Pairwise.sublist ((D3).map _) h
end Rt
namespace Rt
open Vblaan
def pJ(x:Option (Nat×Nat))(b:Option Nat):Option Nat:=match x,b with
 |some x,some y=>some (max x.2 y)
 |some x,none=>some x.2
 |none,y=>y
def ka(c:List Sent)(r a:Nat):Option Nat:=(c.filter λs=>s.reader==r).foldl (λb s=>pJ (s.tells.find? λx=>x.1==a) b) none
def wI(h:House)(r a:Nat):told h r a=ka h.sent r a:=rfl
def WI(l:List Sent)(s:Sent)(r a:Nat):ka (l++[s]) r a=if s.reader=r then pJ (s.tells.find? λx=>x.1==a) (ka l r a)else ka l r a:=by
 unfold ka;rw[List.filter_append,ql];by_cases h:s.reader=r
 .rw[QG h,kR,QG (by simp[h])];rfl
 .rw[QH h,kR,QH (by simp[h])];rfl
def DA(n:Nat)(r a:Nat):∀(l:List Sent)(b:Option Nat),(∀s∈l,∀y∈s.tells,y.1<n)->(b.isSome=true->a<n)->
  ((l.filter λs=>s.reader==r).foldl (λb s=>pJ (s.tells.find? λx=>x.1==a) b) b).isSome=true->a<n
 |[],b,_,d,h=>d h
 |s::l,b,hl,d,h=>by
  have c:=λt i=>hl t (du _ i);rw[kR]at h;split at h
  .rw[gF]at h;show DA n r a l _ c (λq=>?_) h;cases e:(s.tells.find? λx=>x.1==a)with
   |none=>rw[e]at q;show d q
   |some y=>
    have f:=Ll e;have g:=List.find?_some e;have j:=hl s cZ y f;have:y.1=a:=by simpa using g
    lia
  .show DA n r a l b c d h
def KW(n:Nat)(r a:Nat)(l:List Sent)(b:∀s∈l,∀y∈s.tells,y.1<n)(h:(ka l r a).isSome=true):a<n:=
 DA n r a l none b (λq=>by cases q) h
def Pn(h:House)(r:Nat)(ks:List Nat)(j:ks.Pairwise (·<·))(c:∀a,a∈ks↔(told h r a).isSome=true)(i:∀s∈h.sent,∀y∈s.tells,y.1<h.answers.length)
  (p:Nat->Bool) (g:∀a∈ks,p a=due h r a):ks.filter p=dueTo h r:=by
 unfold dueTo;show Ct (j.sublist D3) ((Tx _).sublist D3) λa=>?_;rw[ki,ki,r8];constructor
 .rintro⟨d,b⟩;rw[g a d]at b;show⟨KW _ r a h.sent i (by rw[<-wI];show(c a).mp d),b⟩
 .rintro⟨_,b⟩;have f:(told h r a).isSome=true:=by
   unfold due at b;cases e:told h r a with
   |none=>rw[e]at b;simp at b
   |some v=>rfl
  show⟨(c a).mpr f,by rw[g a ((c a).mpr f)];show b⟩
def iB{n k:Nat}(a:0<k)(h:n<10 ^ k):(digits n).length<=k:=by unfold digits;rw[ay,String.length_toList];show(Nat.length_repr_le_iff a).mpr h
def WJ(l:List Nat):trimmed (l++[32])=trimmed l:=by unfold trimmed;rw[List.reverse_append];rfl
def WL{c:Nat}(h:c≠32)(l:List Nat):trimmed (l++[c])=l++[c]:=by unfold trimmed;rw[List.reverse_append];show(List.dropWhile (λc=>c==32) (c::l.reverse)).reverse=_;rw[List.dropWhile_cons,QH (by simp[h])];simp
def KR{α:Type}{l:List α}{n:Nat}{c:α}(h:l[n-1]? =some c)(a:0<n):l.take n=l.take (n-1)++[c]:=by obtain⟨m,rfl⟩:∃m,n=m+1:=⟨n-1,QA⟩;simp only[Nat.add_sub_cancel]at h ⊢;rw[List.take_add_one,h];rfl
def uv{l:List Nat}:∀{ps:List (List Nat)},l∈ps->l.length+1<=wsum ps
 |[],h=>by cases h
 |p::ps,h=>by
  rw[jO];rcases bG.mp h with rfl | h
  .lia
  .have:=uv h;lia
def rM:∀(ps:List (List Nat)),ps.length<=wsum ps
 |[]=>bo _
 |p::ps=>by have:=rM ps;rw[jO,aG];lia
def split_len{b:Nat}{ns l:List Nat}{i:Nat}(h:(bc b ns)[i]? =some l):l.length<=ns.length:=by have:=uv (dD h);rw[pW]at this;lia
def Sy(k j:Nat)(l:List Nat):parts k (j+1) l=parts k j l++[(l.drop (j*k)).take k]:=by unfold parts;rw[xa,fk];rfl
def Sw(k j:Nat)(l:List Nat):(parts k j l).length=j:=by unfold parts;rw[ay,mT]
def Xm(ps:List (List Nat))(i:Nat):wsum (ps.take i)<=wsum ps:=by
 conv=>rhs;rw[<-jQ i ps]
 rw[Lb];lia
def Nv{k:Nat}(a:0<k)(ns:List Nat)(i j:Nat)(l:List Nat)(f:j<=turns l.length k)(g:l.length<=ns.length):
  ((((bc 32 ns).take i).flatMap λw=>parts k (turns w.length k) w)++parts k j l).length<=3*ns.length+2:=by
 rw[aP,Sw];have c:=rM (((bc 32 ns).take i).flatMap λw=>parts k (turns w.length k) w);have d:=Bw a ((bc 32 ns).take i);have b:=Xm (bc 32 ns) i;rw[pW]at b;have e:=DH a l.length;lia
def Nt{k:Nat}(a:0<k)(ns:List Nat):(jX k ns).length<=2*(ns.length+1):=dE (rM _) (FC a ns)
end Rt
namespace Rt
open PySem PySem.SetTable
def nQ(xs:Array Nat):Prop:=∀i k,i<k->k<xs.size->xs.getD i 0<xs.getD k 0
def AG{xs:Array Nat}(g:nQ xs)(j:Nat):∀(f lo hi:Nat),hi-lo<=f->lo<=hi->hi<=xs.size->(∀k,k<lo->xs.getD k 0<j)->(∀k,hi<=k->k<xs.size->j<=xs.getD k 0)->
  ∃m,below.go xs j f lo hi=m/\m<=xs.size/\(∀k,k<m->xs.getD k 0<j)/\∀k,m<=k->k<xs.size->j<=xs.getD k 0
 |0,lo,hi,n,o,l,b,d=>⟨lo,by rw[below.go],QA,b,λk i a=>d k QA a⟩
 |f+1,lo,hi,n,o,l,b,d=>by
  rw[below.go];by_cases h:lo<hi
  .rw[QG h];dsimp only;have r:(lo+hi) / 2<hi:=QA;have p:lo<=(lo+hi) / 2:=QA;have e:xs.getD ((lo+hi) / 2) j=xs.getD ((lo+hi) / 2) 0:=by rw[uw,uw,dif_pos QA,dif_pos QA]
   rw[e];by_cases c:xs.getD ((lo+hi) / 2) 0<j
   .rw[QG c];show AG g j f _ hi QA QA l (λk i=>?_) d;by_cases q:k=(lo+hi) / 2
    .rw[q];show c
    .show xi (g k ((lo+hi) / 2) QA QA) c
   .rw[QH c];show AG g j f lo _ QA QA QA b (λk i a=>?_);by_cases q:k=(lo+hi) / 2
    .rw[q];lia
    .have:=g ((lo+hi) / 2) k QA a;lia
  .rw[QH h];show⟨lo,rfl,QA,b,λk i a=>d k QA a⟩
def xM{xs:Array Nat}(b:nQ xs)(j:Nat):below xs j<=xs.size/\(∀k,k<below xs j->xs.getD k 0<j)/\∀k,below xs j<=k->k<xs.size->j<=xs.getD k 0:=by obtain⟨m,e,h⟩:=AG b j xs.size 0 xs.size QA (cT _) (bo _) (λk a=>absurd a (xl _)) (λk a c=>QA);have e:below xs j=m:=e;rw[e];show h
def TF:nQ #[]:=λi k _ h=>absurd h (xl _)
def TK(n:Nat):nQ (Array.range n):=λi k a b=>by rw[DU]at b;rw[uw,uw,dif_pos (by rw[DU];lia),dif_pos (by rw[DU];lia)];simp;show a
def vF(xs:Array Nat)(i:Nat):xs.getD i 0=xs.toList.getD i 0:=by rw[kS,oM,Array.getD_eq_getD_getElem?]
def TH{l:List Nat}(h:l.Pairwise (·<·)):nQ l.toArray:=λi k b a=>by rw[fg]at a;rw[vF,vF,List.toList_toArray,kS,kS,dA QA,dA a];show List.pairwise_iff_getElem.mp h i k QA a b
def TJ{xs:Array Nat}(f:nQ xs){j:Nat}(o:∀k,k<xs.size->xs.getD k 0≠j):nQ (insertAt xs (below xs j) j):=by
 obtain⟨v,h,l⟩:=xM f j;generalize below xs j=p at *;have u:(insertAt xs p j).size=xs.size+1:=by rw[<-gW,toList_insertAt];simp;lia
 have n:∀k,(insertAt xs p j).getD k 0=if k<p then xs.getD k 0 else if k=p then j else xs.getD (k-1) 0:=λk=>by
  rw[vF,toList_insertAt,kS];have s:(xs.toList.take p).length=p:=by rw[ff,gW];lia
  by_cases c:k<p
  .rw[QG c,w4 QA,Lf c,<-kS,<-vF]
  .rw[QH c,rY QA,s];by_cases q:k=p
   .rw[QG q,q,mV];rfl
   .rw[QH q];obtain⟨m,t⟩:∃m,k-p=m+1:=⟨k-p-1,QA⟩;rw[t,d4,w6,<-kS,<-vF,show p+m=k-1 by lia]
 intro i k e r;rw[u]at r;rw[n,n];by_cases a:i<p
 .rw[QG a];by_cases b:k<p
  .rw[QG b];show f i k e QA
  .rw[QH b];by_cases d:k=p
   .rw[QG d];show h i a
   .rw[QH d];have:=h i a;have:=l (k-1) QA QA;lia
 .rw[QH a];have b:¬k<p:=QA;have d:¬k=p:=QA;rw[QH b,QH d];by_cases g:i=p
  .rw[QG g];have:=l (k-1) QA QA;have:=o (k-1) QA;lia
  .rw[QH g];show f (i-1) (k-1) QA QA
def UR{t:SetTable}(d:nQ t.place){j:Nat}(h:t.slot j= .empty):∀k,k<t.place.size->t.place.getD k 0≠j:=by
 intro k a e;obtain⟨l,g,i⟩:=xM d j;unfold SetTable.slot at h;dsimp only at h;have b:below t.place j=k:=by
  apply Classical.byContradiction;intro c;rcases Nat.lt_or_gt_of_ne c with q | q
  .have:=i (below t.place j) (bo _) QA;have:=d (below t.place j) k q a;lia
  .have:=g k q;lia
 rw[b]at h;have f:t.place[k]? =some j:=by rw[uw,dif_pos a]at e;rw[rN a];show congrArg some e
 rw[f]at h;simp at h
structure Tab(t:SetTable)(led:Bool):Prop where
 rise:nQ t.place
 none:t.dummies=#[]
 led:t.led=led
def Gm(j:Nat):has #[] j=false:=by unfold has;simp
def Ib{t:SetTable}(b:t.dummies=#[])(a:Nat->Int)(h:Int):∀(f:Nat)(p:Probe)(j:Nat)(d:Option Nat),p.dummy=none->SetTable.probe.go t a h f p=some (.empty j d)->d=none/\t.slot j= .empty
 |0,p,j,d,_,e=>by rw[SetTable.probe.go]at e;cases e
 |f+1,p,j,d,hd,e=>by
  rw[SetTable.probe.go]at e;cases q:t.slot p.j with
  |empty=>
   rw[q]at e;have c:Met.empty p.j p.dummy=Met.empty j d:=df.inj e;injection c with e1 e2
   show⟨by rw[<-e2];show hd,by rw[<-e1];show q⟩
  |dummy=>
   exfalso;unfold SetTable.slot at q;dsimp only at q;rw[b,Gm]at q;split at q
   .cases q
   .simp at q
  |live i=>
   rw[q]at e;dsimp only at e;split at e
   .cases e
   .show Ib b a h f _ j d ?_ e;unfold SetTable.advance;split
    .show hd
    .show hd
def zh{t:SetTable}{a:Bool}(h:Tab t a)(n:Nat):Tab (t.standIn n) a:=⟨TK n,rfl,h.led⟩
def QS{t:SetTable}{b:Bool}(T:Tab t b)(es:Array (Int×af))(h:Int)(x:af):Tab (layNew t es h x).2.1 b:=by
 unfold layNew;cases q:t.freeSlot h with
 |none=>show zh T _
 |some r=>
  obtain⟨slot,k⟩:=r;have a:t.slot slot= .empty:=by
   unfold SetTable.freeSlot at q;cases c:t.probe (λ_=>h+1) h (t.probeStart h)with
   |none=>rw[c]at q;cases q
   |some m=>
    rw[c]at q;cases m with
    |candidate _ _ _=>cases q
    |empty j d=>obtain⟨f,g⟩:=Ib T.none _ _ _ _ j d rfl c;subst f;have i:some (j,false)=some (slot,k):=q;cases i;show g
  dsimp only;have e:Tab (t.put slot).1 b:=by show⟨TJ T.rise (UR T.rise a),?_,T.led⟩;show(if has t.dummies slot then _ else t.dummies)=#[];rw[T.none,Gm];rfl
  unfold SetTable.orStandIn;split
  .show e
  .show zh e _
def PD(f:Nat->Option Nat)(n:Nat):(((gG n).filterMap λj=>(f j).map (j,·)).map (·.1)).Pairwise (·<·):=by
 rw[List.map_filterMap];rw[List.pairwise_filterMap];show Ef.imp λ{a b} e x c y d=>?_;cases g:f a with
 |none=>rw[g]at c;cases c
 |some u=>
  cases h:f b with
  |none=>rw[h]at d;cases d
  |some v=>rw[g]at c;rw[h]at d;cases c;cases d;show e
def TC{t:SetTable}{a:Bool}(T:Tab t a)(es:Array (Int×af))(n:Nat):Tab (relayAll t es n).2.1 a:=by
 unfold relayAll;cases q:t.relaid (es.map (·.1)) n with
 |none=>show zh T _
 |some r=>
  obtain⟨d,order⟩:=r;dsimp only;split
  .unfold SetTable.relaid SetTable.laid at q;cases b:layClean (sizeAbove n-1) (es.map (·.1))with
   |none=>rw[b]at q;cases q
   |some owner=>
    rw[b]at q;have c:=df.inj q;injection c with e1 e2
    subst e1;show⟨TH (PD (λj=>owner.getD j none) _),rfl,T.led⟩
  .show zh T _
end Rt
namespace Rt
open PySem PySem.Spec PyProof.Rows
open PySem (intKind)
abbrev gQ(w:aC):Bool:=w.params.followText "set-order"
def mr(l:List (Int×af)):List Int:=l.map λe=>match e.2 with
 |.int i _=>i
 |_=>0
section
variable {prog:aE}{w:aC}
def F0{l:List (Int×af)}(c:ElemsOf (km prog w) l){e:Int×af}(a:e∈l):∃k t,e.2=Value.int k t:=by obtain⟨⟨k,b,_⟩,_⟩:=c e a;obtain⟨t,d⟩:=Value.isInt_shape b;show⟨k,t,d⟩
def GJ{l:List (Int×af)}(d:ElemsOf (km prog w) l)(k:Int):k∈mr l↔∃e∈l,(km prog w).is k e.2=true:=by
 unfold mr;rw[dM];constructor
 .rintro⟨e,a,rfl⟩;obtain⟨j,t,b⟩:=F0 d a;show⟨e,a,by rw[b];show intKind_is _ _ _ _⟩
 .rintro⟨e,a,c⟩;obtain⟨t,b⟩:=Value.isInt_shape c;show⟨e,a,by rw[b]⟩
def jz(prog:aE)(w:aC)(h:aH)(a:ab)(ns:List Int):Prop:=∃o b c t,h.get? a=some o/\o.ExactSet/\o.data= .set b c t/\ElemsOf (km prog w) b.toList/\b.size<scanBound/\t.fits b.size=true/\Tab t (!gQ w)/\(mr b.toList).Perm ns
def jz.keep{h h':aH}{a:ab}{ns:List Int}(x:jz prog w h a ns)(k:∀o,h.get? a=some o->h'.get? a=some o):jz prog w h' a ns:=by obtain⟨o,c,b,t,e,r⟩:=x;show⟨o,c,b,t,k o e,r⟩
def GK{l a:List (Int×af)}(p:l.Perm a):(mr l).Perm (mr a):=p.map _
def Kk{h:aH}{a:ab}{o:Obj}{es b:Array (Int×af)}{ep:Nat}{t t':SetTable}{ns:List Int}(k:h.get? a=some o)(l:o.ExactSet)(c:o.data= .set es ep t)
  (d:ElemsOf (km prog w) b.toList) (e:b.size<scanBound) (f:t'.fits b.size=true) (i:Tab t' (!gQ w)) (j:(mr b.toList).Perm ns):
  (h.update a (Obj.putSet b t')).get? a=some {o with data:= .set b (ep+1) t'}/\jz prog w (h.update a (Obj.putSet b t')) a ns:=by
 have g:(h.update a (Obj.putSet b t')).get? a=some {o with data:= .set b (ep+1) t'}:=by have q:=zD (Obj.putSet b t') k (by rw[putSet_of b t' c];rfl);rwa[putSet_of b t' c]at q
 show⟨g,_,b,ep+1,t',g,l,rfl,d,e,f,i,j⟩
variable {A:dj}{E:af->ao->Prop}{s:ao}
def KQ{g:Bool->Sem Unit}(F:∀(b:Bool)(y:ao)(l:Unit->ao->Prop),l () y->aM (model prog w) A (g b) l E y){a:ab}{o:Obj}{es c:Array (Int×af)}{ep:Nat}{t d:SetTable}{ns:List Int}
  (v:s.heap.get? a=some o) (x:o.ExactSet) (u:o.data= .set es ep t) (n:ElemsOf (km prog w) c.toList) (e:c.size<scanBound) (D:d.fits c.size=true) (q:Tab d (!gQ w)) (r:(mr c.toList).Perm ns) {G:Bool}{R:Option Bool->ao->Prop}
  (h:∀j,mO a s.heap j->jz prog w j a ns->R (some true) {s with heap:=j}):
  aM (model prog w) A (do
   storeSet a c d
   if(!G&&d.tooFull)=true then do
      g (relayAll d c (SetTable.grown c.size)).2.2
      storeSet a (relayAll d c (SetTable.grown c.size)).1 (relayAll d c (SetTable.grown c.size)).2.1
      pure (some true)
    else pure (some true)) R E s:=by
 obtain⟨g1,B⟩:=Kk (prog:=prog) (w:=w) v x u n e D q r;have m:=DY s.heap a (Obj.putSet c d);show aN (wpAny_storeSet_of v u ?_ (fits_of_scanBound e));split
 .have p:=relayAll_perm d c (SetTable.grown c.size);have i:=relayAll_fits d c (SetTable.grown c.size);have k:=TC q c (SetTable.grown c.size);generalize relayAll d c (SetTable.grown c.size)=Z at p i k ⊢;obtain⟨f,I,H⟩:=Z;dsimp only at p i k ⊢;have z:f.size=c.size:=by rw[<-gW,p.length_eq,gW]
  obtain⟨_,C⟩:=Kk (prog:=prog) (w:=w) (ns:=ns) g1 x rfl (n.perm p) (by rw[z];show e) i k ((GK p).trans r);show aN (F _ _ _ (aN (wpAny_storeSet_of g1 rfl ?_ (fits_of_scanBound (by rw[z];show e)))));show bD (h _ (m.trans (DY _ a _)) C)
 .show bD (h _ m B)
def LR{a:ab}{ns:List Int}{k:Int}{tk:Tok}{Q:Bool->ao->Prop}(L:jz prog w s.heap a ns)(H:ns.length+1<scanBound)
  (h:∀c b,mO a s.heap c->jz prog w c a (if k∈ns then ns else ns++[k])->Q b {s with heap:=c}):aM (model prog w) A (setAddHashed a (.int k tk) ((km prog w).hash k)) Q E s:=by
 obtain⟨o,f,K,t,r,D,hd,d,G,z,T,u⟩:=L;have g:=intKind_is prog w k tk;have i:f.size=ns.length:=by have:=u.length_eq;unfold mr at this;rwa[ay,gW]at this
 unfold setAddHashed setAddHashedIn;show uq (aN (wQ r hd z ?_));dsimp only;rw[byScan_of (x:= .int k tk) rfl G d];simp only[if_true];unfold setAddByScan;show aN (aN (wpAny_rule (aN (wpAny_setScan_of g r hd z d ?_))));cases q:f.toList.findIdx? (λe=>(km prog w).is k e.2)with
 |some j=>obtain⟨O,C,_⟩:=List.findIdx?_eq_some_iff_getElem.mp q;have B:k∈ns:=u.mem_iff.mp ((GJ d k).mpr ⟨_,List.getElem_mem O,C⟩);dsimp only;show bD (bD ?_);have:=h s.heap false (mO.refl a s.heap) (by rw[QG B];show⟨o,f,K,t,r,D,hd,d,G,z,T,u⟩);show this
 |none=>
  have B:¬k∈ns:=λP=>by obtain⟨e,M,N⟩:=(GJ d k).mp (u.mem_iff.mpr P);have:=List.findIdx?_eq_none_iff.mp q e M;rw[N]at this;cases this
  dsimp only;have n:=layNew_perm t f ((km prog w).hash k) (.int k tk);have lf:=layNew_fits t f ((km prog w).hash k) (.int k tk);have lt:=QS T f ((km prog w).hash k) (.int k tk);generalize layNew t f ((km prog w).hash k) (.int k tk)=Z at n lf lt ⊢;obtain⟨l,U,V,R⟩:=Z;dsimp only at n lf lt ⊢;rw[Array.toList_push]at n;have F:ElemsOf (km prog w) l.toList:=(d.push g rfl).perm n;have J:l.size=f.size+1:=by rw[<-gW,n.length_eq,aP,gW];rfl
  have I:(mr l.toList).Perm (ns++[k]):=by show(GK n).trans ?_;unfold mr;rw[fk];show u.append (rT _)
  have fin:∀c,mO a s.heap c->jz prog w c a (ns++[k])->Q true {s with heap:=c}:=λc b S=>h c true b (by rw[QH B];show S);have y:∀(b:Bool){v:ao}{p:Unit->ao->Prop},p () v->aM (model prog w) A (match b with | true=>rule "set.scan.the-table-gave-way" | false=>pure ()) p E v:=λb v p m=>by
   cases b
   .show bD m
   .show wpAny_rule m
  show aN (y _ ?_);split
  .show aN ?_;rw[hashByValue_scannable 8 (x:= .int k tk) rfl];show bD ?_;show KQ ?_ r D hd F (by rw[J,i];show H) ?_ ?_ I ?_
   .intro b v p m;show y b m
   .show lf
   .show lt
   .intro c b S;show bD (fin c b S)
  .show aN (bD ?_);simp only[if_true];show KQ ?_ r D hd F (by rw[J,i];show H) lf lt I ?_
   .intro b v p m;show y b m
   .intro c b S;show bD (fin c b S)
end
end Rt
namespace Rt
open PySem PySem.Spec PyProof.Rows
def dd(ns:List Int)(k:Int):List Int:=if k∈ns then ns else ns++[k]
def Pd(ns:List Int)(k:Int):(dd ns k).length<=ns.length+1:=by
 unfold dd;split
 .lia
 .rw[aP];show bo _
def A2:∀(l ns:List Int),(l.foldl dd ns).length<=ns.length+l.length
 |[],ns=>bo _
 |k::l,ns=>by have a:=A2 l (dd ns k);have b:=Pd ns k;rw[gF,aG];lia
def Pf{ns:List Int}(h:ns.Nodup)(k:Int):(dd ns k).Nodup:=by
 unfold dd;split
 .show h
 .rename_i f;show w9.mpr ⟨h,QD,λa c b d=>by rw[iw.mp d];show λe=>f (e▸c)⟩
def FH:∀(l ns:List Int),ns.Nodup->(l.foldl dd ns).Nodup
 |[],_,h=>h
 |k::l,ns,h=>FH l _ (Pf h k)
def Pe(ns:List Int)(k x:Int):x∈dd ns k↔x∈ns\/x=k:=by
 unfold dd;split
 .rename_i h;show⟨.inl,λq=>q.elim id λe=>e▸h⟩
 .simp
def FG:∀(l ns:List Int)(x:Int),x∈l.foldl dd ns↔x∈ns\/x∈l
 |[],ns,x=>QD
 |k::l,ns,x=>by rw[gF,FG l,Pe,bG];show⟨λq=>q.elim (λq=>q.elim .inl λe=> .inr (.inl e)) λq=> .inr (.inr q),λq=>q.elim (λq=> .inl (.inl q)) λq=>q.elim (λe=> .inl (.inr e)) .inr⟩
def mI(a:Nat->Int)(i:Nat):List Int:=((gG i).map a).foldl dd []
def W4(a:Nat->Int)(i:Nat):mI a (i+1)=dd (mI a i) (a i):=by unfold mI;rw[xa,fk,ql];rfl
def W3(a:Nat->Int)(i:Nat):(mI a i).length<=i:=by have:=A2 ((gG i).map a) [];rwa[ay,mT,dC,Em]at this
section
variable {prog:aE}{w:aC}{A:dj}{R:Result->ao->Prop}{I:ab}{fp wr:List ab}{G:Array GenState->Array GenState->Prop}{n:Nat}{P:Nat->af->Prop}{St:Nat->ao->Prop}
def Q3(W:WalksS prog w A.in1 I fp wr G n P St)(S:ab)(f:S∉fp)(a:Nat->Int)(j:∀i v,P i v->∃t,v= .int (a i) t)(Q:n+1<scanBound):
  ∀(k i:Nat)(s:ao),n-i=k->i<=n->St i s->jz prog w s.heap S (mI a i)->(∀d,Moved (S::wr) G s d->jz prog w d.heap S (mI a n)->R (.ok (.ret .none)) d)->
   codeAny (model prog w) A (.builtin "set.update.loop" ⟨[.ref S,.ref I],[]⟩) R s:=by
 have g:S∉wr:=λq=>f (W.sub _ q);intro k;induction k with
 |zero=>intro i s L K y r p;obtain rfl:i=n:=QA;show pB Lq ?_;rw[Around.under_plainId Eu _];show aN (W.done s _ _ y λd l=>?_);show bD (p d (l.mono λb q=>du _ q) (r.keep λo e=>l.heap S o g e))
 |succ k M=>
  intro i s L K y r p;show pB Lq ?_;rw[Around.under_plainId Eu _];show aN (W.item i s _ _ QA y λv d J z l=>?_);obtain⟨t,rfl⟩:=j i v J;have u:=r.keep λo e=>l.heap S o g e;show aN (uq ?_);unfold setAdd;show uq (aN ((km prog w).pyHash (k:=a i) (intKind_is _ _ _ _) ?_));have T:=W3 a i;show LR (s:={d with toks:=d.toks+1}) u QA λB b O C=>?_;have D:jz prog w B S (mI a (i+1)):=by rw[W4];show C
  have m:∀c o,c≠S->d.heap.get? c=some o->B.get? c=some o:=λc o h e=>by rw[O.2 c h];show e
  show bD ⟨vY Eu _,M (i+1) _ QA QA (W.frame _ d _ _ z (nN _) λc h o e=>m c o (λq=>f (q▸h)) e) D λN x H=>?_⟩;show p N (Moved.trans W.gtrans ((l.mono λb q=>du _ q).then_heap (nN _) λc o h e=>m c o (λq=>h (q▸cZ)) e) x) H
end
section
variable {prog:aE}{w:aC}{A:dj}{E:af->ao->Prop}{s:ao}
def Rj(a:af){Q:af->ao->Prop}
  (h:Q (.ref s.heap.objs.size) {s with heap:=s.heap.push {cls:= .type "set",dict:=none,data:= .set #[] 0 (.fresh 0 0 (!gQ w))}}):codeAny (model prog w) A (.call (.builtin "set.__new__") ⟨[.type "set",a],[]⟩) (wants Q E) s:=by
 show codeAny_of_tree ?_;show aM _ A.in1 (checkBuiltinCall "set.__new__" ⟨[.type "set",a],[]⟩ >>= λ_=>again (.builtin "set.__new__" ⟨[.type "set",a],[]⟩)) _ _ s;show aN (wpAny_of_eq (PySem.F.newCall_set_1 a) (bD ⟨vY LA _,pB PySem.F.entry_set_new ?_⟩));rw[Around.under_plainId LA _];unfold Builtin.«set.__new__» Builtin.Frozenset.newClass;have b:=sub_set_self;obtain⟨c,g,d,e,os⟩:=s;dsimp only
 wp_walk
 show wpAny_askSetting (bD ?_);dsimp only;simp only[newObj];show aN (wpAny_alloc (bD (bD h)))
end
end Rt
namespace Rt
open PySem PySem.Spec PyProof.Rows
section
variable {prog:aE}{w:aC}{A:dj}{E:af->ao->Prop}{s:ao}
def PX(h:aH):jz prog w (h.push {cls:= .type "set",dict:=none,data:= .set #[] 0 (.fresh 0 0 (!gQ w))}) h.objs.size []:=
 ⟨_,#[],0,_,fj _ rfl,⟨rfl,rfl,rfl⟩,rfl,λe a=>absurd a QD,QB,rfl,⟨TF,rfl,rfl⟩,rT _⟩
def MT{l:ab}{a:Array af}{ns:List Int}{Q:af->ao->Prop}(hh:A.handled=none)(hl:s.heap.IsList l a)(hi:nI a.toList ns)(p:a.size+1<scanBound)
  (h:∀(h':aH)(tk:Nat),jz prog w h' s.heap.objs.size (mI (λi=>ns.getD i 0) a.size)->(∀b o,b<s.heap.objs.size->s.heap.get? b=some o->h'.get? b=some o)->Q (.ref s.heap.objs.size) {s with heap:=h',toks:=tk}):
  aM (model prog w) A (call (.type "set") [.ref l]) Q E s:=by
 obtain⟨c,tl,K⟩:=PySem.F.called_set.mro;have z:=PySem.F.called_set.made;have L:=PySem.F.called_set.sub;have h1:=PySem.F.called_set.notType;have h2:=PySem.F.called_set.canCreate;have Z:=PySem.F.typeCall_set_1 (.ref l);show wpAny_call (codeAny_of_tree ?_);show aM _ _ (callAny (.type "set") _) _ _ _;show bD ⟨Code.quiet_builtin _ QC,pB PySem.F.entry_type_call ?_⟩;rw[Around.under_plain (weight_type_call_type "set" [.ref l] []) rfl]
 repeat (any_goals (first | assumption | wp_step))
 show sR (Rj (.ref l) (E:=E) (Q:=λobj M=>obj= .ref s.heap.objs.size/\M={s with heap:=s.heap.push {cls:= .type "set",dict:=none,data:= .set #[] 0 (.fresh 0 0 (!gQ w))}}) ⟨rfl,rfl⟩) λr M m=>?_;cases r with
 |error e=>show m
 |ok U=>
  cases U with
  |next=>show m.elim
  |brk=>show m.elim
  |cont=>show m.elim
  |ret obj=>
   obtain⟨rfl,rfl⟩:=m;have O:=PX (prog:=prog) (w:=w) s.heap;have X:Shared.TypeIs {s with heap:=s.heap.push {cls:= .type "set",dict:=none,data:= .set #[] 0 (.fresh 0 0 (!gQ w))}} (.ref s.heap.objs.size) "set":=⟨_,fj _ rfl,rfl⟩;have hS:(s.heap.push {cls:= .type "set",dict:=none,data:= .set #[] 0 (.fresh 0 0 (!gQ w))}).get? s.heap.objs.size=some {cls:= .type "set",dict:=none,data:= .set #[] 0 (.fresh 0 0 (!gQ w))}:=fj _ rfl;have a0:=PySem.F.called_set.init.lookup;have Y:=PySem.F.called_set.init.bind (.ref s.heap.objs.size)
   repeat (any_goals (first | assumption | wp_step))
   show sR (Fx (R:=wants (λr N=>r= .none/\∃h' tk,N={s with heap:=h',toks:=tk}/\jz prog w h' s.heap.objs.size (mI (λi=>ns.getD i 0) a.size)/\∀b o,b<s.heap.objs.size->s.heap.get? b=some o->h'.get? b=some o) E) PySem.F.called_set.init.plain PySem.F.entry_set_init (check_set_init_1 X ?_)) λr2 N d=>?_
   .have y:=hl;obtain⟨ol,k,f,nl,g⟩:=y;obtain⟨oc,od,a3,C⟩:=ol;simp only at f g;subst f;subst g;have j:l<s.heap.objs.size:=dU k;have W:(s.heap.push {cls:= .type "set",dict:=none,data:= .set #[] 0 (.fresh 0 0 (!gQ w))}).get? l=some {cls:= .type "list",dict:=od,data:= .seq a nl,slots:=C}:=ed _ k;have J:(s.heap.push {cls:= .type "set",dict:=none,data:= .set #[] 0 (.fresh 0 0 (!gQ w))}).IsList l a:=⟨_,W,rfl,nl,rfl⟩;have n1:=PySem.F.sub_list_set;have n2:=PySem.F.sub_list_frozenset;have n3:(Value.type "list"==Value.type "dict")=false:=QB;unfold Builtin.«set.__init__» noKeywords Builtin.Frozenset.updateFrom;generalize x:pyIter=PI
    wp_walk
    subst x;show wO J (aN (wpAny_runValue ?_));have H:(s.heap.push {cls:= .type "set",dict:=none,data:= .set #[] 0 (.fresh 0 0 (!gQ w))}).objs.size=s.heap.objs.size+1:=iH _ _;have T:l≠(s.heap.push {cls:= .type "set",dict:=none,data:= .set #[] 0 (.fresh 0 0 (!gQ w))}).objs.size:=by rw[H];show eU (xh j)
    show Q3 (Walks.list (A:=A.in1.in1.in1) (by simp[hh]) _ l T a).toS s.heap.objs.size ?_ (λi=>ns.getD i 0) (λi v hv=>IntsAre.int_at hi i v (by rw[oM];show hv)) p a.size 0 _ QA (cT _) ⟨⟨_,fj _ rfl,rfl,rfl⟩,J.push _⟩ ?_ ?_
    .rw[H];simp only[bG,gz,or_false,not_or];show⟨eU (kW _),oX j⟩
    .show O.keep λo e=>ed _ e
    .intro s' q t;obtain⟨h',V,S,D,B⟩:=s';obtain rfl:V=s.gens:=q.gens;obtain rfl:S=s.drawn:=q.drawn;obtain rfl:B=s.os:=q.os;show bD (bD ⟨rfl,h',D,rfl,t,λb o p e=>?_⟩);show q.heap b o ?_ (ed _ (ed _ e));simp only[bG,gz,or_false,not_or];show⟨eU p,by rw[H];show eU (xh p)⟩
   .cases r2 with
    |error e=>show d
    |ok u=>
     cases u with
     |next=>show d.elim
     |brk=>show d.elim
     |cont=>show d.elim
     |ret r=>
      obtain⟨rfl,h',tk,rfl,t,k1⟩:=d
      repeat (any_goals (first | assumption | wp_step))
      show h _ _ t k1
end
end Rt
namespace L2
open PySem PySem.Spec PyProof.Rows
section
variable {prog:aE}{w:aC}{A:dj}{E:af->ao->Prop}{s:ao}{T:String}{r d:ab}{n:Nat}{P:Nat->af->Prop}{OK:aH->Prop}
def Qr{Q:List af->ao->Prop}(S:PySem.W.KdlSrc prog w T r d n P OK)(y:A.handled=none)(t:OK s.heap)(B:n<=dc)
  (x:∀i p g,(∀b o,s.heap.get? b=some o->i.get? b=some o)->s.heap.objs.size<=i.objs.size->ItemsOf P g n->Q g.toList {s with heap:=i,toks:=p}):aM (model prog w) A (collect (.ref r)) Q E s:=by
 unfold collect;show aN (wpAny_runValue ?_);generalize q:(λ(r:Result) (u:ao)=>match r with
  |.ok (.ret v)=>aM (model prog w) A (match v with
    |.ref a=>do
     let o <-load a
     match o.data with
     |.seq C _=>pure C.toList
     |_=>unsupported "internal:collect"
    |_=>unsupported "internal:collect") Q E u
  |.ok _=>False
  |.error e=>E e u)=R
 have f:codeAny (model prog w) A (.builtin "proto.collect" ⟨[.ref r],[]⟩) R s:=by show pB Lw ?_;rw[Around.under_plainId Lz _];show aM _ A.in1 (newList [] >>= λl=>again (.builtin "list.__iadd__" ⟨[l,.ref r],[]⟩)) _ _ s;show aN (ur ?_);show bD ⟨vY Ak _,pB Lv ?_⟩;rw[Around.under_plainId Ak _];have m:=S.there _ t;show PySem.W.kdl_extend (s:={s with heap:=s.heap.push {cls:= .type "list",data:= .seq #[]}}) (c₀:=0) S y (S.keep _ _ t λb _ o e=>ed _ e) _ (oX m.1) (oX m.2) _ (fj _ rfl) (λi p h D z j k=>?_) B;subst q;show aM _ A (load s.heap.objs.size >>= _) _ _ _;show aN (wpAny_load j ?_);show bD (x i p h (λb o e=>z b o (eU (dU e)) (ed _ e)) (sg (dU j)) k)
 subst q;show f
end
def Inv.drew{X:Cx}{pins:List (ab×Obj)}{σ:St}{H:Hp}{s:ao}(I:Inv X pins σ H s)(d:Drawn):Inv X pins σ H {s with drawn:=d}:=
 I.call (h':=s.heap) (g':=s.gens) (d':=d) (t':=s.toks) (ch:= []) Un.refl I.aA I.bare λb z=>absurd z QD
def Kp{prog:aE}{w:aC}{A:dj}{E:af->ao->Prop}{s:ao}{v:af}{Q:af->ao->Prop}{F:List Int->Prop}
  (B:∀(C:List af->ao->Prop),(∀a i (vs:List af) (ns:List Int),(∀b o,s.heap.get? b=some o->a.get? b=some o)->s.heap.objs.size<=a.objs.size->nI vs ns->F ns->vs.length<64->∀d,C vs {s with heap:=a,drawn:=d,toks:=i})->aM (model prog w) A.in1 (collect v) C E s)
  (h:∀a i (p:ab) (n:Nat) (out:List af) (ns c:List Int),(∀b o,s.heap.get? b=some o->a.get? b=some o)->s.heap.objs.size<=p->a.get? p=some {cls:= .type "list",data:= .seq out.toArray n}->nI out c->F ns->ns.length<64->c.Perm ns->c.Pairwise (·<=·)->∀d,Q (.ref p) {s with heap:=a,drawn:=d,toks:=i}):
  aM (model prog w) A (call (.builtin "sorted") [v]) Q E s:=by
 show Calls.call_function_entry kind_sorted plain_sorted entry_sorted (args_sorted1 _) ?_;unfold Builtin.«sorted»;show aN (m:=checkCount "sorted" 1 1 _) (bD ?_);show aN (B _ λa i vs ns k l q z g d=>?_);show aN (wpAny_newList ?_);have f:(a.push (seqObj "list" vs.toArray 0)).get? a.objs.size=some (seqObj "list" vs.toArray 0):=fj _ rfl;show aN (uq (p8 slot_list_sort ⟨_,f,rfl⟩ entry_list_sort (list_sort_tree f q g λout c t u x=>⟨_,rfl,?_⟩) (args_list_sort _)));show bD ⟨_,rfl,?_⟩;obtain⟨y,j⟩:=sortedHeap_at (vs:=vs) (out:=out) f;show h _ i a.objs.size y out.toList ns c (λb o e=>by rw[sortedHeap_old (eU (dU (k b o e))) (dU (ed _ (k b o e)))];show ed _ (k b o e)) l j t z (by rw[<-q.length];show g) u x d
section
variable {X:Cx}
def GD:∀{vs:List af}{ns:List Int},vs.length=ns.length->(∀(i:Nat) v,vs[i]? =some v->∃n t,ns[i]? =some n/\v=Value.int n t)->nI vs ns
 |[],[],_,_=> .nil
 |[],_::_,h,_=>by cases h
 |_::_,[],h,_=>by cases h
 |v::vs,n::ns,hl,h=>by obtain⟨m,t,a,b⟩:=h 0 v rfl;have a:n=m:=df.inj a;subst a;subst b;show .cons n t (GD (Nat.succ.inj hl) λi e c=>h (i+1) e c)
def QM{P:aE}{w:aC}{vs:List (Key×af)}{ns:List Int}(g:vs.map (·.1)=ns.map Sum.inl){acc:Array af}(h:ItemsOf (λi v=>∃k x,vs[i]? =some (k,x)/\(fQ P w).is k v=true) acc vs.length):nI acc.toList ns:=by
 have q:vs.length=ns.length:=by have:=congrArg uC g;rwa[ay,ay]at this
 show GD (by rw[gW,h.1,q]) λi v m=>?_;rw[oM]at m;show eB (h.2 i v m) λk x e p=>?_;have a:=congrArg (λl=>l[i]?) g;simp only[eP,e,xo]at a;cases f:ns[i]? with
 |none=>rw[f]at a;cases a
 |some n=>
  rw[f]at a;have o:k=Sum.inl n:=df.inj a;subst o;rcases mw (show oj (Sum.inl n) v=true from p)with⟨j,t,b,c⟩ | ⟨y,t,b,c⟩
  .cases b;show aZ n t ⟨rfl,c⟩
  .cases b
def Tu:List V->Hp->VK->Prop:=λc H Q=>∃(a:ab)(kvs:List (Key×V))(ns:List Int),c= [.ref a]/\Rd H a (.dK kvs)/\kvs.map (·.1)=ns.map Sum.inl/\ns.length<64/\∀(b:List Int)(p:ab),b.Perm ns->b.Pairwise (·<=·)->H p=none->Q (.ref p) (upd H p (.lst (b.map V.int)))
def Ft(hc:X.calm=true):gX X (.builtin "sorted") Tu:=by
 intro O s σ H xs us Q I r h;show jE h λa kvs m i K L j q=>?_;subst h i;rw[Vals.yQ r];show cY (ni I.aA K) λz hd g=>ai g λD rel v=>?_;clear g;have l:D.map (·.1)=m.map Sum.inl:=by
  rw[<-L];clear L z K q v j;induction rel with
  |nil=>rfl
  |cons r t ih=>rw[eD,eD,ih,r.1]
 have M:D.length=m.length:=by have:=congrArg uC l;rwa[ay,ay]at this
 show nj v λo S ep U Y Z h4 h5 h6=>?_;clear v;show Kp (F:=λe=>e=m) (λC hC=>Qr (PySem.W.kdl_dict (knd:=fQ X.prog X.w) (kvs:=D) (ep:=ep) hd) (by show X.A.in1.handled=none;show I.ok.hd hc) ⟨o,S,U,Y,Z,h4,h5,h6⟩ (by rw[M,aQ];lia) λG B u b y f=>hC G B u.toList m b y (QM l f) rfl (by rw[gW,f.1,M];show j) s.drawn) λG B p n out a0 e b N k hI hF J c x R=>?_;subst hF;have hn:H p=none:=I.aA.fresh N;show aZ (.ref p) (upd H p (.lst (e.map V.int))) ⟨(I.drew R).laid (t':=B) b N ⟨by rw[ay,c.length_eq,aQ];lia,out,n,DJ hI,k⟩,rfl,q e p c x hn⟩
end
end L2
namespace Rt
open PySem PySem.Spec PyProof.Rows
def A7{α:Type}:∀{l:List α}{i:Nat}(h:i<l.length),(l[i]::l.eraseIdx i).Perm l
 |a::l,0,_=>rT _
 |a::l,i+1,h=>by have b:i<l.length:=Nat.lt_of_succ_lt_succ h;have c:=A7 b;show((l[i]'b)::a::l.eraseIdx i).Perm (a::l);show(List.Perm.swap a (l[i]'b) _).trans (c.cons a)
def HX{α:Type}(next:Nat->Nat):∀(f k:Nat)(left:List α)(out:Array α),left.length<=f->(pickOrder.go next f k left out).toList.Perm (out.toList++left)
 |0,k,left,out,h=>by have e:left= []:=iX QA;subst e;rw[pickOrder.go,ee]
 |f+1,k,left,out,h=>by
  rw[pickOrder.go];by_cases c:left= []
  .subst c;rw[show(([]:List α)[next k % ([]:List α).length]?)=none from rfl,ee]
  .have b:next k % left.length<left.length:=Nat.mod_lt _ (qo.mpr c)
   rw[dA b];dsimp only;show(HX next f (k+1) _ _ (by rw[Lj b];lia)).trans ?_;rw[Array.toList_push,eZ];show List.Perm.append_left _ ?_;rw[List.singleton_append];show A7 b
def SU{α:Type}(next:Nat->Nat)(xs:Array α):(pickOrder next xs).toList.Perm xs.toList:=by
 have:=HX next xs.size 0 xs.toList #[] (by rw[gW];show bo _)
 show this
section
variable {prog:aE}{w:aC}{A:dj}{E:af->ao->Prop}{s:ao}
def Nl{b:Source}{n:Nat}{Q:Nat->ao->Prop}(c:n≠0)(h:∀i d,i<n->Q i {s with drawn:=d}):aM (model prog w) A (choose b n) Q E s:=λΓ p hΓ=>by show Sem.wp _ Γ (.choose b n .pure) _ _ p s;rw[Sem.wp_choose];show⟨c,h _ _ (Nat.mod_lt _ (Nat.pos_of_ne_zero c))⟩
def FX{α:Type}:∀(n:Nat)(xs:List α)(s:ao)(Q:List α->ao->Prop),xs.length<=n->(∀f d,f.Perm xs->Q f {s with drawn:=d})->aM (model prog w) A (drawOrder n xs) Q E s
 |0,xs,s,Q,c,h=>by have e:xs= []:=iX QA;subst e;show bD (h [] s.drawn (rT _))
 |n+1,[],s,Q,c,h=>bD (h [] s.drawn (rT _))
 |n+1,x::xs,s,Q,c,h=>by
  unfold drawOrder;show aN (Nl (Nat.succ_ne_zero _) λi d b=>?_);rw[dA b];dsimp only;have z:((x::xs).eraseIdx i).length<=n:=by rw[Lj b];simp only[aG]at c b ⊢;lia
  show aN (FX n ((x::xs).eraseIdx i) _ _ z λf g j=>bD ?_);show h _ g ((j.cons _).trans (A7 b))
end
namespace F
def Pp:entryFor table "set.__iter__"=some Builtin.«frozenset.__iter__»:=entryFor_alias (id':="frozenset.__iter__") (by kernel_rfl) rfl QC (by kernel_rfl)
def entry_next:entryFor table "set_iterator.__next__"=some Builtin.«set_iterator.__next__»:=entryFor_of_tree (by kernel_rfl)
def slot_next:Slot "set_iterator" "__next__" "set_iterator.__next__":=
 .of (owner:="set_iterator") (n:="__next__") (by rw[typeLookup_type,builtinLookup_eq_fast];kernel_rfl) QC QC QC (by first | show .inl QC | show .inr QC) (by rw[isSubtype_type];kernel_rfl)
def args_next(a:af):argsOk "set_iterator.__next__" ⟨[a],[]⟩:=by unfold argsOk;kernel_rfl
end F
def sel(es:Array (Int×af))(p:Nat):af:=((es[p]?).map (·.2)).getD .none
abbrev tw(first:af)(i:Nat)(a:ab)(n ep:Nat):Obj:={cls:= .type "set_iterator",data:= .fields #[first,rawInt i,.ref a,rawInt n,rawInt ep]}
structure lY(prog:aE)(w:aC)(h:aH)(a:ab)(es:Array (Int×af))(ep:Nat)(t:SetTable):Prop where
 ob:∃o,h.get? a=some o/\o.ExactSet/\o.data= .set es ep t
 fits:t.fits es.size=true
 tab:Tab t (!gQ w)
def lN(prog:aE)(w:aC)(h:aH)(it a:ab)(es:Array (Int×af))(ep:Nat)(t:SetTable)(L:List af)(tps:List ab)(i:Nat):Prop:=lY prog w h a es ep t/\∃first,h.get? it=some (tw first i a es.size ep)/\
 ((gQ w=true/\(∃b:Nat,first=rawInt b)/\L=((pickOrder (w.params.setOrder a ep) es).toList.map (·.2)))\/
  (gQ w=false/\(!t.plain&&decide (es.size>1))=false/\(∃b:Nat,first=rawInt b/\SetTable.below t.place b=i)/\L=es.toList.map (·.2))\/
  (gQ w=false/\(∃(d:ab)(e:Obj)(c:Nat)(ps:List Nat),first= .ref d/\d∈tps/\d≠it/\h.get? d=some e/\e.data= .seq (ps.map λ(p:Nat)=>rawInt p).toArray c/\ps.Perm (gG es.size)/\L=ps.map (sel es))))
section
variable {prog:aE}{w:aC}{A:dj}{E:af->ao->Prop}{s:ao}{it a:ab}{es:Array (Int×af)}{ep:Nat}{t:SetTable}{L:List af}{tps:List ab}{i:Nat}
def AK{Q:Bool->ao->Prop}(h:Q (gQ w) s):aM (model prog w) A setsByText Q E s:=by unfold setsByText;show aN (wpAny_askSetting (bD h))
def A5{Q:Array (Int×af)->ao->Prop}(O:lY prog w s.heap a es ep t)(h:Q es s):aM (model prog w) A (setEntries a) Q E s:=by obtain⟨⟨o,c,_,hd⟩,b,_⟩:=O;unfold setEntries;show aN (wQ c hd b (bD h))
def zc{c:Nat}{Q:Option (af×Nat)->ao->Prop}(O:lY prog w s.heap a es ep t)
  (h:Q (if gQ w=true then((pickOrder (w.params.setOrder a ep) es)[i]?).map (λe=>(e.2,c))else match es[SetTable.below t.place c]?,t.place[SetTable.below t.place c]? with
   |some (_,x),some j=>some (x,j+1)
   |_,_=>none) s) (d:gQ w=false->(!t.plain&&decide (es.size>1))=false):aM (model prog w) A (setNext a c i ep) Q E s:=by
 obtain⟨⟨o,k,_,hd⟩,g,m⟩:=O;unfold setNext;show aN (wQ k hd g (aN (AK ?_)));cases b:gQ w with
 |true=>rw[b,QG rfl]at h;simp only[if_true,bne_self_eq_false,rO,if_false];show aN ?_;unfold setWalk;show aN (wQ k hd g (aN (AK ?_)));rw[b];simp only[if_true];show aN (wpAny_askSetting (bD (bD h)))
 |false=>rw[b,QH dP]at h;have f:=d b;simp only[rO,if_false];show wN (λl=>absurd (show(!t.plain&&decide (es.size>1))=true from l) (by rw[f];show dP)) λ_=>?_;show aN ?_;show aM (model prog w) A (if(!t.led&&!es.isEmpty)=true then unsupported "set:maker-not-led"else pure ()) _ _ _;rw[QH (by rw[m.led,b];simp)];show bD (bD h)
def Ph{p:Nat}{x:Int×af}{Q:af->ao->Prop}(O:lY prog w s.heap a es ep t)(d:es[p]? =some x)(h:Q x.2 s):aM (model prog w) A (setNextDrawn a p ep) Q E s:=by obtain⟨⟨o,c,_,hd⟩,b,e⟩:=O;unfold setNextDrawn;show aN (wQ c hd b ?_);simp only[bne_self_eq_false,rO,if_false,d];show bD h
def lY.keep{h h':aH}(O:lY prog w h a es ep t)(k:∀o,h.get? a=some o->h'.get? a=some o):lY prog w h' a es ep t:=by obtain⟨⟨o,c,r⟩,b,d⟩:=O;show⟨⟨o,k o c,r⟩,b,d⟩
def qP{first:af}{n j:Nat}{c:Array af}{v:af}{R:Unit->ao->Prop}(b:s.heap.get? it=some {cls:= .type "set_iterator",data:= .fields c})(e:j<c.size)
  (h:∀d,mO it s.heap d->d.get? it=some {cls:= .type "set_iterator",data:= .fields (c.setIfInBounds j v)}->R () {s with heap:=d}):aM (model prog w) A (setField (.ref it) j v) R E s:=by
 show wpAny_setField b rfl e ?_;show h _ (DY ..) ?_;show(zD _ b (Obj.isFreed_of_fields (Obj.data_mapFields rfl _)))
def F8{first x:af}{n next:Nat}{R:Fin->ao->Prop}(c:s.heap.get? it=some (tw first i a n ep))
  (h:∀b,mO it s.heap b->b.get? it=some (tw (rawInt next) (i+1) a n ep)->R (.done (.ret x)) {s with heap:=b}):
  aM (model prog w) A (setField (.ref it) 0 (.int (next:Int) 0) >>= λ_=>setField (.ref it) 1 (.int ((i:Int)+1) 0) >>= λ_=>ret x) R E s:=by
 show aN (qP (first:=first) (n:=n) c QD λj d f=>aN (qP (s:={s with heap:=j}) (first:=first) (n:=n) f QD λk e g=>?_));show bD (h k (d.trans e) g)
def next_item{Q:Option af->ao->Prop}(g:it≠a)(T:lN prog w s.heap it a es ep t L tps i){v:af}(d:L[i]? =some v)
  (D:∀j,mO it s.heap j->lN prog w j it a es ep t L tps (i+1)->Q (some v) {s with heap:=j}):aM (model prog w) A (pyNext (.ref it)) Q E s:=by
 obtain⟨⟨⟨o,U,hx,hd⟩,z,N⟩,first,hit,T⟩:=T;have S:s.TypeIs (.ref it) "set_iterator":=⟨_,hit,rfl⟩;unfold pyNext;show aN (DO (wM (name:=Str.ofString "__next__") S F.slot_next (p8 F.slot_next S F.entry_next ?_ (F.args_next _))));unfold Builtin.«set_iterator.__next__»;show aN (bD ?_);show aN (wpAny_fieldsOf hit rfl ?_);have O:lY prog w s.heap a es ep t:=⟨⟨o,U,hx,hd⟩,z,N⟩;dsimp only[rawInt];show aN (A5 O ?_);simp only[bne_self_eq_false,rO,if_false,eN];have g1:∀P:Array af,(s.heap.update it (Obj.mapFields λ_=>P)).get? a=some o:=λP=>(zC _ _ g).trans U;rcases T with⟨b,⟨M,rfl⟩,rfl⟩ | ⟨b,k,⟨M,rfl,I⟩,rfl⟩ | ⟨b,W,ot,c,K,rfl,H,r,m,h,f,rfl⟩
 .dsimp only[rawInt];show aN (zc (t:=t) O ?_ (λq=>by rw[b]at q;cases q));rw[QG b];rw[eP,oM]at d;cases q:(pickOrder (w.params.setOrder a ep) es)[i]? with
  |none=>rw[q]at d;cases d
  |some e=>rw[q]at d;have d:e.2=v:=df.inj d;subst d;show F8 (next:=M) hit λj y C=>⟨_,rfl,bD (D j y ⟨O.keep λV x=>by rw[y.2 a g.symm];show x,_,C,.inl ⟨b,⟨M,rfl⟩,rfl⟩⟩)⟩
 .dsimp only[rawInt];show aN (zc (t:=t) O ?_ (λ_=>k));rw[QH (by rw[b];show dP),eN,I];rw[eP,oM]at d;have J:t.place.size=es.size:=by unfold SetTable.fits at z;simp only[eC,beq_iff_eq]at z;show z.1
  cases q:es[i]? with
  |none=>rw[q]at d;cases d
  |some e=>
   rw[q]at d;have d:e.2=v:=df.inj d;subst d;have G:i<es.size:=(Array.getElem?_eq_some_iff.mp q).1;have hj:t.place[i]? =some (t.place.getD i 0):=by rw[rN (by rw[J];show G),uw,dif_pos (by rw[J];show G)];rfl
   rw[hj];dsimp only;have hb:SetTable.below t.place (t.place.getD i 0+1)=i+1:=by
    obtain⟨r0,r1,r2⟩:=xM N.rise (t.place.getD i 0+1);apply Classical.byContradiction;intro l;rcases Nat.lt_or_gt_of_ne l with c | c
    .have:=r2 i QA (by rw[J];show G);lia
    .have R:=r1 (i+1) c;have h2:=N.rise i (i+1) (kW _) QA;lia
   show F8 (next:=t.place.getD i 0+1) hit λj y C=>⟨_,rfl,bD (D j y ⟨O.keep λV x=>by rw[y.2 a g.symm];show x,_,C,.inr (.inl ⟨b,k,⟨_,rfl,hb⟩,rfl⟩)⟩)⟩
 .dsimp only;unfold seqItems?;show aN (aN (wpAny_load m ?_));rw[h];show bD ?_;dsimp only;rw[eP]at d;cases q:K[i]? with
  |none=>rw[q]at d;cases d
  |some p=>
   rw[q]at d;have d:sel es p=v:=df.inj d;have hp:p<es.size:=r8.mp (f.mem_iff.mp (dD q));have u:es[p]? =some es[p]:=rN hp;have Y:(qr (λ(p:Nat)=>rawInt (p:Int)) K).toArray[i]? =some (rawInt (p:Int)):=by rw[List.getElem?_toArray,eP,q];rfl
   rw[Y];dsimp only[rawInt];rw[eN];show aN (Ph O u ?_);have Z:es[p].2=v:=by rw[<-d];unfold sel;rw[u];rfl
   show aN (qP (first:= .none) (n:=0) hit QD λR B X=>?_);show bD ⟨_,rfl,bD ?_⟩;rw[Z];show D R B ⟨O.keep λV x=>by rw[B.2 a g.symm];show x,_,X,.inr (.inr ⟨b,W,ot,c,K,rfl,H,r,by rw[B.2 W r];show m,h,f,rfl⟩)⟩
def Rk{Q:Option af->ao->Prop}(K:A.handled=none)(N:it≠a)(B:L.length=es.size)(T:lN prog w s.heap it a es ep t L tps es.size)
  (J:∀z,(∀b o,b≠it->s.heap.get? b=some o->z.get? b=some o)->Q none {s with heap:=z}):aM (model prog w) A (pyNext (.ref it)) Q E s:=by
 obtain⟨O,first,hit,T⟩:=T;have C:s.TypeIs (.ref it) "set_iterator":=⟨_,hit,rfl⟩;unfold pyNext;show aN (DO (wM (name:=Str.ofString "__next__") C F.slot_next (p8 F.slot_next C F.entry_next ?_ (F.args_next _))));unfold Builtin.«set_iterator.__next__»;show aN (bD (aN (wpAny_fieldsOf hit rfl ?_)));dsimp only[rawInt];show aN (A5 O ?_);simp only[bne_self_eq_false,rO,if_false,eN]
 -- behind the last member
 have stop:∀(d:aH),(∀b o,b≠it->s.heap.get? b=some o->d.get? b=some o)->aM (model prog w) A.in1 (newExc (.type "StopIteration") [] >>= λe=>raiseNew e) (λ(fin:Fin) y=>∃v,fin= .done (.ret v)/\aM (model prog w) A (pure (some v)) Q E y)
     (λe y=>aM (model prog w) A (isInstance e (.type "StopIteration") >>= λb=>if b=true then pure none else throw e) Q E y) {s with heap:=d}:=λd R=>by
  show aN ?_;simp only[newExc,newTuple];show aN (ur ?_ (by size_fits));show aN (m:=firstArgMember _ _) (wpAny_of_eq (a:=Value.none) (by first | rfl | (simp only[firstArgMember];rfl)) (ur ?_ (by size_fits)));simp only[raiseNew];show aN (wpAny_handled ?_);rw[show A.in1.handled=none from K];show(aN (bD (wpAny_throw ?_)));show(aN (wpAny_isInstance (b:=true) (T:="StopIteration") ⟨_,fj _ rfl,rfl⟩ isSubtype_stop ?_));show bD (J _ λb o j e=>ed _ (ed _ (R b o j e)))
 have x:∀{d:aH},mO it s.heap d->∀b o,b≠it->s.heap.get? b=some o->d.get? b=some o:=λU b o j e=>by rw[U.2 b j];show e
 rcases T with⟨b,⟨V,rfl⟩,rfl⟩ | ⟨b,k,⟨V,rfl,u⟩,rfl⟩ | ⟨b,Y,X,c,S,rfl,M,P,l,g,r,rfl⟩
 .dsimp only[rawInt];show aN (zc (t:=t) O ?_ (λq=>by rw[b]at q;cases q));have G:(pickOrder (w.params.setOrder a ep) es)[es.size]? =none:=by rw[ay,gW]at B;show wV QA
  rw[QG b,G];dsimp only[Option.map_none];show aN (qP (first:= .none) (n:=0) hit QD λd f h=>stop d (x f))
 .dsimp only[rawInt];show aN (zc (t:=t) O ?_ (λ_=>k));rw[QH (by rw[b];show dP),eN,u,wV (bo _)];dsimp only;show aN (qP (first:= .none) (n:=0) hit QD λd f h=>stop d (x f))
 .dsimp only;unfold seqItems?;show aN (aN (wpAny_load l ?_));rw[g];show bD ?_;dsimp only;have H:(qr (λ(p:Nat)=>rawInt (p:Int)) S).toArray[es.size]? =none:=by rw[ay]at B;show wV (by rw[fg,ay];lia)
  rw[H];dsimp only;show aN (qP (first:= .none) (n:=0) hit QD λd f h=>aN (qP (s:={s with heap:=d}) (first:= .none) (n:=0) h QD λI D W=>stop I (x (f.trans D))))
end
end Rt
namespace Rt
open PySem PySem.Spec PyProof.Rows
namespace F
def slot_self:Slot "set_iterator" "__iter__" "set_iterator.__iter__":=
 .of (owner:="set_iterator") (n:="__iter__") (by rw[typeLookup_type,builtinLookup_eq_fast];kernel_rfl) QC QC QC (by first | show .inl QC | show .inr QC) (by rw[isSubtype_type];kernel_rfl)
def entry_self:entryFor table "set_iterator.__iter__"=some Builtin.«dict_keyiterator.__iter__»:=entryFor_alias (id':="dict_keyiterator.__iter__") (by kernel_rfl) rfl QC (by kernel_rfl)
def args_self(a:af):argsOk "set_iterator.__iter__" ⟨[a],[]⟩:=by unfold argsOk;kernel_rfl
end F
def UD(es:Array (Int×af)):(gG es.size).map (sel es)=es.toList.map (·.2):=by
 apply zP;intro i;rw[eP,eP];by_cases h:i<es.size
 .rw[D5 h,oM,rN h];show some (sel es i)=some es[i].2;unfold sel;rw[rN h];rfl
 .rw[qm (l:=gG es.size) (by rw[mT];lia),qm (l:=es.toList) (by rw[gW];lia)];rfl
section
variable {prog:aE}{w:aC}{A:dj}{E:af->ao->Prop}{s:ao}{a:ab}{es:Array (Int×af)}{ep:Nat}{t:SetTable}
def Ql{Q:af->ao->Prop}(O:lY prog w s.heap a es ep t)(hz:es.size<=4096)
  (S:∀p d (y:ab) (L:List af) (tps:List ab),(∀b o,s.heap.get? b=some o->p.get? b=some o)->s.heap.objs.size<=y->y<p.objs.size->(∀l∈tps,s.heap.objs.size<=l)->L.Perm (es.toList.map (·.2))->lN prog w p y a es ep t L tps 0->Q (.ref y) {s with heap:=p,drawn:=d}):
  aM (model prog w) A (pyIter (.ref a)) Q E s:=by
 obtain⟨⟨o,m,H,hd⟩,x,J⟩:=O;have M:s.TypeIs (.ref a) "set":=⟨o,m,H.1⟩;have X:a<s.heap.objs.size:=dU m;show wpAny_pyIter_slot M LD (p8 LD M F.Pp ?_ (PySem.F.args_set_iter_1 _));unfold Builtin.«frozenset.__iter__» Builtin.Frozenset.slot0;show aN (aN (bD (bD ?_)));unfold Builtin.Frozenset.sizeOf;show aN (aN (A5 (t:=t) (ep:=ep) ⟨⟨o,m,H,hd⟩,x,J⟩ (bD ?_)));unfold setDrawn;show aN (aN (wQ m hd x (aN (AK (bD ?_)))))
 -- the iterator's own object,behind its first field
 have fin:∀(first:af)(f:aH)(B:Drawn)(L:List af)(tps:List ab),(∀b o,s.heap.get? b=some o->f.get? b=some o)->s.heap.objs.size<=f.objs.size->(∀l∈tps,s.heap.objs.size<=l/\l<f.objs.size)->L.Perm (es.toList.map (·.2))->
     (∀j:aH,(∀b o,f.get? b=some o->j.get? b=some o)->j.get? f.objs.size=some (tw first 0 a es.size ep)->lN prog w j f.objs.size a es ep t L tps 0)->
     aM (model prog w) A.in1 (setEpoch a >>= λe=>newFields "set_iterator" [first,rawInt 0,.ref a,rawInt es.size,rawInt e] >>= λv=>ret v) (λ(fin:Fin) P=>∃v,fin= .done (.ret v)/\∃K r,P.TypeIs v K/\typeLookup (.type K) "__next__"=pure (some r)/\Q v P) E {s with heap:=f,drawn:=B}:=λfirst f B L tps N W T U R=>by
  show aN (wpAny_setEpoch_of (N a o m) hd x (aN (ur (bD ?_))));have g:(f.push (tw first 0 a es.size ep)).get? f.objs.size=some (tw first 0 a es.size ep):=fj _ rfl;exists _,rfl,"set_iterator",_,⟨_,g,rfl⟩,F.slot_next.lookup;show S _ B f.objs.size L tps (λb o e=>ed _ (N b o e)) W (dU g) (λl h=>(T l h).1) U (R _ (λb o e=>ed _ e) g)
 have z:∀{j:aH},(∀b o,s.heap.get? b=some o->j.get? b=some o)->lY prog w j a es ep t:=λk=>⟨⟨o,k a o m,H,hd⟩,x,J⟩;cases b:gQ w with
 |true=>show wN (λu=>absurd u QD) λ_=>aN (bD ?_);show fin (rawInt 0) s.heap s.drawn _ [] (λ_ _ e=>e) (bo _) (λ_ h=>nomatch h) ((SU _ es).map _) λj n g=>⟨z n,_,g,.inl ⟨b,⟨0,rfl⟩,rfl⟩⟩
 |false=>
  show wN (λu=>?_) λu=>aN (bD ?_)
  .show aN (FX es.size (gG es.size) s _ (by rw[mT];show bo _) λI d c=>aN (ur ?_ ?_))
   .show fin (.ref s.heap.objs.size) _ d (I.map (sel es)) [s.heap.objs.size] (λb o e=>ed _ e) (sg (by rw[iH];show kW _)) (λl h=>by rw[iw.mp h,iH];show⟨bo _,kW _⟩) ?_ λj n g=>?_
    .rw[<-UD];show c.map _
    .show⟨z λb o e=>n b o (ed _ e),_,g,.inr (.inr ⟨b,s.heap.objs.size,_,0,I,rfl,iw.mpr rfl,?_,n _ _ (fj _ rfl),rfl,c,rfl⟩)⟩;rw[iH];show eU (kW _)
   .show(qr (λ(i:Nat)=>rawInt (i:Int)) I).toArray.size<=_;rw[fg,ay,c.length_eq,mT,aQ];lia
  .have D:(!t.plain&&decide (es.size>1))=false:=by have C:¬ (!t.plain&&decide (es.size>1))=true:=λq=>u (by show(!false&&_)=true;rw[Bool.not_false,wX];show q);show Bool.eq_false_iff.mpr C
   show fin (rawInt 0) s.heap s.drawn _ [] (λ_ _ e=>e) (bo _) (λ_ h=>nomatch h) (rT _) λj n g=>⟨z n,_,g,.inr (.inl ⟨b,D,⟨0,rfl,?_⟩,rfl⟩)⟩;obtain⟨Y,V,Z⟩:=xM J.rise 0;apply Classical.byContradiction;intro G;have:=V 0 (Nat.pos_of_ne_zero G);lia
end
end Rt
namespace Rt
open PySem PySem.Spec PyProof.Rows
section
variable {prog:aE}{w:aC}{A:dj}{E:af->ao->Prop}{s:ao}{it a:ab}{es:Array (Int×af)}{ep:Nat}{t:SetTable}{L:List af}{tps:List ab}
def lN.keep{h h':aH}{i:Nat}(T:lN prog w h it a es ep t L tps i)(k:∀b∈it::a::tps,∀o,h.get? b=some o->h'.get? b=some o):lN prog w h' it a es ep t L tps i:=by
 obtain⟨O,first,hit,T⟩:=T;exists O.keep (k a QD),first,k it QD _ hit
 rcases T with T | T | ⟨b,e,m,c,n,f,d,g,j,l⟩
 .show .inl T
 .show .inr (.inl T)
 .show .inr (.inr ⟨b,e,m,c,n,f,d,g,k e (by simp[d]) _ j,l⟩)
def Qm{i:Nat}{Q:af->ao->Prop}(T:lN prog w s.heap it a es ep t L tps i)(h:Q (.ref it) s):aM (model prog w) A (pyIter (.ref it)) Q E s:=by obtain⟨O,first,hit,_⟩:=T;have b:s.TypeIs (.ref it) "set_iterator":=⟨_,hit,rfl⟩;show wpAny_pyIter_slot b F.slot_self (p8 F.slot_self b F.entry_self ?_ (F.args_self _));show aM _ _ (ret (Value.ref it)) _ _ s;show bD ⟨.ref it,rfl,"set_iterator",_,b,F.slot_next.lookup,h⟩
def UI(r:A.handled=none)(d:it≠a)(p:L.length=es.size):
  WalksS prog w A it (it::a::tps) [it] (λx y=>y=x) es.size (λi v=>L[i]? =some v) (λi s=>lN prog w s.heap it a es ep t L tps i) where
 sub:=λb c=>by rw[iw.mp c];show cZ
 grefl:=λ_=>rfl
 gtrans:=λ_ _ _ m n=>n.trans m
 frame:=λi s f B T _ k=>T.keep k
 item:=λi s Q E z T g=>by obtain⟨v,j⟩:∃v,L[i]? =some v:=⟨_,dA QA⟩;show next_item d T j λf u l=>g v _ j l ⟨λb o c e=>?_,rfl,rfl,rfl,bo _⟩;show f.get? b=some o;rw[u.2 b λq=>c (iw.mpr q)];show e
 done:=λs Q E T g=>Rk r d p T λf k=>g _ ⟨λb o c e=>k b o (λq=>c (iw.mpr q)) e,rfl,rfl,rfl,bo _⟩
 self:=λi s Q E T h=>Qm T h
def P6{r:ab}{Q:Bool->ao->Prop}(d:s.TypeIs (.ref r) "set")(h:Q false s):aM (model prog w) A (Builtin.List.listLengthHint (.ref r)) Q E s:=by
 unfold Builtin.List.listLengthHint;show(aN (wpAny_specialOf d PySem.F.slot_set_len.lookup ?_));generalize c:("set.__len__":String)=e
 wp_delta
 rw[show splitId e=some ("set","__len__")from by subst c;decide +kernel];subst c;show(aN (wpAny_isInstance (b:=true) (T:="set") d (by rw[isSubtype_type];kernel_rfl) ?_));show(wN (λq=>absurd q QB) λ_=>wN (λ_=>?_) λq=>absurd QC q);show aN (wpAny_typeOf d (bD h))
def Nn{Q:List af->ao->Prop}(hh:A.handled=none)(O:lY prog w s.heap a es ep t)(hz:es.size<=4096)
  (hQ:∀p d tk (L:List af),(∀b o,s.heap.get? b=some o->p.get? b=some o)->s.heap.objs.size<=p.objs.size->L.Perm (es.toList.map (·.2))->Q L {s with heap:=p,drawn:=d,toks:=tk}):aM (model prog w) A (collect (.ref a)) Q E s:=by
 unfold collect;show aN (wpAny_runValue ?_);generalize Y:(λ(r:Result) (y:ao)=>match r with
  |.ok (.ret v)=>aM (model prog w) A (match v with
    |.ref a=>do
     let o <-load a
     match o.data with
     |.seq xs _=>pure xs.toList
     |_=>unsupported "internal:collect"
    |_=>unsupported "internal:collect") Q E y
  |.ok _=>False
  |.error e=>E e y)=R
 have k:codeAny (model prog w) A (.builtin "proto.collect" ⟨[.ref a],[]⟩) R s:=by
  show pB Lw ?_;rw[Around.under_plainId Lz _];show aM _ A.in1 (newList [] >>= λl=>again (.builtin "list.__iadd__" ⟨[l,.ref a],[]⟩)) _ _ s;show aN (ur ?_);show bD ⟨vY Ak _,pB Lv ?_⟩;rw[Around.under_plainId Ak _];generalize m:s.heap.push {cls:= .type "list",data:= .seq ([]:List af).toArray}=g;have g1:g.get? s.heap.objs.size=some {cls:= .type "list",data:= .seq ([]:List af).toArray}:=by rw[<-m];show fj _ rfl
  have B:∀b o,s.heap.get? b=some o->g.get? b=some o:=λb o e=>by rw[<-m];show ed _ e
  have D:g.objs.size=s.heap.objs.size+1:=by rw[<-m];show iH _ _
  have O1:=O.keep (B a);obtain⟨o,J,Z,hd⟩:=O.ob;have I:a<s.heap.objs.size:=dU J;have H:Shared.TypeIs {s with heap:=g} (.ref a) "set":=⟨o,B a o J,Z.1⟩;show aM _ A.in1 (Builtin.List.listExtendWith (.ref s.heap.objs.size) (.ref a) (.ref s.heap.objs.size)) _ _ {s with heap:=g};unfold Builtin.List.listExtendWith;show aN (wpAny_typeOf (T:="set") H ?_);have c1:Builtin.List.listSameRef (.ref s.heap.objs.size) (.ref a)=false:=by simp[Builtin.List.listSameRef,oX I]
  have c2:(Value.type "set"==Value.type "list")=false:=QB;have c3:(Value.type "set"==Value.type "tuple")=false:=QB;simp only[c1,c2,c3,DW,rO,if_false];show aN (Ql (s:={s with heap:=g}) O1 hz λn d it L tps K P a3 zt f T=>?_);have iS:s.heap.objs.size≠it:=eU (gY (by show _<g.objs.size;rw[D];show kW _) P);have aI:it≠a:=λq=>kU _ (gY (q▸(xi I (by show _<g.objs.size;rw[D];show kW _))) P);have U:s.heap.objs.size∉it::a::tps:=by
   intro q;rcases bG.mp q with q | q
   .show iS q
   .rcases bG.mp q with q | q
    .show oX I q
    .show kU _ (gY (by show _<g.objs.size;rw[D];show kW _) (zt _ q))
  have X:L.length=es.size:=by rw[f.length_eq,ay,gW]
  have W:=UI (prog:=prog) (w:=w) (A:=A.in1) (ep:=ep) (t:=t) (tps:=tps) hh aI X
  have key:∀(u:aH)(c tk:Nat),lN prog w u it a es ep t L tps 0->(∀b o,b≠s.heap.objs.size->n.get? b=some o->u.get? b=some o)->u.get? s.heap.objs.size=some {cls:= .type "list",dict:=none,data:= .seq #[] c,slots:=#[]}->
      codeAny (model prog w) A (.builtin "list.extend.loop" ⟨[.ref s.heap.objs.size,.ref it,.ref s.heap.objs.size],[]⟩) R {s with heap:=u,drawn:=d,toks:=tk}:=λu c tk T3 k3 g3=>by
   show codeAny_extend_loopS W (by rw[aQ];lia) _ U _ es.size 0 _ #[] c rfl (cT _) T3 g3 (ItemsOf.nil _) λy i c' C V h=>?_;subst Y;show aM _ A (load s.heap.objs.size >>= _) _ _ y;show aN (wpAny_load V (bD ?_));have eL:i.toList=L:=by
    apply zP;intro j;rw[oM];cases q:i[j]? with
    |none=>
     have hj:i.size<=j:=by apply Classical.byContradiction;intro a0;rw[rN QA]at q;cases q
     show(qm (by rw[X,<-h.1];show hj)).symm
    |some v=>show(h.2 j v q).symm
   rw[eL];obtain⟨p,G,S,N,M⟩:=y;obtain rfl:G=s.gens:=C.gens;obtain rfl:S=d:=C.drawn;obtain rfl:M=s.os:=C.os;show hQ p S N L (λb o e=>?_) (sg (dU V)) f;have nb:b≠s.heap.objs.size:=eU (dU e);show C.heap b o (λq=>?_) (k3 b o nb (K b o (B b o e)));rcases bG.mp q with q | q
   .show nb q
   .rw[iw.mp q]at e;show kU _ (gY (xi (dU e) (by show _<g.objs.size;rw[D];show kW _)) P)
  have g2:=K _ _ g1;show(aN (uq (P6 (s:={s with heap:=n,drawn:=d}) ⟨o,K a o (B a o J),Z.1⟩ ?_)));show(wN (λ_=>aN (wpAny_rule (aN ?_))) λ_=>bD ⟨vY Ly _,key n _ s.toks T (λ_ _ _ e=>e) g2⟩);show aM _ _ (updateSeq s.heap.objs.size (·.push .none) >>= λ_=>updateSeq s.heap.objs.size (·.pop)) _ _ {s with heap:=n,drawn:=d};show(aN (wpAny_updateSeq g2 rfl ?_));have g3:=zD (Obj.mapSeq (·.push Value.none)) g2 rfl;show(wpAny_updateSeq g3 rfl ?_ (hz:=by seq_fits));have g4:=zD (Obj.mapSeq (·.pop)) g3 rfl;have x:∀b o,b≠s.heap.objs.size->n.get? b=some o->((n.update s.heap.objs.size (Obj.mapSeq (·.push Value.none))).update s.heap.objs.size (Obj.mapSeq (·.pop))).get? b=some o:=λb o z e=>(zC _ _ z.symm).trans ((zC _ _ z.symm).trans e);show bD ⟨vY Ly _,key _ _ s.toks (T.keep λb z o e=>x b o (λq=>U (q▸z)) e) x g4⟩
 subst Y;show k
end
end Rt
namespace L2
open PySem PySem.Spec PyProof.Rows Rt
def Al(P:aE)(w:aC)(a:ab)(ns:List Int):HO:= .ext λh=>jz P w h a ns
def range_getD(ns:List Int):(gG ns.length).map (λi=>ns.getD i 0)=ns:=by
 apply zP;intro i;rw[eP];by_cases h:i<ns.length
 .rw[D5 h,dA h];show some (ns.getD i 0)=_;rw[kS,dA h];rfl
 .rw[qm (l:=gG ns.length) (by rw[mT];lia),qm QA];rfl
def Dz(v:af):Int:=match v with
 |.int i _=>i
 |_=>0
def GF:∀{L:List af},(∀v∈L,∃k t,v=Value.int k t)->nI L (L.map Dz)
 |[],_=> .nil
 |v::L,h=>by obtain⟨k,t,e⟩:=h v cZ;subst e;show .cons k t (GF λx a=>h x (du _ a))
section
variable {X:Cx} (K:aw) (P:aE) (w:aC)
def Tt:List V->Hp->VK->Prop:=λa H Q=>∃(b:ab)(ns:List Int),a= [.ref b]/\aj K H b (ns.map V.int)/\ns.length<64/\∀p,H p=none->Q (.ref p) (upd H p (Al P w p (ns.foldl dd [])))
def UE(p:X.calm=true)(m:X.K=K:=by rfl)(n:X.prog=P:=by rfl)(x:X.w=w:=by rfl):gX X (.type "set") (Tt K P w):=by
 subst m n x;intro g s σ H J G Q I r h;show fO h λb d a v l q=>?_;subst h a;rw[Vals.yQ r];show bA (I.list v) λc A z F=>?_;have f:nI c d:=A.ints;show MT (I.ok.hd p) z.isList (by simpa using f) (by rw[fg,f.length];unfold scanBound;lia) λC B S k=>?_;have e:mI (λi=>d.getD i 0) c.toArray.size=d.foldl dd []:=by unfold mI;rw[fg,f.length,range_getD]
 rw[e]at S;have t:H s.heap.objs.size=none:=I.aA.fresh (bo _);show aZ (.ref s.heap.objs.size) (upd H s.heap.objs.size (Al X.prog X.w s.heap.objs.size (d.foldl dd []))) ⟨I.laid (t':=B) (λb o e=>k b o (dU e) e) (bo _) ⟨S,?_,λD E j y=>j.keep y⟩,rfl,q _ t⟩;show vy S λo _ _ _ u _=>?_;clear S;show⟨o,u⟩
def Tv:List V->Hp->VK->Prop:=λc H Q=>∃(a:ab)(ns:List Int),c= [.ref a]/\H a=some (Al P w a ns)/\ns.length<64/\∀(b:List Int)(p:ab),b.Perm ns->b.Pairwise (·<=·)->H p=none->Q (.ref p) (upd H p (.lst (b.map V.int)))
def UT(hc:X.calm=true)(Z:X.prog=P:=by rfl)(hw:X.w=w:=by rfl):gX X (.builtin "sorted") (Tv P w):=by
 subst Z;subst hw;intro T s σ H xs us Q I r h;show fO h λa J b ha x q=>?_;subst h b;rw[Vals.yQ r];show cY (I.aA a _ ha) λS _ _=>?_;show kz S λo es ep t c=>e0_8 c λho hx hd B hb hf tb R=>?_;clear c;clear S;have k:es.size=J.length:=by have:=R.length_eq;unfold mr at this;rwa[ay,gW]at this
 show Kp (F:=λi=>i.Perm J) (λC W=>Nn (ep:=ep) (t:=t) (es:=es) (by show X.A.in1.handled=none;show I.ok.hd hc) ⟨⟨o,ho,hx,hd⟩,hf,tb⟩ QA λN d M L hk G z=>?_) λN M p n out i u f l j y Y O g E U=>?_
 .obtain⟨i,D,y⟩:∃i,i.Perm J/\nI L i:=by
   show⟨L.map Dz,?_,GF λv hv=>?_⟩
   .show((z.map Dz).trans ?_).trans R;rw[gd];show rT _
   .show ai (dM.mp (z.mem_iff.mp hv)) λe he b=>?_;subst b;show F0 B he
  show W N M L i hk G y D (by rw[z.length_eq,ay,gW,k];show x) d
 .have hn:H p=none:=I.aA.fresh l;have m:=g.trans Y;show aZ (.ref p) (upd H p (.lst (u.map V.int))) ⟨(I.drew U).laid (t':=M) f l ⟨by rw[ay,m.length_eq,aQ];lia,out,n,DJ y,j⟩,rfl,q u p m E hn⟩
end
end L2
namespace L2
open PySem PySem.Spec PyProof.Rows
section
variable {prog:aE}{w:aC}{A:dj}{E:af->ao->Prop}{s:ao}
def UG{l:ab}{b:Array af}{n:Nat}{k:Int}{t:Tok}{v:af}{Q:Unit->ao->Prop}(e:s.heap.get? l=some {cls:= .type "list",data:= .seq b n})(c:0<=k)(d:k<2 ^ 63)(h:k<b.size)
  (q:Q () {s with heap:=s.heap.update l (Obj.mapSeq λa=>a.setIfInBounds k.toNat v)}):aM (model prog w) A (setItem (.ref l) (.int k t) v) Q E s:=by
 have g:s.heap.IsList l b:=⟨_,e,rfl,n,rfl⟩;unfold setItem
 try with_reducible show uq ?_
 first | show aN (bD ?_) | skip
 show aN (wpAny_sequenceKey g.typeIs QB ?_);show aN (wM (name:=Str.ofString "__setitem__") g.typeIs slot_list_setitem (p8 slot_list_setitem g.typeIs entry_list_setitem ?_ (args_list_setitem _ _ _)));show aM _ _ (Builtin.List.listSubscript? (.int k t) >>= _) _ _ s;show aN (wpAny_listSubscript_int (fitsIndex_of c d) ?_);clear d;obtain⟨j,rfl⟩:=Int.eq_ofNat_of_zero_le c;have f:b[j]? =some b[j]:=rN QA;show aM _ _ ((seqItemAt l j >>= λr=>pure (r.map (j,·))) >>= _) _ _ s;show aN (aN (wpAny_seqItemAt e rfl (bD ?_)));rw[f];show aM _ _ (setSeqItemAt l j v >>= _) _ _ s;show aN (wpAny_setSeqItemAt e rfl ?_)
 first
  |show aN (bD (bD ⟨.none,rfl,bD q⟩))
  |show bD ⟨.none,rfl,bD q⟩
end
def K5{v:V}{r:af}(a:RelV v r):∀{xs:List V}{us:List af}(j:Nat),Vals xs us->Vals (xs.set j v) (us.set j r)
 |_,_,_,.nil=> .nil
 |_,_,0,.cons _ t=> .cons a t
 |_,_,j+1,.cons q t=> .cons q (K5 a j t)
def IB(td ty d:TE):TS:=λD σ H=>d σ H λv b=>td σ b λx c=>ty σ c λy a=>∃(l:ab)(xs:List V)(j:Nat),x= .ref l/\y= .int (j:Int)/\a l=some (.lst xs)/\j<xs.length/\D.nx σ (upd a l (.lst (xs.set j v)))
def Tf{X:Cx}{o i a:Expr}{pos d:Pos}{td ty q:TE}(L:PE X o td)(hi:PE X i ty)(N:PE X a q)(M:swapsWith a (some (.Subscript o i d)) pos.line X.env=pure false):
  PS X (.Assign [.Subscript o i d] a pos) (IB td ty q):=by
 intro b s σ H D I h;show wpAny_Assign_Subscript (br (N b s σ H _ I h) λr W f=>bp f λv B F T P=>br (L b W σ B _ F P) λu Y f=>bp f λx C G U Q=>br (hi b Y σ C _ G Q) λO Z ⟨y,H3,k,V,l,xs,j,J,K,m,hj,R⟩=>?_) M;subst J;subst K;obtain rfl:u=Value.ref l:=U;obtain⟨t,rfl⟩:=(show ∃t,O=Value.int (j:Int) t from V);show eg (k.nz m) λz c=>bp c λg n S p e=>?_;clear c;have hz:xs.length<2 ^ 62:=Ac z (by rw[aQ];decide);show UG e (Int.natCast_nonneg j) QA (by rw[fg];lia) ⟨σ,_,k.tM (its':=g.set j r) (t':=Z.toks) m e QD (K5 T j S) (by rw[uD];show z),R⟩
def rQ(P:aE)(w:aC)(K:aw)(a:ab)(kvs:List (Key×V)):Prop:=kvs.length<=dc/\(a==sysModules)=false/\∃c,KV kvs c/\∃o b d,K.lookup a=some o/\o.ExactDict/\o.data= .dict b d/\KeysOf (fQ P w) b/\Pairs (fQ P w) b.toList c/\(c.map (·.1)).Nodup
def rQ.at_{X:Cx}{pins:List (ab×Obj)}{σ:St}{H:Hp}{s:ao}{a:ab}{kvs:List (Key×V)}(I:Inv X pins σ H s)(d:rQ X.prog X.w X.K a kvs):(a==sysModules)=false/\∃b,KV kvs b/\s.heap.DictOf (fQ X.prog X.w) a b:=by obtain⟨k,f,b,g,o,e,c,h,j⟩:=d;show⟨f,b,g,o,e,c,I.j5 a o h,j⟩
def Wj(P:aE)(w:aC)(K:aw)(td ty:TE):TE:=λσ H Q=>td σ H λx c=>ty σ c λy d=>∃a b k v,x= .ref a/\rQ P w K a b/\y=kV k/\dm b k=some v/\Q v d
def Wk(P:aE)(w:aC)(K:aw)(ty td:TE):TE:=λσ H Q=>ty σ H λy c=>td σ c λx d=>∃a b k,x= .ref a/\rQ P w K a b/\y=kV k/\Q (.bl (dm b k).isSome) d
section
variable {X:Cx}{o i:Expr}{pos:Pos}{td ty:TE}
def HS{P:aE}{w:aC}{K:aw}(C:PE X o td)(hi:PE X i ty)(D:Af i)(B:X.prog=P:=by rfl)(d:X.w=w:=by rfl)(z:X.K=K:=by rfl):PE X (.Subscript o i pos) (Wj P w K td ty):=by subst B d z;intro c s σ H Q I h;show KC PySem.F.slot_dict_getitem.lookup D (br (C c s σ H _ I h) λu O e=>bp e λx n q M J=>br (hi c O σ n _ q J) λS T ⟨y,p,j,N,a,G,k,v,r,g,t,l,L⟩=>?_);subst r;subst t;obtain rfl:u=Value.ref a:=M;show eg (g.at_ j) λhd b=>ai b λR rel m=>?_;clear b;obtain⟨U,d,f⟩:=ji.some_of (v:=v) (o:=valueAt R k) (by rw[<-l];show rel.val k);show⟨m.typeIs,wpAny_getItem_of (nu N) m.mapOf d ⟨v,p,j.tok _,f,L⟩⟩
def HN{P:aE}{w:aC}{K:aw}(hi:PE X i ty)(v:PE X o td)(t:X.prog=P:=by rfl)(z:X.w=w:=by rfl)(r:X.K=K:=by rfl):PC X .In i o (Wk P w K ty td):=by subst t z r;intro c s σ H Q I h;show br (hi c s σ H _ I h) λJ G d=>bp d λy j m F B=>br (v c G σ j _ m B) λu L ⟨x,l,f,D,a,e,k,p,g,q,C⟩=>?_;subst p;subst q;obtain rfl:u=Value.ref a:=D;show eg (g.at_ f) λhd b=>ai b λM rel n=>?_;clear b;show wpAny_in_of (nu F) hd n.mapOf ?_;rw[<-(rel.val k).tu];show aZ (.bl (dm e k).isSome) l ⟨f.tok _,rfl,C⟩
end
def Pw(o i:Expr)(p:Pos)(b:List Expr)(c:List lU)(pos:Pos)(a:Env):eval (.Call (.Subscript o i p) b c pos) a=(do callWith pos (<-eval (.Subscript o i p) a) [] (backTo pos (dY b a)) (backToKw pos (keywordEach c a))):=rfl
def KD(P:aE)(w:aC)(K:aw)(g:Str->Option af)(base:aH)(k:Nat)(h:TE)(t:TA):TE:=λσ H Q=>h σ H λx d=>∃f a b c,x= .ref f/\jw P w K g base lO k f a b c/\uS K (.ref f)=true/\Binds K a b []/\t σ d λj e=>c j e Q E0
def Sz{X:Cx}{k:Nat}{o i e:Expr}{es:List Expr}{m:TE}{t:TA}{p pos:Pos}{P:aE}{w:aC}{K:aw}{l:Str->Option af}{base:aH}(L:fD k X.A)(D:PE X (.Subscript o i p) m)(B:PA X (e::es) t)
  (C:dY (e::es) X.env=(false,eval e X.env)::dY es X.env:=by rfl) (c:(backTo pos (dY es X.env)).any (·.1)=false:=by rfl) (z:X.prog=P:=by rfl) (M:X.w=w:=by rfl) (y:X.K=K:=by rfl) (J:X.mg=l:=by rfl) (b:X.base=base:=by rfl):PE X (.Call (.Subscript o i p) (e::es) [] pos) (KD P w K l base k m t):=by
 subst z M y J b;intro a s σ H Q I h;rw[Pw];show aN (br (D a s σ H _ I h) λu R ⟨x,n,g,O,f,fd,T,V,v,F,G,b,q⟩=>?_);subst v;obtain rfl:u=Value.ref f:=O;show Ew (h₀:=X.base) g.ok.mod.vJ G (br (B pos a R σ n _ g q) λY U d=>bp d λZ S j r N=>⟨j.j5,?_⟩) C c;show Iz F L b .nil yI j r (by rw[ee];show N)
def Tn:R2:=λx y H Q=>∃a b c,x= .ref a/\y= .ref b/\H a=some (.dK c)/\H b=some (.dK [])/\Q (.bl c.isEmpty) H
def Si{X:Cx}(K:X.A.units+64<cLine):eJ X (fT .Eq) Tn:=by
 intro t s σ H x y v u Q I F G h;show jE h λa b f g j C D q=>?_;subst h g;subst j;cases F;cases G;show cY (xV I.aA C) λz hd c=>ai c λl rel B=>?_;clear c;show cY (xV I.aA D) λL n d=>ai d λJ k m=>?_;clear d;cases k;have p:f.length=l.length:=Paired.length rel;show PySem.W.keq_eq (knd:=fQ X.prog X.w) (r:=true) hd n B m QA (λe=>?_) ⟨.bl f.isEmpty,H,I,?_,q⟩
 .cases l with
  |nil=>show .nil
  |cons _ _=>cases e
 .show Value.bool _=Value.bool _;congr 1;cases f with
  |nil=>cases l with
   |nil=>rfl
   |cons _ _=>cases p
  |cons _ _=>cases l with
   |nil=>cases p
   |cons _ _=>rfl
end L2
namespace L2
open PySem PySem.Spec PyProof.Rows
open AutoSeq1 (wpAny_loadPart')
abbrev pH(t:Tok):List (Str×af):= [("start",.int 1 t)]
set_option maxHeartbeats 1000000 in
theorem Pq(l:ab)(a:Array af)(n:Nat)(t:Tok)(e:Option ab)(k:Array (Option af)):
  Meets (Builtin.«enumerate.__new__» ⟨[.type "enumerate",.ref l],pH t⟩) (λ_ R s=>s.heap.get? l=some {cls:= .type "list",dict:=e,data:= .seq a n,slots:=k}/\
   R (.ok (.ret (.ref (s.heap.push {cls:= .type "list_iterator",data:= .fields #[.ref l,.int 0 0]}).objs.size)))
    {s with heap:=(s.heap.push {cls:= .type "list_iterator",data:= .fields #[.ref l,.int 0 0]}).push {cls:= .type "enumerate",data:= .fields #[.none,.bool false,.ref s.heap.objs.size,rawInt 1,.none,.none]}}):=
 .of_wp λprog w A R s h=>by
  obtain⟨j,g,d,m,os⟩:=s;obtain⟨b,h⟩:=h;have i:=sub_enumerate;have f:Heap.IsList (Shared.heap ⟨j,g,d,m,os⟩) l a:=⟨_,b,rfl,n,rfl⟩
  wp_walk using DQ b
  refine wpAny_stack_any λo=>bD ?_;split
  .rename_i c _ _ _ _ _;cases(c==Value.type "enumerate")
   .wp_walk using DQ b,wO f
    exact⟨_,rfl,h⟩
   .wp_walk using DQ b,wO f
    exact⟨_,rfl,h⟩
  .wp_walk using DQ b,wO f
   exact⟨_,rfl,h⟩
def W0(a:af)(t:Tok):checkTypeCall "enumerate" ⟨[a],pH t⟩=pure ():=by kernel_rfl
def Rh(a:af)(t:Tok):checkBuiltinCall "enumerate.__new__" ⟨[.type "enumerate",a],pH t⟩=pure ():=by kernel_rfl
section
variable {prog:aE}{w:aC}{A:dj}{E:af->ao->Prop}{s:ao}
def Qg{b a:af}{t:Tok}(f:typeLookup (.type "enumerate") "__init__"=pure (some (.builtin "object.__init__")))(g:Bind.madeBy (.type "enumerate")=pure (some "enumerate.__new__")):
  Meets (Builtin.«object.__init__» ⟨[b,a],pH t⟩) (λ_ R s=>s.TypeIs b "enumerate"/\R (.ok (.ret .none)) s):=by
 show Meets.of_wp λprog w A R s d=>?_;obtain⟨e,c⟩:=d
 repeat (any_goals (first | assumption | wp_step))
 show⟨_,rfl,c⟩
def Qe(b a:af)(t:Tok):argsOk "object.__init__" ⟨[b,a],pH t⟩:=by
 first | kernel_rfl | decide +kernel
def MO{l:ab}{a:Array af}{t:Tok}{Q:af->ao->Prop}(v:s.heap.IsList l a)
  (h:∀i,IsEnum i (s.heap.objs.size+1) s.heap.objs.size 1 .none->i.IsListIter s.heap.objs.size l 0->i.objs.size=s.heap.objs.size+2->(∀b o,s.heap.get? b=some o->i.get? b=some o)->Q (.ref (s.heap.objs.size+1)) {s with heap:=i}):
  aM (model prog w) A (call (.type "enumerate") [.ref l] (pH t)) Q E s:=by
 show bA v λj J m f=>jC f λn hd=>?_;clear f;clear v;obtain⟨c,k,G,K⟩:=j;replace m:c= .type "list":=m;replace hd:G= .seq a n:=hd;subst m;subst hd;have d:=F.called_enumerate;show ic d.mro λc N B=>?_;have g:=d.made;have D:=d.sub;show wpAny_call (codeAny_of_tree ?_);show aM _ _ (callAny (.type "enumerate") _) _ _ _;show bD ⟨Code.quiet_builtin _ QC,pB F.entry_type_call ?_⟩;rw[Around.under_plain (weight_type_call_type "enumerate" [.ref l] (pH t)) (units_type_call_type "enumerate" [.ref l] (pH t))];have L:=d.notType;have M:=d.canCreate;have I:=W0 (.ref l) t;have u:(s.heap.push {cls:= .type "list_iterator",data:= .fields #[.ref l,.int 0 0]}).objs.size=s.heap.objs.size+1:=iH ..
 repeat (any_goals (first | assumption | wp_step))
 show sR (Fx d.plain F.entry_enumerate_new (wpAny_of_eq (Rh _ t) (Pq l a n t k K prog w A.in1 (wants (λobj s₁=>s₁.TypeIs obj "enumerate"/\Q obj s₁) E) s ⟨J,?_⟩))) λr s₁ hr=>?_
 .show _/\_;rw[u];have z:IsEnum ((s.heap.push {cls:= .type "list_iterator",data:= .fields #[.ref l,.int 0 0]}).push {cls:= .type "enumerate",data:= .fields #[.none,.bool false,.ref s.heap.objs.size,rawInt 1,.none,.none]}) (s.heap.objs.size+1) s.heap.objs.size 1 .none:=by have q:=fj (s.heap.push {cls:= .type "list_iterator",data:= .fields #[.ref l,.int 0 0]}) (o:={cls:= .type "enumerate",data:= .fields #[.none,.bool false,.ref s.heap.objs.size,rawInt 1,.none,.none]}) rfl;rw[u]at q;show q
  show⟨⟨_,z,rfl⟩,h _ z ⟨_,ed _ (fj _ rfl),rfl,rfl⟩ (by rw[iH,u]) λb o x=>ed _ (ed _ x)⟩
 cases r with
 |error e=>show hr
 |ok fl=>
  cases fl with
  |ret obj=>
   obtain⟨y,C⟩:=hr;have p:=d.init.lookup;have H:=d.init.bind obj
   repeat (any_goals (first | assumption | wp_step))
   show sR (Fx d.init.plain F.entry_object_init (d.init.check _ _ _ _ _ _ _ _ y (Qe _ _ t) (Qg p g prog w A.in1 (wants (λr s₂=>r= .none/\Q obj s₂) E) s₁ ⟨y,rfl,C⟩))) λr₂ s₂ hr₂=>?_;cases r₂ with
   |error e=>show hr₂
   |ok fl₂=>
    cases fl₂ with
    |ret r=>
     obtain⟨rfl,C⟩:=hr₂
     repeat (any_goals (first | assumption | wp_step))
    |_=>show hr₂.elim
  |_=>show hr.elim
end
def Pj{prog:aE}{w:aC}{A:dj}(u:A.handled=none)(g l:ab)(m:l≠g)(a:Array af):
  Draws prog w A g [g,l] (a.size+1) (λi v=>∃j,i=j+1/\a[j]? =some v) (λi h=>∃j,i=j+1/\h.IsListIter g l j/\h.IsList l a) where
 live:=λ_ _ b=>bA b λ_ _ z _=>let⟨o,y,_⟩:=z;⟨o,y⟩
 frame:=λ_ _ _ b p=>bA b λj e k c=>⟨j,e,k.at λo e=>p g QD o e,c.at λo e=>p l QD o e⟩
 item:=λi s Q E B b t=>bA b λj e k c=>by have n:j<a.size:=QA;show wpAny_nextOf_list_item k c (x:=a[j]) (by simp[n]) λq d f=>?_;show t _ q s.toks ⟨j,e,by simp[n]⟩ ⟨j+1,QA,d,c.extBut f.extBut m⟩ f
 done:=λs Q E b r=>bA b λj e k c=>wpAny_nextOf_list_end u k c (by simp;lia) r
section
variable {prog:aE}{w:aC}{A:dj}{E:af->ao->Prop}{s:ao}
def Rl{e m l:ab}{i:Nat}{f:Array af}{x v:af}{Q:Option af->ao->Prop}(K:A.handled=none)(t:IsEnum s.heap e m ((i+1:Nat):Int) v)(n:s.heap.IsListIter m l i)(D:s.heap.IsList l f)(u:f[i]? =some x)(p:e≠m)
  (J:∀g r,IsEnumOut g e m (((i+1:Nat):Int)+1) x s.heap.objs.size->g.IsListIter m l (i+1)->g.get? s.heap.objs.size=some {cls:= .type "tuple",data:= .seq #[.int ((i+1:Nat):Int) r,x]}->g.objs.size=s.heap.objs.size+1->(∀b o,b≠e->b≠m->s.heap.get? b=some o->g.get? b=some o)->Q (some (.ref s.heap.objs.size)) {s with heap:=g,toks:=r+1}):
  aM (model prog w) A (pyNext (.ref e)) Q E s:=by
 have C:s.TypeIs (.ref e) "enumerate":=⟨_,t,rfl⟩;show bA (id D) λS g1 z h=>jC h λH N=>?_;clear h;show bA (id n) λT g2 B O=>?_;have H:l≠m:=λq=>by subst q;rw[g1]at g2;cases g2;rw[z]at B;show absurd (Value.type.inj B) QB
 have M:e≠l:=λq=>by subst q;rw[show s.heap.get? e=_ from t]at g1;cases g1;show absurd (Value.type.inj z) QB
 have R:i<f.size:=by
  rcases Nat.lt_or_ge i f.size with q | q
  .show q
  .rw[wV q]at u;cases u
 unfold pyNext;show aN (DO (wM (name:=Str.ofString "__next__") C F.slot_enumerate_next (p8 F.slot_enumerate_next C F.entry_enumerate_next (enumerate_next_itemD (Pj (by show K) m l H f) t ⟨i,rfl,n,D⟩ QA p (by simp[p,M]) λy g r ⟨j,P,G⟩ a ⟨L,I,b,_⟩ c d k=>?_) (F.args_enumerate_next_1 _))));obtain rfl:j=i:=QA;obtain rfl:L=j+1:=QA;rw[u]at G;cases G;show bD (J g r a b c d k)
def Po{e c l:ab}{i:Nat}{k:Int}{a:Array af}{j:af}{Q:Option af->ao->Prop}(r:A.handled=none)(n:IsEnum s.heap e c k j)(g:s.heap.IsListIter c l i)(t:s.heap.IsList l a)(v:a[i]? =none)(p:∀d,Heap.ExtBut c s.heap d->Q none {s with heap:=d}):aM (model prog w) A (pyNext (.ref e)) Q E s:=by have m:s.TypeIs (.ref e) "enumerate":=⟨_,n,rfl⟩;unfold pyNext;show aN (DO (wM (name:=Str.ofString "__next__") m F.slot_enumerate_next (p8 F.slot_enumerate_next m F.entry_enumerate_next ?_ (F.args_enumerate_next_1 _))));show aM _ _ (field (.ref e) 2 >>= _) _ _ _;show aN (wpAny_field n rfl (x:= .ref c) rfl ?_);show aN (wpAny_nextOf_list_end r g t v λd x f h=>ai h λo u q=>?_);show aN (wpAny_isInstance (T:="StopIteration") (b:=true) ⟨o,u,q⟩ isSubtype_stop ?_);show bD (p _ f)
end
def zG(K:aw)(a:ab):It:=
 ⟨λi H=>∃(xs:List V)(x:V),aj K H a xs/\xs[i]? =some x,λi H v b=>∃T x,v= .ref T/\H T=none/\b=upd H T (.tup [.int ((i+1:Nat):Int),x])/\∀xs,aj K H a xs->xs[i]? =some x,λi H=>∃xs:List V,aj K H a xs/\xs.length<=i⟩
def WQ{P:aE}{w:aC}{K:aw}{l:List Expr}{kk:Nat}{B:Pos}(a e f:ab):
  Turn P w K (.Tuple l kk B) (zG K a) [e,f] e (λi h=>(∃d,IsEnum h e f ((i+1:Nat):Int) d)/\h.IsListIter f a i/\e≠f) where
 mem:=QD
 obj:=λi h st b g=>by
  show cY st λr t _=>?_;clear st;obtain⟨d,j⟩:=r;obtain⟨o,S,C,hd⟩:=t;rcases(show b=e\/b=f by simpa using g)with z | z
  .show z▸⟨_,j,λv q=>nomatch q⟩
  .show z▸⟨o,S,λv q=>by rw[hd]at q;cases q⟩
 keep:=λi h J ⟨⟨d,j⟩,hi,c⟩ k=>⟨⟨d,k e QD _ j⟩,hi.at λo q=>k f QD o q,c⟩
 item:=by
  intro X M T L C i y s σ H E I D ⟨⟨d,j⟩,hit,c⟩ ⟨xs,x,F,U⟩;subst M T L;show bA (I.list F) λV Y p hz=>?_;show ai (Y.get U) λu hu ru=>?_;have l1:e<s.heap.objs.size:=dU j;have l2:f<s.heap.objs.size:=by obtain⟨_,q,_⟩:=hit;show dU q
  show Rl (I.ok.hd C) j hit p.isList (x:=u) (by simpa using hu) c λJ G S n hT a0 hk=>?_;show⟨_,rfl,wpAny_letOwnedTupleGo_enum (s:={s with heap:=J,toks:=G+1}) S λm R Z=>?_⟩;have N:m.get? s.heap.objs.size=some {cls:= .type "tuple",data:= .seq #[.int ((i+1:Nat):Int) G,u]}:=(Z.2 _ (oX l1)).trans hT;have new:fC X.prog X.w (upd H s.heap.objs.size (.tup [.int ((i+1:Nat):Int),x])) m s.heap.objs.size (.tup [.int ((i+1:Nat):Int),x]):=⟨by show 2<=dc;decide,[.int ((i+1:Nat):Int) G,u],.cons ⟨_,rfl⟩ (.cons ru .nil),⟨_,N,rfl,_,rfl⟩⟩;have I1:=I.DF (t':=G+1) (ch:= [e,f]) (λb ob g q=>(Z.2 b (λz=>g (by simp[z]))).trans (hk b ob (λz=>g (by simp[z])) (λz=>g (by simp[z])) q)) D (bo _) new;show aZ (.ref s.heap.objs.size) _ ⟨I1,rfl,⟨_,x,rfl,I.aA.fresh (bo _),rfl,λys hy=>by rw[I.ym hy F];show U⟩,⟨⟨u,?_⟩,n.at λo q=>(Z.2 f (Ne.symm c)).trans q,c⟩,λb g=>?_⟩
  .rw[show((i+1+1:Nat):Int)=((i+1:Nat):Int)+1 by lia];show R
  .have O:b<s.heap.objs.size:=by
    rcases(show b=e\/b=f by simpa using g)with z | z
    .show z▸l1
    .show z▸l2
   rw[az (eU O)];show(D b g).1
 done:=by intro X M T L C i y s σ H E I D ⟨⟨d,j⟩,hit,c⟩ ⟨xs,F,U⟩;subst M T L;show bA (I.list F) λV Y p hz=>?_;show fK (D f QD) λf0 f1 f2 f3 f4 f5=>?_;have hl:=Y.length;show Po (I.ok.hd C) j hit p.isList (by simp;lia) λJ eb=>⟨rfl,I.turned (t':=s.toks) (λb o g q=>eb b o g q) f0 f1 f3 f4 f5⟩
 self:=λA i s Q E ⟨⟨_,j⟩,_⟩ h=>DR j h
def Gw(K:aw)(c:TA):TI:=λσ H R=>c σ H λd b=>∃a e,d= [.ref a]/\aj K b a e/\R (zG K a) b
def Qc(K:aw){X:Cx}{e:Expr}{G:TA}{p l pk qk m:Pos}{c:Nat}{i:List Expr}{kk:Nat}(U:X.mg "enumerate"=none)(Q:PA X [e] G)(T:Gl X "enumerate":=by rfl)(D:dY [e] X.env= [(false,eval e X.env)]:=by rfl)(O:X.K=K:=by rfl):
  PI X (.Tuple i kk m) (.Call (.Name "enumerate" p) [e] [⟨some "start",.Constant (.int 1) c qk,pk⟩] l) (Gw K G):=by
 subst O;intro d s σ H R I h;show wL (qV I T U boot_enumerate ?_);have y:∀h:aH,True->∃k,(k=Keeper.frame\/k=Keeper.machine\/k=Keeper.boundFrame)/\PySem.W.Looks (model X.prog X.w) h (keeperOf (.type "enumerate")) k:=λh _=>⟨.machine,.inr (.inl rfl),.now⟩;show PySem.W.callWith_of (P:=λ_=>True) (by rw[D];rfl) y (evalArgs_kw2 rfl (br (Q l d s σ H _ I h) λus s1 g=>bp g λvs B J r1 F=>?_) (by rw[D];rfl));show kwAll_cons (br (aD (X:=X) d s1 σ B (λx n=>x= .int 1/\n=B) J ⟨rfl,rfl⟩) λv f g=>fO g λx n o rx u M=>kwAll_nil ⟨trivial,?_⟩);subst u;subst M;obtain⟨t,rfl⟩:=(show ∃t,v=Value.int 1 t from rx);show bp F λa xs u V q=>?_;subst F u;cases r1 with
 |cons r rr=>
  cases rr;cases r;show bA (o.list V) λZ rv p' hz=>?_;show MO (t:=t) p'.isList λN C hit Y y=>DR C ?_;have L:Inv X d σ n {f with heap:=N}:=o.kept (t':=f.toks) y;show gD (f.heap.objs.size+1) [f.heap.objs.size+1,f.heap.objs.size] _ _ n ⟨rfl,L,WQ a (f.heap.objs.size+1) f.heap.objs.size,⟨⟨.none,C⟩,hit,Nat.succ_ne_self _⟩,λb S=>?_,q⟩;have j:f.heap.objs.size<=b:=by
   rcases(show b=f.heap.objs.size+1\/b=f.heap.objs.size by simpa using S)with z | z
   .rw[z];show Nat.le_add_right _ _
   .rw[z];show bo _
  show o.qQ j (o.aA.fresh j)
def PK{K:aw}{a:ab}{xs:List V}{h j:Nat}{k:TS}{D:Ends}{σ:St}{H:Hp}(b:Nat->St->Hp->Prop)(r:b 0 σ H)(z:∀i σ H,i<=xs.length->b i σ H->aj K H a xs)
  (B:∀(i:Nat) x σ H T,xs[i]? =some x->b i σ H->H T=none->k {D with nx:=b (i+1),ct:=b (i+1),bk:=D.nx} ((σ.set h (some (.int ((i+1:Nat):Int)))).set j (some x)) (upd H T (.tup [.int ((i+1:Nat):Int),x]))) (u:∀σ H,b xs.length σ H->D.nx σ H):
  oa (zG K a) (vE K 2 (qS (aY h) (qS (aY j) x9))) k D σ H:=by
 exists λi m σ H=>m=xs.length-i/\i<=xs.length/\b i σ H,⟨xs.length,QD,cT _,r⟩;intro i m σ H c;show cY c λd y p=>?_;subst c d;have q:=z i σ H y p;by_cases f:i<xs.length
 .show .inr ⟨⟨xs,xs[i],q,dA f⟩,b (i+1),λσ' l F=>⟨xs.length-(i+1),QA,rfl,f,F⟩,λv l g=>fO g λT x o t n C=>?_⟩;subst o;subst n;show aZ T _ ⟨rfl,eV.of ar,rfl,aZ _ _ ⟨rfl,aZ _ _ ⟨rfl,rfl,B i x σ H T (C xs q) p t⟩⟩⟩
 .have e:i=xs.length:=QA;subst e;show .inl ⟨⟨xs,q,bo _⟩,u σ H p⟩
def PL{K:aw}{d:ab}{o:Obj}{kvs:List (Key×V)}{h j:Nat}{l:TS}{D:Ends}{σ:St}{H:Hp}(a:Nat->St->Hp->Prop)(u:a 0 σ H)(C:∀i σ H,i<=kvs.length->a i σ H->H d=some (.fe o (.dK kvs)))
  (F:∀(i:Nat) k v σ H T,kvs[i]? =some (k,v)->a i σ H->H T=none->l {D with nx:=a (i+1),ct:=a (i+1),bk:=D.nx} ((σ.set h (some (kV k))).set j (some v)) (upd H T (.tup [kV k,v]))) (z:∀σ H,a kvs.length σ H->D.nx σ H):
  oa (zH d o kvs) (vE K 2 (qS (aY h) (qS (aY j) x9))) l D σ H:=by
 exists λi m σ H=>m=kvs.length-i/\i<=kvs.length/\a i σ H,⟨kvs.length,QD,cT _,u⟩;intro i m σ H b;show cY b λc B p=>?_;subst b c;have q:=C i σ H B p;by_cases f:i<kvs.length
 .show .inr ⟨⟨q,f⟩,a (i+1),λσ' n I=>⟨kvs.length-(i+1),QA,rfl,f,I⟩,λv n g=>iN g λT k x G t y r=>?_⟩;subst t;subst r;show aZ T _ ⟨rfl,eV.of ar,rfl,aZ _ _ ⟨rfl,aZ _ _ ⟨rfl,rfl,F i k x σ H T G p y⟩⟩⟩
 .have e:i=kvs.length:=QA;subst e;show .inl ⟨⟨q,bo _⟩,z σ H p⟩
end L2
namespace L2
open PySem PySem.Spec PyProof.Rows
def Md:bootBuiltins "tuple"=some (.type "tuple"):=QC
section
variable {prog:aE}{w:aC}{A:dj}{E:af->ao->Prop}{s:ao}
def QY{d:ab}{o:Obj}{es:Array DictEntry}{ep:Nat}{Q:af->ao->Prop}(g:(d==sysModules)=false)(a:s.heap.get? d=some o)(e:o.ExactDict)(f:o.data= .dict es ep)(c:(es.size:Int)<2 ^ 63)
  (q:∀t n,Q (.int es.size t) {s with toks:=n}):aM (model prog w) A (call (.builtin "len") [.ref d]) Q E s:=by
 have b:s.TypeIs (.ref d) "dict":=⟨o,a,e.1⟩;show Calls.call_function_entry kind_len plain_len entry_len (args_len1 _) ?_;unfold Builtin.«len»;show aN (m:=oneArg "len" _) (bD ?_);show aN (m:=callSpecial? (.ref d) (Str.ofString "__len__")) (wM (name:=Str.ofString "__len__") b F.slot_dict_len (p8 F.slot_dict_len b F.entry_dict_len ?_ (F.args_dict_len_1 _)));show aM _ _ (dictSize d >>= _) _ _ s;unfold dictSize;show aN (aN (wpAny_dictEntries a f (bD ?_)));show aM _ _ (Builtin.Dict.pendingCount d >>= _) _ _ s;show aN (wpAny_pendingCount_other g ?_);show aN (wpAny_mkInt (bD ⟨_,rfl,?_⟩));rw[xf];show aM _ _ _ _ _ {s with toks:=s.toks+1};show aN (uq (bD ?_));show aN (wpAny_letGo ?_);show aM _ _ (if((es.size:Nat):Int)<0 then _ else _) _ _ _;rw[QH QA];show aM _ _ (if((es.size:Nat):Int)>=2 ^ 63 then _ else _) _ _ _;rw[QH QA];show aN (wpAny_mkInt (bD ⟨_,rfl,q _ _⟩))
end
def Tp:List V->Hp->VK->Prop:=λc H Q=>∃a b,c= [V.ref a]/\H a=some (.dT b)/\Q (.int b.length) H
def Ni{X:Cx}:gX X (.builtin "len") Tp:=by
 intro g s σ H C B Q I r h;show bp h λa c e p q=>?_;subst h e;show ai (vals1 r) λu d v=>?_;subst d;cases v;show cY ((show fC X.prog X.w H s.heap a (.dT c)from I.aA a _ p)) λz hd b=>ai b λD rel b=>jE b λo i x j k l m y=>?_;clear b;clear b;have f:i.size=c.length:=by rw[<-gW,m,ay,Paired.length rel]
 show QY hd j k l (by rw[f];rw[aQ]at z;lia) λt n=>?_;rw[f];show aZ (.int c.length) H ⟨I.tok _,⟨t,rfl⟩,q⟩
def tupK(K:aw){X:Cx}(b:X.K=K:=by rfl):gX X (.type "tuple") (λc H Q=>∃p a,c= [.ref p]/\((aj K H p a/\∀l,H l=none->Q (.ref l) (upd H l (.tup a)))\/(eV K H p a/\Q (.ref p) H))):=by subst b;show MU
end L2
namespace Rt
open Vblaan
def lcsR(a:Bytes)(f:List Bytes->Nat):List Bytes->Nat
 |[]=>0
 |b::bs=>if a=b then f bs+1 else max (f (b::bs)) (lcsR a f bs)
def lcs:List Bytes->List Bytes->Nat
 |[],_=>0
 |a::as,bs=>lcsR a (λc=>lcs as c) bs
def GS(a:List Bytes):lcs [] a=0:=rfl
def BH(as:List Bytes):lcs as []=0:=by cases as<;>rfl
def GR(a b:Bytes)(as c:List Bytes):lcs (a::as) (b::c)=if a=b then lcs as c+1 else max (lcs as (b::c)) (lcs (a::as) c):=rfl
def rowOf(as:List Bytes):List Bytes->List Nat
 |[]=> [lcs as []]
 |b::bs=>lcs as (b::bs)::rowOf as bs
def tab(b:List Bytes):List Bytes->List (List Nat)
 |[]=> [rowOf [] b]
 |a::as=>rowOf (a::as) b::tab b as
def Cw:∀a:List Bytes,rowOf [] a=fc (a.length+1) 0
 |[]=>by rw[rowOf,GS];rfl
 |b::a=>by rw[rowOf,GS,Cw a];rfl
def wg(as a:List Bytes):∃r,rowOf as a=lcs as a::r:=by cases a<;>show⟨_,rfl⟩
def T6(as a:List Bytes)(d:Nat):(rowOf as a).headD d=lcs as a:=by obtain⟨r,e⟩:=wg as a;rw[e];rfl
def Dt(a as:List Bytes):∃r,tab a as=rowOf as a::r:=by cases as<;>show⟨_,rfl⟩
def G7(c:Bytes)(as:List Bytes):∀a:List Bytes,nextRow c a (rowOf as a)=rowOf (c::as) a
 |[]=>by rw[rowOf,rowOf,BH,BH];rfl
 |d::ds=>by obtain⟨r,e⟩:=wg as ds;have b:=G7 c as ds;rw[e]at b;rw[rowOf,rowOf,e];show(if c=d then lcs as ds+1 else max (lcs as (d::ds)) ((nextRow c ds (lcs as ds::r)).headD 0))::nextRow c ds (lcs as ds::r)=_;rw[b,T6,GR]
def Fy(a:List Bytes):∀b:List Bytes,commonRows a b=tab a b
 |[]=>by show[fc (a.length+1) 0]=_;rw[tab,Cw]
 |c::l=>by show nextRow c a ((commonRows a l).headD [])::commonRows a l=_;rw[Fy a l];obtain⟨r,e⟩:=Dt a l;rw[tab,e];show nextRow c a (rowOf l a)::_=_;rw[G7]
def Du(b:Bytes)(d:List Bytes):∀c:List Bytes,(tab (b::d) c).map (λr=>r.drop 1)=tab d c
 |[]=>rfl
 |a::c=>by rw[tab,tab,eD,Du b d c];rfl
def jN:Nat->List Bytes->List Bytes->List Nat
 |0,_,_=> []
 |_+1,[],c=>c.map λ_=>2
 |_+1,as,[]=>as.map λ_=>1
 |f+1,a::as,b::c=>if a=b then 0::jN f as c else if lcs (a::as) c<=lcs as (b::c)then 1::jN f as (b::c)else 2::jN f (a::as) c
def yE:∀(f:Nat)(as c:List Bytes),opsFrom f as c (tab c as)=jN f as c
 |0,as,c=>rfl
 |f+1,[],c=>rfl
 |f+1,a::as,[]=>rfl
 |f+1,a::as,b::c=>by
  show(if a=b then 0::opsFrom f as c (((tab (b::c) (a::as)).drop 1).map λr=>r.drop 1)
   else if(((tab (b::c) (a::as)).getD 0 []).getD 1 0)<=(((tab (b::c) (a::as)).getD 1 []).getD 0 0)then 1::opsFrom f as (b::c) ((tab (b::c) (a::as)).drop 1)
    else 2::opsFrom f (a::as) c ((tab (b::c) (a::as)).map λr=>r.drop 1))=_
  have d:(tab (b::c) (a::as)).drop 1=tab (b::c) as:=rfl;have g:((tab (b::c) (a::as)).getD 0 []).getD 1 0=lcs (a::as) c:=by show(rowOf (a::as) (b::c)).getD 1 0=_;obtain⟨r,e⟩:=wg (a::as) c;rw[rowOf,e];rfl
  have h:((tab (b::c) (a::as)).getD 1 []).getD 0 0=lcs as (b::c):=by show((tab (b::c) as).getD 0 []).getD 0 0=_;obtain⟨r,e⟩:=Dt (b::c) as;rw[e];rfl
  rw[g,h,d,Du,Du,yE f as c,yE f as (b::c),yE f (a::as) c];rfl
def Hy(as a:List Bytes):ops as a=jN (as.length+a.length+1) as a:=by unfold ops;rw[Fy,yE]
def uo:∀(f g:Nat)(as c:List Bytes),as.length+c.length<f->as.length+c.length<g->jN f as c=jN g as c
 |0,_,_,_,h,_=>absurd h (xl _)
 |_+1,0,_,_,_,h=>absurd h (xl _)
 |f+1,g+1,[],c,_,_=>rfl
 |f+1,g+1,a::as,[],_,_=>rfl
 |f+1,g+1,a::as,b::c,hf,hg=>by simp only[aG]at hf hg;rw[jN,jN,uo f g as c QA QA,uo f g as (b::c) (by simp only[aG];lia) (by simp only[aG];lia),uo f g (a::as) c (by simp only[aG];lia) (by simp only[aG];lia)]
end Rt
namespace Rp
open PySem PySem.Spec PyProof.Rows L2
local macro_rules | `(tactic|k_in)=>`(tactic| try dsimp only[bC,cJ,bg,bX,bY,cn,cg,cI,cf,ck,bZ,bW,bI,tB,tC,aB,aX,aU,aV,aW,cy,cv,cB,cD,cA,cC,cF,cH,cE,cG,a8,bQ,rU,bE,rI,bM,bO,bK,bf,aY,cj,bR,a7,bF,aL,aR,cu,bP,wipe,L2.start,aG,dC,ee,Bool.not_true,Bool.not_false,bS,cb,bT,bU,bN,bw,b6,bH,bV,bJ,cN,cO,cP,cQ,cK,cM,cR,cS,Nat.reduceAdd,Nat.reduceSub,List.replicate_zero,qw])
local macro_rules | `(tactic|lk)=>`(tactic| (k_in);(try ((simp only[rV.injEq,df.injEq,V.int.injEq,V.bl.injEq,V.ref.injEq,V.str.injEq,exists_eq_left',exists_eq_left,exists_and_left,exists_eq_right,exists_const,reduceCtorEq,false_and,true_and,and_true,or_false,false_or,exists_false,rO,if_false,if_true,decide_true,decide_false]);(k_in))))
local macro_rules | `(tactic| walk_at"bend")=>`(tactic| (rw[kN];simp only[eC,uz,QK,Bool.not_eq_true',decide_eq_false_iff_not,bne_iff_ne,ne_eq,rO,false_iff,iff_false,true_iff,iff_true,reduceCtorEq]at *;lia))
section
variable {P:aE}{w:aC}{K:aw}{mg:Str->Option af}{base:aH}{ad:Ad}
def Vt:Sp:=λa H Q _=>∃b:Nat,a= [vn b]/\Q (.bl (ph b)) H
def Hj(G:bh K mg ad):bu P w K mg base 1 "is_letter" ["byte"] Vt:=by
 show G.N8.hsX Uq λf d A c s H g Q E e h=>?_;show ai h λb a k=>?_;subst h a;exists _,(aq (aK (Ce (mF fF fF aD (pv 0) aD) (tP (mF fF fF aD (pv 0) aD)))));lk
 repeat' split
 all_goals (show iL k ?_;unfold ph;walk_at"bend")
def Vr:Sp:=λa H Q _=>∃b:Nat,a= [vn b]/\Q (.bl (jB b)) H
def Hh(G:bh K mg ad):bu P w K mg base 1 "is_digit" ["byte"] Vr:=by
 show G.N6.hsX Uo λf d A c s H g Q E e h=>?_;show ai h λb a k=>?_;subst h a;exists _,(aq (aK (mF fF fF aD (pv 0) aD)));lk
 repeat' split
 all_goals (show iL k ?_;unfold jB;walk_at"bend")
def Vz:Sp:=λa H Q _=>∃b:Nat,a= [vn b]/\Q (.bl (decide (33<=b)&&(decide (b<=126)&&(b != 123&&b != 125)))) H
def RO(G:bh K mg ad):bu P w K mg base 1 "is_word_sign" ["byte"] Vz:=by
 show G.Oe.hsX Ut λf e A c s H i Q E g h=>?_;show ai h λb a k=>?_;subst h a;have d:=g.units;exists _,(aq (aK (yJ (mF pO fF (gi G.qI) (pv 0) (gi G.Fe)) (yJ (rh (yt d) (pv 0) (gi G.Fg) QE) (tP (rh (yt d) (pv 0) (gi G.AL) QE))))));lk
 repeat' split
 all_goals (show iL k ?_;walk_at"bend")
def zf:Sp:=λa H Q _=>∃x:Str,a= [.str x]/\x.length<=dc/\gH H (.lst (vr x.cps.toList)) Q
def jd(G:bh K mg ad):bu P w K mg base 1 "row_of" ["text"] zf:=by
 show G.OR.hsX Dc λf n A d s H z Q E u h=>?_;show bA h λx a r k=>?_;subst h a;exists _,(aq (aK (pl (own:= [("sign",1)]) rfl Dc.nd (SS (pv 0)) (jT (by kernel_rfl)) (λ_ _ _ _ _=>(gnX 1 Dc.nd)) (λ_ _ _ _ _=>oy) (λ_ _ _ _ _=>(di Nj QE G.L0 Ma (ae (pv 1) ag))))));show⟨x,rfl,QV (λv=>match v with | .str y=>some (.int (y.cps.getD 0 0:Nat)) | _=>none) r (λD v m C q e g i o=>?_) λD j e g i=>k D j e g ?_⟩
 .show ai (dM.mp q) λc p b=>?_;subst b;unfold gM;lk;show⟨rfl,o m (ah.refl _)⟩
 .rw[i];unfold uf;rw[List.filterMap_map];congr 2;induction x.cps.toList with
  |nil=>rfl
  |cons c l t=>rw[nK,t];rfl
def KA(n:Nat):(Str.ofString (toString (n:Int))).cps.toList=cV n:=by rw[Str.ofString_eq_toList];unfold cV;rfl
def VH:Sp:=λa H Q _=>∃n:Nat,a= [vn n]/\n<=1000000000000000000/\gH H (.lst (vr (cV n))) Q
def nD(G:bh K mg ad):bu P w K mg base 2 "number_row" ["number"] VH:=by
 show G.Ox.hsX Ux λf d A b s H j Q E i h=>?_;show bA h λn a g k=>?_;subst h a;exists _,(aq (aK (pqX (jd G) i (ae (yK Nr QE G.L5 Mc (ae (pv 0) ag)) ag))));lk;exists ?_,_,rfl,?_
 .rw[Int.natAbs_natCast];by_cases c:n=0
  .subst c;decide
  .show(Nat.log2_lt c).mpr (Ac g QB)
 .have e:=KA n;have l:=Rt.iB (n:=n) (k:=19) QB QA;rw[<-e,gW]at l;show(Str.ofString (toString (n:Int))).cps.size<=dc;rw[aQ];lia
 .rw[KA];show k
def Vw:Sp:=λd H Q _=>∃a b,d= [.ref a]/\L2.Row H a b/\b.length<=dc/\∀c,ah H c->Q (.bl (b.all me)) c
def Hk(G:bh K mg ad):bu P w K mg base 1 "is_plain" ["row"] Vw:=by
 show G.Ob.hsX C4 λf j A d s H t Q E p h=>?_;show fO h λa r b e o k=>?_;subst h b;exists _,(aq (aK (di (xS rfl) QE G.sL sP (ae (pl (own:= [("byte",1)]) rfl C4.nd (rj (pv 0)) (jT (by kernel_rfl)) (λ_ _ _ _ _=>(gnX 1 C4.nd)) (λ_ _ _ _ _=>oy) (λ_ _ _ _ _=>(mF fF fF (gi G.Ml) (pv 1) (gi G.Fe)))) ag))));show⟨a,rfl,⟨_,aj.of e⟩,yh me e o (λc i C n=>?_) λD g l m=>⟨D,_,rfl,m,by rw[xJ];show k g l⟩⟩;unfold gM;have q:=n i (ah.refl _);unfold me at q;lk;split
 all_goals (show iL (Q:=λv H=>C (some v) H) q ?_;walk_at"bend")
def Vy:Sp:=λd H Q _=>∃a b,d= [.ref a]/\L2.Row H a b/\b.length<=dc/\∀c,ah H c->Q (.bl (pj b)) c
def BZ(G:bh K mg ad):bu P w K mg base 2 "is_word" ["row"] Vy:=by
 show G.Od.hsX C5 λf l A g s H r Q E q h=>?_;show fO h λa d b e p k=>?_;subst h b;exists _,(aq (aK (yJ (mF fF fF aD (di nh QE G.dN dO (ae (pv 0) ag)) (gi G.Mt)) (tP (di (xS rfl) QE G.sL sP (ae (pl (own:= [("byte",1)]) rfl C5.nd (rj (pv 0)) (jT (by kernel_rfl)) (λ_ _ _ _ _=>(gnX 1 C5.nd)) (λ_ _ _ _ _=>oy) (λ_ _ _ _ _=>(pqX (RO G) q (ae (pv 1) ag)))) ag))))));lk;exists _,qW e;split
 .split
  .show⟨a,rfl,⟨_,aj.of e⟩,yh (λc=>decide (33<=c)&&(decide (c<=126)&&(c != 123&&c != 125))) e p (λc j C o=>?_) λD i m n=>⟨D,_,rfl,n,?_⟩⟩
   .unfold gM;lk;show⟨c,rfl,o j (ah.refl _)⟩
   .rw[xJ];show iL (k i m) ?_;unfold pj;simp only[QK]at *;rw[QI (show 1<=d.length by lia),QI (show d.length<=12 by lia)];rfl
  .show iL (k H (ah.refl _)) ?_;unfold pj;simp only[QK]at *;rw[QJ (show ¬d.length<=12 by lia)];simp
 .show iL (k H (ah.refl _)) ?_;unfold pj;simp only[QK]at *;rw[QJ (show ¬1<=d.length by lia)];simp
def Vu:Sp:=λd H Q _=>∃a b,d= [.ref a]/\L2.Row H a b/\b.length<=dc/\∀c,ah H c->Q (.bl (eQ b)) c
def yy(G:bh K mg ad):bu P w K mg base 2 "is_name" ["row"] Vu:=by
 show G.N9.hsX C3 λf t A o s H x Q E n h=>?_;show fO h λa g d m v k=>?_;subst h d;show⟨_,(ak (bL (rA (fZ (wa fF fF aD (di nh QE G.dN dO (ae (pv 0) ag)) (gi G.Mr))) (tS (fZ (ez (pqX (Hj G) n (ae (cz tD (pv 0) aD (λ_ _=>rfl)) ag)))))).pt
 (aq (aK SA))
 de)
 (aq (aK (di (xS rfl) QE G.sL sP (ae (pl (own:= [("byte",1)]) rfl C3.nd (rj (pv 0)) (jT (by kernel_rfl)) (λ_ _ _ _ _=>(gnX 1 C3.nd)) (λ_ _ _ _ _=>oy) (λ_ _ _ _ _=>(Ce (pqX (Hj G) n (ae (pv 1) ag)) (tP (pqX (Hh G) n (ae (pv 1) ag)))))) ag))))),?_⟩
 k_in;exists _,qW m;have bad:(¬1<=g.length\/¬g.length<=8)->Q (.bl false) H:=λh=>by
  show iL (k H (ah.refl _)) ?_;unfold eQ;rcases h with h | h
  .rw[QJ h];simp
  .rw[QJ h];simp
 split
 .rename_i i;simp only[QK]at i;by_cases j:(g.length:Int)<=8
  .obtain⟨c,l,rfl⟩:∃c l,g=c::l:=by
    cases g with
    |nil=>simp at i
    |cons c l=>show⟨c,l,rfl⟩
   rw[QI j];k_in;show .inl ⟨a,_,0,vn c,rfl,rfl,aj.of m,fu rfl,c,rfl,?_⟩;show ?_;have e:eQ (c::l)=(ph c&&(c::l).all λc=>ph c||jB c):=by unfold eQ;rw[QI (show 1<=(c::l).length by lia),QI (show(c::l).length<=8 by lia)];rfl
   cases b:ph c with
   |false=>rw[b]at e;show iL (k H (ah.refl _)) e
   |true=>
    rw[b,wX]at e;show⟨a,rfl,⟨_,aj.of m⟩,yh (λc=>ph c||jB c) m v (λc r C b=>?_) λD p j u=>⟨D,_,rfl,u,?_⟩⟩
    .unfold gM;lk;have q:=b r (ah.refl _);exists c,rfl;cases b:ph c with
     |true=>rw[b]at q;show q
     |false=>rw[b]at q;show⟨c,rfl,q⟩
    .rw[xJ,<-e];show k p j
  .rw[QJ j];show bad (.inr QA)
 .rename_i i;simp only[QK]at i;show bad (.inl QA)
def Vn:Sp:=λb H Q _=>∃(a:ab)(ns:List Nat)(n:Nat),b= [.ref a,vn n]/\L2.Row H a ns/\ns.length<=100000/\n<=1000/\gH H (.lst (vr (fJ n ns))) Q
def rf(G:bh K mg ad):bu P w K mg base 1 "filled_up" ["row","size"] Vn:=by
 show G.NW.hsX Uk λf o A j s H B Q E y h=>?_;show jE h λa ns n b c v x k=>?_;subst h b;exists _,(aq (aK (cU gh (pv 0) (cU BS (bt (ae (gi G.qI) ag)) (cU lF (pv 1) (di nh QE G.dN dO (ae (pv 0) ag)))))));lk;show⟨QB,λp i=>⟨_,qW (a:=a) (ns:=ns) ((ah.new i) _ _ c),_,ar,QA,QA,?_,λq d=>?_⟩⟩
 .show 1*_<=_;rw[aQ];lia
 .have g:ah H (upd H p (.lst [.int 32])):=ah.new i;have r:a≠p:=eu c i;have t:a≠q:=eu (g _ _ c) d;show⟨vr ns,(g.trans (ah.new d)) _ _ c,_,ar,?_,λz l=>?_⟩
  .rw[dh,List.length_flatten,aQ];simp;lia
  .show k z _ ((g.trans (ah.new d)).free l) ((g.trans (ah.new d)).trans (ah.new l)) ?_;rw[ar];congr 2;unfold fJ;rw[<-iG];congr 1;have e:((n:Int)-(ns.length:Int)).toNat=n-ns.length:=QA;rw[e];induction (n-ns.length)with
   |zero=>rfl
   |succ m u=>rw[qw,rX,u];rfl
def Vl:Sp:=λb H Q _=>∃(p:ab)(a:List (List Nat)),b= [.ref p]/\Rows H p a/\(a.flatMap λl=>l++[10]).length<=1000000/\gH H (.lst (vr (a.flatMap λl=>l++[10]))) Q
def BW(G:bh K mg ad):bu P w K mg base 1 "ended_lines" ["lines"] Vl:=by
 show G.NT.hsX CZ λf M A C s H W Q E U h=>?_;show fO h λp b t z I k=>?_;subst h t;obtain⟨as,J,u⟩:=z;show⟨_,(ak (stX 1 CZ.nd (bt ag))
 (ak (fA rfl (rj (pv 0)) (gnX 2 CZ.nd)
 (ak (dR (nE kZ LB LG G3 (pv 1) (ae (pv 2) ag)))
 (aq (dR (nE kZ sr su qY (pv 1) (ae (gi G.AN) ag))))))
 (aq (aK (pv 1))))),?_⟩
 lk;show⟨QB,λq o=>⟨p,rfl,⟨_,aj.of ((ah.new o) _ _ J)⟩,forL (xs:=as.map V.ref) (λi σ n=>∃v,σ= [some (.ref p),some (.ref q),v]/\ah H n/\L2.Row n q ((b.take i).flatMap λl=>l++[10])) ⟨none,rfl,ah.new o,ar⟩ (λi σ n _ B=>bA B λ_ _ r _=>aj.of (r _ _ J)) ?_ ?_⟩⟩
 .intro i x σ n y j;show bA j λv c r d=>?_;subst j c;obtain⟨a,O,rfl⟩:∃a,as[i]? =some a/\x=V.ref a:=by
   rw[eP]at y;cases e:as[i]? with
   |none=>rw[e]at y;cases y
   |some a=>rw[e]at y;show⟨a,rfl,(df.inj y).symm⟩
  show ai (Paired.get' u O) λL R g=>?_;have D:(b.take (i+1)).flatMap (λl=>l++[10])=(b.take i).flatMap (λl=>l++[10])++(L++[10]):=by rw[take_snoc R,gc];simp
  have T:((b.take i).flatMap (λl=>l++[10])).length+(L.length+1)<=1000000:=by
   have N:b.flatMap (λl=>l++[10])=(b.take (i+1)).flatMap (λl=>l++[10])++(b.drop (i+1)).flatMap (λl=>l++[10]):=by rw[<-gc,jQ]
   rw[N,D]at I;simp only[aP,aG,dC]at I;lia
  have S:a≠q:=eu g o;lk;show⟨.inl ⟨rfl,_,aj.of d⟩,eY q a _ _ ⟨rfl,rfl,d,r _ _ g,?_,?_⟩⟩
  .rw[dh,dh,aQ];lia
  .lk;show⟨.inl ⟨rfl,_,aj.of ar⟩,aJ q _ _ ⟨rfl,rfl,ar,?_,?_,?_⟩⟩
   .rw[aP,dh,dh,aQ];lia
   .show(r.upd o).upd o
   .show upd _ _ _ _=_;rw[ar,D,<-iG,<-iG,eZ];rfl
 .intro σ n m;show bA m λv c r d=>?_;subst m c;rw[ay,Paired.length u,gk]at d;lk;show k q n o r d
def V8:Sp:=λb H Q _=>∃(a:ab)(ns:List Nat),b= [.ref a]/\L2.Row H a ns/\ns.length<=1000000/\gH H (.lst (vr (kx ns))) Q
def Sd(G:bh K mg ad):bu P w K mg base 1 "without_end_blanks" ["row"] V8:=by
 show G.Pa.hsX De λf C A x s H M Q E F h=>?_;show fO h λa d b t L k=>?_;subst h b;have I:=F.units;show⟨_,(ak (stX 1 De.nd (di nh QE G.dN dO (ae (pv 0) ag)))
 (ak (Ck PassesOwn.never (gS (cW vR (pv 1) aD QE) (ju (cW (oEq I) (cz tD (pv 0) (cU lF (pv 1) aD) (λ_ _=>rfl)) (gi G.qI) QE))).pt
 (aq (ro (i:=1) De.nd rfl (Or.inl rfl) aD BA)))
 (aq (aK (jf wG (pv 0) lG (gR (pv 1))))))),?_⟩
 lk;exists _,qW t;have pos:∀n:Nat,0<n->n<=d.length->∃c,d[n-1]? =some c:=λn g z=>⟨_,dA QA⟩;have done:∀n:Nat,n<=d.length->kx d=kx (d.take n)->(∀c,d[n-1]? =some c->0<n->c≠32)->jK (jv K) (aB 0) lJ (jJ (aB 1)) [some (V.ref a),some (vn n)] H Q:=λn g z D=>by
  show⟨_,rfl,aZ a _ ⟨rfl,aj.of t,λq B=>k q _ B (ah.new B) ?_⟩⟩;rw[ar,sS,p7,z];congr 3;by_cases m:0<n
  .obtain⟨c,o⟩:=pos n m g;rw[Rt.KR o m,Rt.WL (D c o m)]
  .rw[show n=0 by lia];rfl
 show DK (λσ H'=>∃n:Nat,σ= [some (.ref a),some (vn n)]/\H'=H/\n<=d.length/\kx d=kx (d.take n)) (λσ _=>match σ with | [_,some (.int i)]=>i.toNat | _=>0) ⟨d.length,rfl,rfl,bo _,by rw[gk]⟩ ?_;intro σ H' l;show sV l λn p b u e=>?_;subst l p;subst b;lk;split
 .rename_i m;simp only[QK]at m;obtain⟨c,o⟩:=pos n QA u;show dk (v:=vn c) (aj.of t) (at_of (j:=n-1) QA (oJ o)) ?_;lk;split
  .rename_i g;have g:c=32:=by simp only[QK]at g;lia
   subst g;show⟨λσ' y=>σ'= [some (.ref a),some (vn (n-1))]/\y=H',?_,?_,rfl⟩
   .rintro σ' y ⟨rfl,rfl⟩;exists n-1,QA,by show n-1=(((n-1:Nat):Int)).toNat;lia,n-1,rfl,rfl,QA
    rw[e,Rt.KR o QA,Rt.WJ]
   .rw[show((n:Int)-1)=((n-1:Nat):Int)by lia]
  .rename_i g;simp only[QK]at g;show done n u e λJ r _=>by rw[o]at r;cases r;lia
 .rename_i m;simp only[QK]at m;show done n u e λc _ h=>absurd h QA
def V0:Sp:=λc H Q _=>∃(a:ab)(ns:List Nat)(b:Nat),c= [.ref a,vn b]/\L2.Row H a ns/\ns.length<=1000000/\qx H (Rt.bc b ns) Q
def vQ(G:bh K mg ad):bu P w K mg base 1 "split_at" ["row","byte"] V0:=by
 show G.OX.hsX t8 λf Z A W s H vs Q E hr h=>?_;show iN h λa M b B J hl k=>?_;subst h B;have hu:=hr.units;show⟨_,(ak (stX 2 t8.nd (bt ag))
 (ak (stX 3 t8.nd aD)
 (ak (fA rfl (SO rfl G.EU (ae (pv 0) ag)) (HU rfl (nF (gnX 4 t8.nd) (nF (gnX 5 t8.nd) vV)))
 (aq (bL (cW (oEq hu) (pv 5) (pv 1) QE)
  (ak (dR (nE kZ sr su qY (pv 2) (ae (jf wG (pv 0) (gR (pv 3)) (gR (pv 4))) ag)))
  (aq (stX 3 t8.nd (cU gh (pv 4) aD))))
  de)))
 (ak (dR (nE kZ sr su qY (pv 2) (ae (jf wG (pv 0) (gR (pv 3)) lG) ag)))
 (aq (aK (pv 2))))))),?_⟩
 lk;show⟨QB,λp L=>⟨a,_,rfl,aj.of ((ah.new L) _ _ J),PJ (xs:=vr M) (λi σ t=>∃(N:Nat)(P:List (List Nat))(as:List ab)(u v:Option V),σ= [some (.ref a),some (vn b),some (.ref p),some (vn N),u,v]/\ah H t/\t p=some (.lst (as.map V.ref))/\b9 (del t p) as P/\(∀x∈as,H x=none)/\P.length<=i/\Rt.k0 b M i P N) ⟨0,[],[],none,none,rfl,ah.new L,ar,.nil,(λx z=>nomatch z),bo _,Rt.k0.zero b M⟩ (λi σ t _ U=>nk U λ_ _ _ _ _ _ r _=>aj.of (r _ _ J)) ?_ ?_⟩⟩
 .rintro i x σ t T z ⟨N,Y,as,u,v,rfl,r,d,g,l,X,I⟩ D;obtain⟨c,R,rfl⟩:∃c,M[i]? =some c/\x=vn c:=by
   rw[eP]at z;cases e:M[i]? with
   |none=>rw[e]at z;cases z
   |some a=>rw[e]at z;show⟨a,rfl,(df.inj z).symm⟩
  lk;have j:p≠T:=eu d D;have a0:a≠T:=eu (r _ _ J) D;have O:ah H (upd t T (.tup [.int i,vn c])):=r.trans (ah.new D);split
  .rename_i y;have y:c=b:=by simp only[QK]at y;lia
   subst y;show⟨.inl ⟨rfl,_,aj.of (by rw[az j];show d)⟩,_,rfl,_,rfl,aZ a _ ⟨rfl,aj.of (O _ _ J),λq m=>?_⟩⟩;have S:p≠q:=eu (by rw[az j];show d) m;show aJ p _ _ ⟨rfl,rfl,by rw[az S,az j];show d,?_,gD (i+1) _ (as++[q]) _ _ ⟨⟨QA,rfl,rfl⟩,?_,?_,?_,pE l ((O.free m)),?_,I.hit R⟩⟩
   .rw[ay,Paired.length g,aQ];have:=(dW.mp R).1;lia
   .show(O.trans (ah.new m)).upd L
   .rw[ar,hY]
   .rw[vm,um,p7];show(g.keep D _).push (by rw[az j];show nn d) m _
   .rw[aP,aG,dC];lia
  .rename_i y;have y:c≠b:=by simp only[QK]at y;lia
   show gD N _ as _ _ ⟨⟨rfl,rfl,rfl⟩,O,by rw[az j];show d,g.keep D _,l,QA,I.miss R y⟩
 .intro σ t o;show e5_1 o λN Y as u v n=>e0_7 n λC r d g l X I=>?_;clear n;subst o C;rw[dh]at I;rw[dh]at X;lk;show⟨.inl ⟨rfl,_,aj.of d⟩,_,rfl,aZ a _ ⟨rfl,aj.of (r _ _ J),λq m=>⟨p,_,_,rfl,rfl,by rw[az (eu d m)];show d,?_,?_⟩⟩⟩
  .rw[ay,Paired.length g,aQ];lia
  .show k p _ (as++[q]) L ((r.trans (ah.new m)).upd L) (by rw[ar,hY]) ?_ (pE l (r.free m));rw[I.done,vk,um];show(g.push (nn d) m _).mono gB
def VB:Sp:=λb H Q _=>∃(a:ab)(ns:List Nat),b= [.ref a]/\L2.Row H a ns/\ns.length<=1000000/\qx H (gA ns) Q
def B0(G:bh K mg ad):bu P w K mg base 2 "lines_of" ["row"] VB:=by
 show G.Oj.hsX Kc λf M A B s H X Q E I h=>?_;show fO h λa ns r N O k=>?_;subst h r;have S:=I.units;show⟨_,(ak (stX 1 Kc.nd (pqX (vQ G) I (ae (pv 0) (ae (gi G.AN) ag))))
 (ak (bL (cW (oEq S) (cz tD (pv 1) (tQ uj aD) (λ_ _=>rfl)) (bt ag) QE)
 (aq (dR (Cc kZ LC LH G4 (pv 1))))
 de)
 (aq (aK (pv 1))))),?_⟩
 lk;show aJ a ns 10 ⟨rfl,N,O,λp o as z L d g t=>?_⟩;rw[Rt.BJ]at k;lk;have y:=Rt.j8 10 ns;have i:=Paired.length g;obtain⟨l,c⟩:∃l,(Rt.bc 10 ns)[(Rt.bc 10 ns).length-1]? =some l:=⟨_,dA (Nat.sub_lt (qo.mpr y) Nat.one_pos)⟩;show ai (Paired.get g c) λb C j=>?_;have j:o b=some (.lst (vr l)):=j;have u:(Rt.bc 10 ns).getLast? =some l:=by rw[zU];show c
 show dk (v:= .ref b) (aj.of d) (ET (by rw[ay,eP,i,C];rfl)) ⟨QB,λq D=>?_⟩;lk;have n:ah o (upd o q (.lst [])):=ah.new D;have R:p≠q:=eu d D;show sZ (ns:=l) (ms:= []) (n _ _ j) ar ?_;have e:Rt.nW (Rt.bc 10 ns)=if l= []then(Rt.bc 10 ns).dropLast else Rt.bc 10 ns:=by
  unfold Rt.nW;rw[u];by_cases h:l= []
  .rw[QG h,h,QG rfl]
  .rw[QH h,QH λe=>h (df.inj e)]
 by_cases h:l= []
 .show dw (QI h) ?_;rw[QG h]at e;lk;have m:upd o q (.lst []) p=some (.lst (as.map V.ref)):=n _ _ d;show⟨.inl ⟨rfl,_,aj.of m⟩,aJ p _ (.ref b) ⟨rfl,rfl,m,by rw[ay,eP,i,C];rfl,?_⟩⟩;show k p _ as.dropLast z ((L.trans n).upd z) ?_ ?_ (λx T=>t x (List.dropLast_subset _ T))
  .rw[ar];rw[List.map_dropLast]
  .rw[e];have J:=(g.mono n);have U:=b9.del J (b9.ne m J);have W:=Paired.dropLast U;show b9.mono (H:=del (upd (upd o q (.lst [])) p _) p) gB ?_;rw[fU];show W
 .show dJ (QJ h) ?_;rw[QH h]at e;lk;show k p _ as z (L.trans n) (n _ _ d) ?_ t;rw[e];show g.mono n
def fP(ns:List Nat)(a:List Str):Str:=(a.find? λx=>decide (ns=x.cps.toList)).getD ""
def VA(K:aw):Sp:=λc H Q _=>∃(a t:ab)(ns:List Nat)(b:List Str),c= [.ref a,.ref t]/\L2.Row H a ns/\eV K H t (b.map V.str)/\(∀x∈b,x.length<=1000)/\∀(H':Hp),ah H H'->Q (.str (fP ns b)) H'
def Wa{K:aw}{H H':Hp}{a:ab}{xs:List V}(s:ah H H')(h:eV K H a xs):eV K H' a xs:=by
 rcases h with(h | ⟨o,h⟩) | h
 .show .inl (.inl (s _ _ h))
 .show .inl (.inr ⟨o,s _ _ h⟩)
 .show .inr h
def Hl(G:bh K mg ad):bu P w K mg base 2 "known_text" ["row","texts"] (VA K):=by
 show G.Og.hsX Kb λf M A D s H U Q E I h=>?_;show jb h λa t z b p N J S k=>?_;subst h p;have O:=I.units;show⟨_,(ak (fA rfl (HW (pv 1)) (gnX 2 Kb.nd)
 (aq (bL (cW (oEq O) (pv 0) (pqX (jd G) I (ae (pv 2) ag)) QE)
  (aq (aK (pv 2)))
  de)))
 (aq (aK dX))),?_⟩
 show⟨t,rfl,⟨_,J⟩,Gj (xs:=b.map V.str) (λi σ n=>∃v,σ= [some (.ref a),some (.ref t),v]/\ah H n/\∀x∈b.take i,z≠x.cps.toList) ⟨none,rfl,ah.refl _,QD⟩ (λi σ n _ C=>bA C λ_ _ m _=>Wa m J) ?_ ?_⟩
 .intro i v σ n R g;show bA g λu c m r=>?_;subst g c;show ai (fW R) λx l o=>?_;subst o;k_in;show⟨x,rfl,?_,λq L T F B=>?_⟩
  .show dE (S x (dD l)) QB
  .k_in;show sZ (F _ _ (m _ _ N)) B ?_;by_cases h:z=x.cps.toList
   .show dw (QI h) ?_;k_in;have e:fP z b=x:=by unfold fP;rw[Gb (x:=x) l (QI h) λy d=>QJ (r y d)];rfl
    rw[<-e];show k L (m.trans F)
   .show dJ (QJ h) ?_;lk;show⟨m.trans F,λy d=>?_⟩;rw[take_snoc l]at d;rcases eA.mp d with d | d
    .show r y d
    .rw[iw.mp d];show h
 .intro σ n j;show bA j λu c m r=>?_;subst j c;rw[ay,gk]at r;k_in;have e:fP z b="":=by unfold fP;rw[zQ.mpr λy d=>by simp[r y d]];rfl
  rw[<-e];show k n m
def Vh:Sp:=λb H Q _=>∃(a:ab)(ns:List Nat)(k:Nat),b= [.ref a,vn k]/\L2.Row H a ns/\ns.length<=100000/\1<=k/\k<=1000/\qx H (Rt.jX k ns) Q
def RK(G:bh K mg ad):bu P w K mg base 2 "cut_pieces" ["text","width"] Vh:=by
 show G.NP.hsX yX λf b3 A b2 s H vs Q E hr h=>?_;show nj h λa ns k g ha hl W b4 q=>?_;subst h g;show⟨_,(ak (stX 2 yX.nd (bt ag))
 (ak (fA rfl (rj (pqX (vQ G) hr (ae (pv 0) (ae (gi G.qI) ag)))) (gnX 3 yX.nd)
 (aq (fA rfl (HV rfl G.uZ (ae aD (ae (di nh QE G.dN dO (ae (pv 3) ag)) (ae (pv 1) ag)))) (gnX 4 yX.nd)
  (aq (dR (nE kZ sr su qY (pv 2) (ae (jf wG (pv 3) (gR (pv 4)) (gR (cU gh (pv 4) (pv 1)))) ag)))))))
 (aq (aK (pv 2))))),?_⟩
 lk;show⟨QB,λp Y=>?_⟩;show aJ a ns 32 ⟨rfl,(ah.new Y) _ _ ha,QA,λt H1 as ht s1 a0 Z a4=>⟨t,rfl,⟨_,aj.of a0⟩,?_⟩⟩;have sH:ah H H1:=(ah.new Y).trans s1;have b0:H1 p=some (.lst []):=s1 _ _ ar
 -- all but the new list stands
 show forL (xs:=as.map V.ref) (λi σ y=>∃(J:List ab)(u v:Option V),σ= [some (.ref a),some (vn k),some (.ref p),u,v]/\ah (del H1 p) (del y p)/\y p=some (.lst (J.map V.ref))/\b9 (del y p) J (((Rt.bc 32 ns).take i).flatMap λw=>Rt.parts k (Rt.turns w.length k) w)/\∀x∈J,H x=none) ⟨[],none,none,rfl,ah.refl _,b0,.nil,λx hx=>nomatch hx⟩ (λi σ y _ b1=>gJ b1 λ_ _ _ _ S _=>?_) ?_ ?_
 .show aj.of (aO.at S a0 (λe=>by rw[e,ar]at ht;cases ht))
 .intro i x σ y hx B;show jE B λJ u v g S R o N=>?_;subst B g;show ai (fW hx) λb hb d=>?_;subst d;show ai (Paired.get' Z hb) λl X M=>?_;have M:H1 b=some (.lst (vr l)):=M;have U:b≠p:=λe=>by have:=a4 b (dD hb);rw[e,ar]at this;cases this
  have T:=aO.at S M U;have a5:l.length<=ns.length:=Rt.split_len X;lk;show⟨_,qW T,eY 0 _ _ _ ⟨rfl,o8.up (j:=l.length) (c:=k) W QA QA,?_⟩⟩;show Gi (λj σ n=>∃(L:List ab)(v:Option V),σ= [some (.ref a),some (vn k),some (.ref p),some (.ref b),v]/\aO p y n/\n p=some (.lst (L.map V.ref))/\b9 (del n p) L ((((Rt.bc 32 ns).take i).flatMap λw=>Rt.parts k (Rt.turns w.length k) w)++Rt.parts k j l)/\∀x∈L,H x=none) ⟨J,v,rfl,ah.refl _,R,by rw[show Rt.parts k 0 l= []from rfl,ee];show o,N⟩ ?_ ?_
  .intro j σ n hj C;show ja C λL w' d s3 m r O=>?_;subst C d;lk;have e1:(0+(j:Int)*(k:Int))=((j*k:Nat):Int):=by rw[DZ,Int.natCast_mul]
   have e2:((j*k:Nat):Int)+(k:Int)=((j*k+k:Nat):Int):=(Int.natCast_add _ _).symm;have a3:=aO.at s3 T U;show⟨.inl ⟨rfl,_,aj.of m⟩,_,rfl,_,rfl,aZ b _ ⟨rfl,aj.of a3,λz hz=>?_⟩⟩;rw[e1,e2];show aJ p _ _ ⟨rfl,rfl,by rw[az (eu m hz)];show m,?_,?_⟩
   .rw[ay,Paired.length r,aQ];have:=Rt.Nv W ns i j l (sg hj) a5;lia
   .show⟨aO.put (aO.new s3 hz),L++[z],by rw[ar,hY],?_,pE O ?_⟩
    .rw[vm,um,p7,Rt.Sy,<-eZ,show j*k+k-j*k=k by lia];show b9.push r (nn m) hz _
    .show(aO.same (ah.trans S s3) sH Y).free hz
  .intro σ n D;show ja D λL w' d s3 m r O=>?_;subst D d;show aJ L _ _ ⟨rfl,ah.trans S s3,m,?_,O⟩;rw[take_snoc X,gc,kg,zR,ee];show r
 .intro σ y I;show jE I λJ u v g S R o N=>?_;subst I g;rw[ay,Paired.length Z,gk]at o;lk;show q p y J Y (aO.same S sH Y) R (b9.mono gB o) N
def VO:Sp:=λb H Q _=>∃(a:ab)(ns:List Nat)(k:Nat),b= [.ref a,vn k]/\L2.Row H a ns/\ns.length<=100000/\1<=k/\k<=1000/\qx H (mh k ns) Q
def Ho(G:bh K mg ad):bu P w K mg base 3 "put_into_lines" ["text","width"] VO:=by
 show G.OF.hsX rF λf c8 A c7 s H vs Q E hr h=>?_;show nj h λa ns k d ha hl Y c0 q=>?_;subst h d;have hu:=hr.units;show⟨_,(ak (stX 2 rF.nd (bt ag))
 (ak (stX 3 rF.nd (bt ag))
 (ak (fA rfl (rj (pqX (RK G) hr (ae (pv 0) (ae (pv 1) ag)))) (gnX 4 rF.nd)
 (aq (bL (cW (oEq hu) (pv 3) (bt ag) QE)
  (aq (stX 3 rF.nd (pv 4)))
  (aq (bL (cW fF (cU ik (cU ik (di nh QE G.dN dO (ae (pv 3) ag)) aD) (di nh QE G.dN dO (ae (pv 4) ag))) (pv 1) QE)
   (aq (stX 3 rF.nd (cU mC (cU mC (pv 3) (bt (ae (gi G.qI) ag))) (pv 4))))
   (ak (dR (nE kZ sr su qY (pv 2) (ae (pv 3) ag)))
   (aq (stX 3 rF.nd (pv 4)))))))))
 (ak (dR (nE kZ sr su qY (pv 2) (ae (pv 3) ag)))
 (aq (aK (pv 2))))))),?_⟩
 k_in;show⟨QB,λp hp=>⟨QB,λl0 B=>?_⟩⟩;have sA:ah H (upd H p (.lst [])):=ah.new hp;have sB:ah (upd H p (.lst [])) (upd (upd H p (.lst [])) l0 (.lst [])):=ah.new B;show aJ a ns k ⟨rfl,(sA.trans sB) _ _ ha,hl,Y,c0,λt R bs ht sC b3 b2 a5=>⟨t,rfl,⟨_,aj.of b3⟩,?_⟩⟩;have sH:ah H R:=(sA.trans sB).trans sC;have c3:R p=some (.lst []):=sC _ _ (sB _ _ ar);have c1:R l0=some (.lst []):=sC _ _ ar;have c2:l0≠p:=λe=>by rw[e,ar]at B;cases B
 have c5:t≠p:=λe=>by rw[e,sB p _ ar]at ht;cases ht
 have W:∀b∈bs,b≠p/\H b=none:=λb T=>⟨λe=>(by have:=a5 b T;rw[e,sB p _ ar]at this;cases this),(sA.trans sB).free (a5 b T)⟩;have b4:=Rt.Nt Y ns;show forL (xs:=bs.map V.ref) (λi σ j=>∃(as:List ab)(m:ab)(v:Option V),σ= [some (.ref a),some (vn k),some (.ref p),some (.ref m),v]/\aO p R j/\j p=some (.lst (as.map V.ref))/\b9 (del j p) as (((Rt.jX k ns).take i).foldl (Rt.iE k) ([],[])).1/\L2.Row (del j p) m (((Rt.jX k ns).take i).foldl (Rt.iE k) ([],[])).2/\(∀x∈as,H x=none)/\H m=none/\as.length<=i) ⟨[],l0,none,rfl,ah.refl _,c3,.nil,(by show del R p l0=_;rw[eT c2];show c1),(λx hx=>nomatch hx),sA.free B,bo _⟩ (λi σ j _ c6=>gJ c6 λ_ _ _ _ s2 _=>aj.of (aO.at s2 b3 c5)) ?_ ?_
 .intro i x σ j hx N;show jD N λas m v g=>e0_8 g λd s2 C Z l n X b7=>?_;clear g;subst N d;show ai (fW hx) λb T a3=>?_;subst a3;show ai (Paired.get' b2 T) λu b1 U=>?_;have U:R b=some (.lst (vr u)):=U;have b8:=aO.at s2 U (W b (dD T)).1;generalize c4:((Rt.jX k ns).take i).foldl (Rt.iE k) ([],[])=st at *;obtain⟨L,c⟩:=st;have b5:((Rt.jX k ns).take (i+1)).foldl (Rt.iE k) ([],[])=Rt.iE k (L,c) u:=by rw[take_snoc b1,ql,c4];rfl
  have M:m≠p:=λe=>by rw[e]at l;have h:del j p p=_:=l;rw[nU]at h;cases h
  have J:j m=some (.lst (vr c)):=gB _ _ l;k_in;show⟨QB,λz hz=>sZ (ns:=c) (ms:= []) ((ah.new hz) _ _ J) ar ?_⟩;have s3:aO p R (upd j z (.lst [])):=aO.new s2 hz;have D:upd j z (.lst []) p=some (.lst (as.map V.ref)):=(ah.new hz) _ _ C;have a0:=b9.keep Z hz (.lst []);have r:upd j z (.lst []) m=some (.lst (vr c)):=(ah.new hz) _ _ J;have y:upd j z (.lst []) b=some (.lst (vr u)):=(ah.new hz) _ _ b8;have I:=(W b (dD T)).1;have a4:=(W b (dD T)).2;have hi:=(dW.mp b1).1;generalize upd j z (.lst [])=H2 at *;rw[b5];by_cases hc:c= []
  .show dw (QI hc) ?_;have e:Rt.iE k (L,c) u=(L,u):=by unfold Rt.iE;rw[QG hc]
   rw[e];show aJ as b _ ⟨rfl,s3,D,a0,(by show del H2 p b=_;rw[eT I];show y),n,a4,QA⟩
  .show dJ (QJ hc) ?_;k_in;exists _,qW r,_,qW y;by_cases hk:c.length+1+u.length<=k
   .have e:Rt.iE k (L,c) u=(L,c++[32]++u):=by unfold Rt.iE;rw[QH hc,QG hk]
    rw[e];show dw (QI QA) ?_;k_in;show⟨QB,λz1 h1=>⟨_,(ah.new h1) _ _ r,_,ar,?_,λz2 h2=>⟨_,ar,_,(ah.new h2) _ _ ((ah.new h1) _ _ y),?_,λz3 S=>?_⟩⟩⟩
    .rw[dh,aQ];show c.length+1<=_;lia
    .rw[aP,dh,dh,aQ];show c.length+1+_<=_;lia
    .have b0:=(ah.new (o:= .lst (vr c++[V.int 32])) h2) _ _ ((ah.new (o:= .lst [V.int 32]) h1) _ _ D);show aJ as z3 _ ⟨rfl,aO.new (aO.new (aO.new s3 h1) h2) S,(ah.new S) _ _ b0,b9.keep (b9.keep (b9.keep a0 h1 _) h2 _) S _,?_,n,?_,QA⟩
     .show del _ p z3=_;rw[eT (λe=>by rw[e]at S;rw[b0]at S;cases S),ar,<-iG,<-iG];rfl
     .show(aO.same (aO.new (aO.new s3 h1) h2) sH hp).free S
   .have e:Rt.iE k (L,c) u=(L++[c],u):=by unfold Rt.iE;rw[QH hc,QH hk]
    rw[e];show dJ (QJ QA) ?_;k_in;show⟨.inl ⟨rfl,_,aj.of D⟩,aJ p _ _ ⟨rfl,rfl,D,?_,aJ (as++[m]) b _ ⟨rfl,aO.put s3,by rw[ar,hY],?_,?_,pE n X,a4,?_⟩⟩⟩
    .rw[ay,aQ];lia
    .rw[fU];show Paired.snoc (by show del H2 p m=_;rw[eT M];show r) a0
    .show del _ p b=_;rw[fU,eT I];show y
    .rw[aP,aG,dC];lia
 .intro σ j O;show jD O λas m v g=>e0_8 g λd s2 C Z l n X b7=>?_;clear g;subst O d;rw[ay,Paired.length b2,gk]at *;k_in;have M:m≠p:=λe=>by rw[e]at l;have h:del j p p=_:=l;rw[nU]at h;cases h
  show⟨.inl ⟨rfl,_,aj.of C⟩,aJ p _ _ ⟨rfl,rfl,C,?_,?_⟩⟩
  .rw[ay,aQ];lia
  .show q p _ (as++[m]) hp (aO.same (aO.put s2) sH hp) (by rw[ar,hY]) ?_ (pE n X);rw[Rt.Xl Y];show b9.mono (H:=del (upd j p _) p) gB ?_;rw[fU];show Paired.snoc l Z
abbrev zx(a b c:V):List (Str×V):= [("status",a),("flag",b),("value",c)]
abbrev AA(a b c d e f:V):List (Str×V):= [("number",a),("person",b),("day",c),("test",d),("unit",e),("versions",f)]
def U6(C:ab):Sp:=λf H Q _=>∃(x e:ab)(a b c:V),f= [.ref x,a,b,c]/\H x=some (.ins C e [])/\∀d,d x=some (.ins C e (zx a b c))->aO x H d->Q .a9 d
def BU(G:bh K mg ad):kO P w K mg base 1 "Version" ad.Version ["self","status","flag","value"] (U6 ad.Version):=by
 show G.tI.has Ug (λm H Q E h=>?_) (λf j A g s H m Q E n h=>?_)
 .show e5_1 h λx i a b c e=>eg e λd _=>?_;clear e;subst h d;rfl
 .show nk h λx i a b c d l k=>?_;subst h d;show⟨_,(ak (gq (pv 0) (pv 1) rfl)
 (ak (gq (pv 0) (pv 2) rfl)
 (aq (gq (pv 0) (pv 3) rfl)))),?_⟩
  lk;have C:=G.tI.cl;show aJ _ i _ ⟨l,C,G.qO _ QC,(by show 0<1000;decide),aJ _ _ _ ⟨ar,C,G.qO _ QC,(by show 1<1000;decide),aJ _ _ _ ⟨ar,C,G.qO _ QC,(by show 2<1000;decide),k _ (by rw[ar];rfl) (aO.put (aO.put (aO.put (ah.refl _))))⟩⟩⟩
def UZ(C:ab):Sp:=λh H Q _=>∃(x g:ab)(a b c d e:V),h= [.ref x,a,b,c,d,e]/\H x=some (.ins C g [])/\∀f l,f x=some (.ins C g (AA a b c d e (.ref l)))->H l=none->f l=some (.lst [])->aO x H f->Q .a9 f
def Rx(G:bh K mg ad):kO P w K mg base 1 "Answer" ad.Answer ["self","number","person","day","test","unit"] (UZ ad.Answer):=by
 show G.tE.has T7 (λv H Q E h=>?_) (λf t A p s H v Q E y h=>?_)
 .show e7_1 h λx j a b c d e g=>eg g λi _=>?_;clear g;subst h i;rfl
 .show e7_1 h λx j a b c d e g=>cY g λi u k=>?_;clear g;subst h i;show⟨_,(ak (gq (pv 0) (pv 1) rfl)
 (ak (gq (pv 0) (pv 2) rfl)
 (ak (gq (pv 0) (pv 3) rfl)
 (ak (gq (pv 0) (pv 4) rfl)
 (ak (gq (pv 0) (pv 5) rfl)
 (aq (gq (pv 0) (bt ag) rfl))))))),?_⟩
  lk;have C:=G.tE.cl;show aJ _ j _ ⟨u,C,G.nr _ QC,(by show 0<1000;decide),aJ _ _ _ ⟨ar,C,G.nr _ QC,(by show 1<1000;decide),aJ _ _ _ ⟨ar,C,G.nr _ QC,(by show 2<1000;decide),aJ _ _ _ ⟨ar,C,G.nr _ QC,(by show 3<1000;decide),aJ _ _ _ ⟨ar,C,G.nr _ QC,(by show 4<1000;decide),QB,λl n=>?_⟩⟩⟩⟩⟩;have r:aO x H (upd (upd (upd (upd (upd H x (.ins ad.Answer j (eE "number" a []))) x (.ins ad.Answer j (eE "person" b (eE "number" a [])))) x (.ins ad.Answer j (eE "day" c (eE "person" b (eE "number" a []))))) x (.ins ad.Answer j (eE "test" d (eE "day" c (eE "person" b (eE "number" a [])))))) x (.ins ad.Answer j (eE "unit" e (eE "test" d (eE "day" c (eE "person" b (eE "number" a []))))))):=aO.put (aO.put (aO.put (aO.put (aO.put (ah.refl _)))));have m:x≠l:=λq=>by rw[<-q,ar]at n;cases n
  show aJ _ _ _ ⟨by rw[az m,ar],C,G.nr _ QC,(by show 5<1000;decide),k _ l (by rw[ar];rfl) ?_ ?_ (aO.put (aO.new r n))⟩
  .cases q:H l with
   |none=>rfl
   |some o=>rw[aO.at r q m.symm]at n;cases n
  .rw[az m.symm,ar]
def lu(ad:Ad)(H:Hp)(a:ab)(v:iJ):Prop:=∃c b:ab,H a=some (.ins ad.Version c (zx (vn v.status) (vn v.flag) (.ref b)))/\L2.Row H b v.value
def lu.mono{H H':Hp}(s:ah H H'){a:ab}{v:iJ}:lu ad H a v->lu ad H' a v:=λb=>eB b λc f d e=>⟨c,f,s _ _ d,s _ _ e⟩
structure iV(ad:Ad)(H:Hp)(a:ab)(i:Nat)(x:dg):Prop where
 ex:∃(dx tl ul vl:ab)(vs:List ab),H a=some (.ins ad.Answer dx (AA (vn i) (vn x.person) (vn x.day) (.ref tl) (.ref ul) (.ref vl)))/\L2.Row H tl x.test/\L2.Row H ul x.unit/\H vl=some (.lst (vs.map V.ref))/\Paired (lu ad H) vs x.versions
 ne:x.versions≠ []
 d6:x.versions.length<=1000
def iV.mono{H H':Hp}(s:ah H H'){a:ab}{i:Nat}{x:dg}(h:iV ad H a i x):iV ad H' a i x:=by obtain⟨b,j,ul,k,l,c,d,e,f,g⟩:=h.ex;show⟨⟨b,j,ul,k,l,s _ _ c,s _ _ d,s _ _ e,s _ _ f,Paired.dS g λ_ _ q=>q.mono s⟩,h.ne,h.d6⟩
abbrev iu(ad:Ad)(H:Hp):List ab->bB->Prop:=Paired λa x=>iV ad H a x.1 x.2
def iu.mono{H H':Hp}(s:ah H H'){as:List ab}{l:bB}(h:iu ad H as l):iu ad H' as l:=Paired.dS h λ_ _ q=>q.mono s
def Vv:Sp:=λa H Q _=>∃i:Int,a= [.int i]/\Q (.bl (dQ i 1 1000000000)) H
def yz(G:bh K mg ad):bu P w K mg base 1 "is_person" ["number"] Vv:=by
 show G.Oa.hsX Ur λf d A c s H g Q E e h=>?_;show ai h λb a k=>?_;subst h a;exists _,(aq (aK (mF fF fF aD (pv 0) (gi G.Mn))));lk;split
 all_goals (show iL k ?_;unfold dQ;walk_at"bend")
def Vq:Sp:=λa H Q _=>∃i:Int,a= [.int i]/\Q (.bl (dQ i 0 100000)) H
def yx(G:bh K mg ad):bu P w K mg base 1 "is_day" ["number"] Vq:=by
 show G.N5.hsX Um λf d A c s H g Q E e h=>?_;show ai h λb a k=>?_;subst h a;exists _,(aq (aK (mF fF fF aD (pv 0) (gi G.Mp))));lk;split
 all_goals (show iL k ?_;unfold dQ;walk_at"bend")
def Vx:Sp:=λa H Q _=>∃i:Int,a= [.int i]/\Q (.bl (dQ i 0 19)) H
def BY(G:bh K mg ad):bu P w K mg base 1 "is_reader" ["number"] Vx:=by
 show G.Oc.hsX Us λf d A c s H g Q E e h=>?_;show ai h λb a k=>?_;subst h a;exists _,(aq (aK (mF fF pO aD (pv 0) (gi G.Fh))));lk;split
 all_goals (show iL k ?_;unfold dQ;walk_at"bend")
def Vs:Sp:=λa H Q _=>∃i:Int,a= [.int i]/\Q (.bl (dQ i 0 3)) H
def Hi(G:bh K mg ad):bu P w K mg base 1 "is_flag" ["number"] Vs:=by
 show G.N7.hsX Up λf e A d s H l Q E j h=>?_;show ai h λb c k=>?_;subst h c;show ai G.Fd λa g i=>?_;exists _,(aq (aK (mF fF pO aD (pv 0) (di nh QE G.dN dO (ae (gr g) ag)))));lk;split
 .exists _,.inr ⟨_,i.sq H,rfl⟩;show iL k ?_;unfold dQ;simp only[aG,dC];walk_at"bend"
 .show iL k ?_;unfold dQ;walk_at"bend"
def VF(ad:Ad):Sp:=λb H Q _=>∃(a:ab)(i:Nat)(x:dg),b= [.ref a]/\iV ad H a i x/\Q (vn (x.versions.length-1)) H
def vP(G:bh K mg ad):bu P w K mg base 1 "newest_number" ["answer"] (VF ad):=by show G.Ou.hsX Uv λf e A c s H n Q E q h=>?_;show gJ h λa i x b d k=>?_;subst h b;show jo d.ex λg r ul t n j o p l m=>?_;exists _,(aq (aK (cU lF (di nh QE G.dN dO (ae (tO (pv 0) rfl) ag)) aD)));lk;show gD a _ g _ _ ⟨rfl,j,G.tE.cl,G.nr _ QC,rfl,_,.inl ⟨_,aj.of l,rfl⟩,?_⟩;show qT k ?_;have:=qo.mpr d.ne;rw[ay,Paired.length m];lia
def VG(ad:Ad):Sp:=λc H Q _=>∃(a:ab)(i:Nat)(x:dg),c= [.ref a]/\iV ad H a i x/\∀b,lu ad H b (i4 x)->Q (.ref b) H
def B1(G:bh K mg ad):bu P w K mg base 1 "newest_version" ["answer"] (VG ad):=by
 show G.Ov.hsX Uw λf m A j s H y Q E D h=>?_;show gJ h λa i x c g k=>?_;subst h c;show jo g.ex λn F ul u y o z B p l=>?_;exists _,(aq (aK (cz tD (tO (pv 0) rfl) (tQ uj aD) (λ_ _=>rfl))));lk;have C:=qo.mpr g.ne;have d:=Paired.length l;have r:x.versions[x.versions.length-1]? =some (i4 x):=by
  unfold i4;rw[D7,<-zU];cases e:x.versions.getLast? with
  |none=>show absurd (Lh.mp e) g.ne
  |some v=>rfl
 show ai (Paired.get l r) λb q t=>?_;show gD a _ n _ _ ⟨rfl,o,G.tE.cl,G.nr _ QC,rfl,.inl ⟨u,_,_,.ref b,rfl,rfl,aj.of p,ET ?_,k b t⟩⟩;rw[ay,eP,d,q];rfl
def V1(ad:Ad):Sp:=λb H Q _=>∃(a:ab)(i:Nat)(x:dg),b= [.ref a]/\iV ad H a i x/\Q (.bl (xD x)) H
def Hr(G:bh K mg ad):bu P w K mg base 2 "stands" ["answer"] (V1 ad):=by show G.OY.hsX UA λf j A e s H r Q E g h=>?_;show gJ h λa i x c n k=>?_;subst h c;have o:=g.units;exists _,(aq (aK (rh (yt o) (tO (pqX (B1 G) g (ae (pv 0) ag)) rfl) (gi G.AO) QE)));lk;show aJ a i x ⟨rfl,n,λb d=>eB d λl q m p=>⟨b,_,l,_,_,rfl,m,G.tI.cl,G.qO _ QC,rfl,?_⟩⟩;lk;show iL k ?_;unfold xD;walk_at"bend"
def VZ(ad:Ad):Sp:=λb H Q _=>∃(a:ab)(v:iJ),b= [.ref a]/\lu ad H a v/\v.flag<=3/\v.value.length<=1000/\gH H (.lst (vr (v.value++Vblaan.MARKS.getD v.flag []))) Q
def Hq(G:bh K mg ad):bu P w K mg base 2 "shown_value" ["version"] (VZ ad):=by
 show G.OW.hsX Uz λf n A g s H J Q E u h=>?_;show ja h λa v c b D e k=>?_;subst h c;show eB b λj I l o=>?_;clear b;show ai G.Fd λt y q=>?_;exists _,(aq (aK (cU mC (tO (pv 0) rfl) (pqX (jd G) u (ae (cz tD (gr y) (tO (pv 0) rfl) (λ_ _=>rfl)) ag)))));lk;obtain⟨x,B,r,m⟩:∃x:Str,[V.str "",V.str " L",V.str " H",V.str " !"][v.flag]? =some (.str x)/\x.cps.toList=Vblaan.MARKS.getD v.flag []/\x.length<=2:=by
  have:v.flag=0\/v.flag=1\/v.flag=2\/v.flag=3:=QA;rcases this with h | h | h | h<;>rw[h]
  .show⟨"",rfl,QC,QC⟩
  .show⟨" L",rfl,QC,QC⟩
  .show⟨" H",rfl,QC,QC⟩
  .show⟨" !",rfl,QC,QC⟩
 show gD a _ j _ _ ⟨rfl,l,G.tI.cl,G.qO _ QC,rfl,gD a _ j _ _ ⟨rfl,l,G.tI.cl,G.qO _ QC,rfl,.inr (.inl ⟨t,_,_,.str x,rfl,rfl,q.sq H,at_of rfl B,?_⟩)⟩⟩;lk;show⟨x,rfl,dE m QB,λp C F i d=>?_⟩;lk;show⟨_,i _ _ o,_,d,?_,λz e=>k z _ (i.free e) (i.trans (ah.new e)) ?_⟩
 .rw[dh,dh,aQ,gW];have:x.cps.size<=2:=m;lia
 .rw[ar,iG,r]
def allOf(as:List dg):bB:=as.zipIdx.map λx=>(x.2,x.1)
def x4(as:List dg)(p d:Nat):dH as p d=(allOf as).filter λx=>x.2.person==p&&(decide (x.2.day<=d)&&xD x.2):=by unfold dH allOf;rw[List.filter_map];rfl
def uT(ad:Ad)(p:Nat×dg->Bool)(H:Hp)(z:Nat×dg)(y:Option V):Prop:=match y with
 |some v=>p z=true/\∃a,v= .ref a/\iV ad H a z.1 z.2
 |none=>p z=false
def uT.mono{p:Nat×dg->Bool}{H H':Hp}{z:Nat×dg}{y:Option V}(s:ah H H')(h:uT ad p H z y):uT ad p H' z y:=by
 cases y with
 |none=>show h
 |some v=>obtain⟨b,a,c,d⟩:=h;show⟨b,a,c,d.mono s⟩
def DB{p:Nat×dg->Bool}{H:Hp}:∀{l:bB}{c:List V},Made (uT ad p H) l c->∃b:List ab,c=b.map V.ref/\iu ad H b (l.filter p)
 |_,_,.nil=>⟨[],rfl,.nil⟩
 |z::l,y::c,.put q t=>by
  obtain⟨b,e,d⟩:=DB t;obtain⟨f,a,rfl,g⟩:=q;exists a::b,by rw[e];rfl
  rw[kR,QG f];show .cons g d
 |z::l,c,.out q t=>by obtain⟨b,e,d⟩:=DB t;exists b,e;have q:p z=false:=q;rw[kR,QH (by rw[q];show dP)];show d
def En(ad:Ad)(H:Hp)(l:bB)(Q:VK):Prop:=∀(q:ab)(H':Hp)(a:List ab),H q=none->ah H H'->H' q=some (.lst (a.map V.ref))->iu ad H' a l->Q (.ref q) H'
def BG{g:TG}{I:TT}{G:TE}{vs:List Nat}{σ:L2.St}{H:Hp}{Q:VK}{F:ab}{as:List ab}{l:bB}(p:Nat×dg->Bool)(N:H F=some (.lst (as.map V.ref)))(B:iu ad H as l)(hz:l.length<=1000)
  (f:∀(a:ab)(z:Nat×dg)(b:Hp)(C:Option V->Hp->Prop),ah H b->iV ad b a z.1 z.2->(∀h,ah b h->C (if p z=true then some (.ref a)else none) h)->gM g I G vs σ (.ref a) b C)
  (q:En ad H (l.filter p) Q):ny (jP K F) g I G vs σ H Q:=by
 have E:=Paired.length B;show tJ (xs:=as.map V.ref) (zs:=l) (by rw[ay,E]) (uT ad p) (λs r=>r.mono s) (by rw[ay,E,aQ];lia) (vG (aj.of N)) (λD i x z b C k m y n t M=>?_) λD J R k m y n=>?_
 .show ai (fW k) λa u c=>?_;subst c;show ai (Paired.get' B u) λS d A=>?_;rw[m]at d;cases d;show f a z b C t.iP (A.mono t.iP) λh v=>M _ h ?_ v.del ?_
  .cases e:b D with
   |none=>show absurd e n
   |some o=>rw[v D o e]
  .by_cases j:p z=true
   .rw[QG j];show⟨j,a,rfl,A.mono (t.trans v.del)⟩
   .rw[QH j];show Bool.eq_false_iff.mpr j
 .show ai (DB n) λL e O=>?_;show q D J L k m (by rw[y,e]) O
def Vm(ad:Ad):Sp:=λb H Q _=>∃(a:ab)(as:List ab)(xs:List dg)(p d:Nat),b= [.ref a,vn p,vn d]/\H a=some (.lst (as.map V.ref))/\iu ad H as (allOf xs)/\xs.length<=1000/\En ad H (dH xs p d) Q
def Hg(G:bh K mg ad):bu P w K mg base 3 "file_of" ["answers","person","day"] (Vm ad):=by
 show G.NU.hsX C0 λf r A g s H B Q E n h=>?_;show jo h λy as R p d b m u x k=>?_;subst h b;have v:=n.units;exists _,(aq (aK (pl (own:= [("answer",3)]) rfl C0.nd (fV K (pv 0)) (jT (by kernel_rfl)) (λ_ _ _ _ _=>(gnX 3 C0.nd)) (λ_ _ _ _ _=>(wb (PW.pt (gS (cW (fz K v) (ax K (pv 3)) (pv 1) QE) (gS (cW fF (ax K (pv 3)) (pv 2) QE) (ju (ez (pqX (Hr G) n (ae (pv 3) ag))))))))) (λ_ _ _ _ _=>(pv 3)))));rw[x4]at k;show⟨y,rfl,⟨_,aj.of m⟩,BG _ m u (by unfold allOf;rw[ay,D9];show x) (λa z o C M l t=>?_) k⟩;unfold gM;have q:=t o (ah.refl _);show jo l.ex λD N ul O B j F I J L=>?_;lk;show aAnswerX G j ?_;lk;rw[vp];by_cases c:z.2.person=p
 .show dw (QI c) ?_;lk;show aAnswerX G j ?_;show ?_;lk;rw[FL];by_cases e:z.2.day<=d
  .show dw (QI e) ?_;lk;show aJ a _ _ ⟨rfl,l,?_⟩;rw[show(z.2.person==p)=true by simp[c],QI e,wX,wX]at q;cases i:xD z.2 with
   |true=>rw[i]at q;show q
   |false=>rw[i]at q;show q
  .show dJ (QJ e) ?_;rw[QJ e,zA,DV]at q;show q
 .show dJ (QJ c) ?_;rw[show(z.2.person==p)=false by simp[c],zA]at q;show q
def uF(ad:Ad)(H:Hp)(o:Option (Nat×dg))(v:V):Prop:=match o with
 |none=>v= .a9
 |some x=>∃a,v= .ref a/\iV ad H a x.1 x.2
def Vb(ad:Ad):Sp:=λb H Q _=>∃(a:ab)(as:List ab)(l:bB),b= [.ref a]/\H a=some (.lst (as.map V.ref))/\iu ad H as l/\∀v,uF ad H (l.foldl Rt.nG none) v->Q v H
def Hf(G:bh K mg ad):bu P w K mg base 1 "best_answer" ["answers"] (Vb ad):=by
 show G.NG.hsX yU λf L A C s H X Q E O h=>?_;show iN h λJ as l d F I k=>?_;subst h d;have hu:=O.units;show⟨_,(ak (stX 1 yU.nd gp)
 (ak (fA rfl (fV K (pv 0)) (gnX 2 yU.nd)
 (aq (bL (PW.pt (rA (cW pN (pv 1) gp QE) (tS (cW Hv (ax K (pv 2)) (ax K (pv 1)) QE))))
  (aq (stX 1 yU.nd (pv 2)))
  de)))
 (aq (aK (pv 1))))),?_⟩
 lk;show⟨J,rfl,⟨_,aj.of F⟩,forL (xs:=as.map V.ref) (λi σ r=>r=H/\∃b u,σ= [some (.ref J),some b,u]/\uF ad H ((l.take i).foldl Rt.nG none) b) ⟨rfl,.a9,none,rfl,rfl⟩ (λi σ r _ ⟨e,_⟩=>by rw[e];show aj.of F) ?_ ?_⟩
 .intro i x σ r R g;show eg g λm g=>eB g λb u d n=>?_;clear g;subst g m;subst d;show ai (fW R) λa B q=>?_;subst q;show ai (Paired.get' I B) λz S v=>?_;show jo v.ex λZ tl ul vl X N h2 h3 h4 h5=>?_;have e:(l.take (i+1)).foldl Rt.nG none=Rt.nG ((l.take i).foldl Rt.nG none) z:=by rw[take_snoc S,ql];rfl
  rw[e];generalize (l.take i).foldl Rt.nG none=o at *;lk;cases o with
  |none=>have n:b= .a9:=n;subst n;show aZ (.ref a) _ ⟨⟨rfl,rfl⟩,a,rfl,v⟩
  |some y=>
   show ai n λc p D=>?_;subst n p;show jo D.ex λM T U W Y g1 g2 g3 g4 g5=>?_;show aAnswerX G N ?_;show aAnswerX G g1 ?_;lk;rw[FL];by_cases h:y.2.day<=z.2.day
   .have t:Rt.nG (some y) z=some z:=QG h;show dw (QI h) ?_;rw[t];show aZ (.ref a) _ ⟨⟨rfl,rfl⟩,a,rfl,v⟩
   .have t:Rt.nG (some y) z=some y:=QH h;show dJ (QJ h) ?_;rw[t];show aZ (.ref c) _ ⟨⟨rfl,rfl⟩,c,rfl,D⟩
 .intro σ r j;show eg j λm j=>eB j λb u d n=>?_;clear j;subst j m;subst d;rw[ay,Paired.length I,gk]at n;lk;show k b n
def sx(l:bB):Prop:=(l.map (·.1)).Pairwise (·<·)
def U9(ad:Ad):Sp:=λd H Q _=>∃(b c:ab)(as:List ab)(l:bB)(t:List Nat),d= [.ref b,.ref c]/\H b=some (.lst (as.map V.ref))/\iu ad H as l/\sx l/\l.length<=1000/\L2.Row H c t/\∀v a,ah H a->uF ad a (fI l t) v->Q v a
def yw(G:bh K mg ad):bu P w K mg base 2 "answer_of_test" ["filed","test"] (U9 ad):=by
 show G.ND.hsX CQ λf y A j s H S Q E o h=>?_;show e5_1 h λR Y as l t b=>e0_7 b λc n J i O L k=>?_;clear b;subst h c;have M:=o.units;exists _,(aq (aK (pqX (Hf G) o (ae (pl (own:= [("answer",2)]) rfl CQ.nd (fV K (pv 0)) (jT (by kernel_rfl)) (λ_ _ _ _ _=>(gnX 2 CQ.nd)) (λ_ _ _ _ _=>(wb (cW (fz K M) (ax K (pv 2)) (pv 1) QE))) (λ_ _ _ _ _=>(pv 2))) ag))));show⟨R,rfl,⟨_,aj.of n⟩,BG (λx=>x.2.test==t) n J O (λa z r C m F I=>?_) λq p u X m g d=>?_⟩
 .unfold gM;have q:=I r (ah.refl _);show jo F.ex λT Z ul vl S B D U V W=>?_;lk;show aAnswerX G B ?_;lk;show sZ D (m _ _ L) ?_;by_cases e:z.2.test=t
  .show dw (QI e) ?_;rw[show(z.2.test==t)=true by simp[e]]at q;show q
  .show dJ (QJ e) ?_;rw[show(z.2.test==t)=false by simp[e]]at q;show q
 .show aJ q u _ ⟨rfl,g,d,λv N=>k v p m ?_⟩;unfold fI;rw[Rt.EX _ (Rt.Ga i _)];show N
def Va(ad:Ad):Sp:=λe H Q _=>∃(b c:ab)(as:List ab)(l:bB)(t:List Nat)(d:Nat),e= [.ref b,.ref c,vn d]/\H b=some (.lst (as.map V.ref))/\iu ad H as l/\sx l/\l.length<=1000/\L2.Row H c t/\∀v a,ah H a->uF ad a (l9 l t d) v->Q v a
def RE(G:bh K mg ad):bu P w K mg base 2 "answer_of_test_on" ["filed","test","day"] (Va ad):=by
 show G.NF.hsX CS λf I A n s H U Q E u h=>?_;show e6_1 h λT ta as l t d b=>e0_7 b λc r N m S O k=>?_;clear b;subst h c;have y:=u.units;exists _,(aq (aK (pqX (Hf G) u (ae (pl (own:= [("answer",3)]) rfl CS.nd (fV K (pv 0)) (jT (by kernel_rfl)) (λ_ _ _ _ _=>(gnX 3 CS.nd)) (λ_ _ _ _ _=>(wb (PW.pt (gS (cW (fz K y) (ax K (pv 3)) (pv 1) QE) (ju (cW (fz K y) (ax K (pv 3)) (pv 2) QE)))))) (λ_ _ _ _ _=>(pv 3))) ag))));show⟨T,rfl,⟨_,aj.of r⟩,BG (λx=>x.2.test==t&&x.2.day==d) r N S (λa z D C o L M=>?_) λq B F Z o j i=>?_⟩
 .unfold gM;have q:=M D (ah.refl _);show jo L.ex λV tl ul vl U p J W X Y=>?_;lk;show aAnswerX G p ?_;lk;show sZ J (o _ _ O) ?_;by_cases e:z.2.test=t
  .show dw (QI e) ?_;rw[show(z.2.test==t)=true by simp[e],wX]at q;lk;show aAnswerX G p ?_;lk;rw[vp];by_cases g:z.2.day=d
   .show dw (QI g) ?_;rw[show(z.2.day==d)=true by simp[g]]at q;show q
   .show dJ (QJ g) ?_;rw[show(z.2.day==d)=false by simp[g]]at q;show q
  .show dJ (QJ e) ?_;rw[show(z.2.test==t)=false by simp[e],zA]at q;show q
 .show aJ q F _ ⟨rfl,j,i,λv R=>k v B o ?_⟩;unfold l9;rw[Rt.EX _ (Rt.Ga m _)];show R
def sI(l:bB)(b:List (List Nat)):List Nat:=(l.filter λx=>b.contains x.2.test).foldl (λa x=>As x.2.day a) []
def Vi(ad:Ad):Sp:=λd H Q _=>∃(a b:ab)(as:List ab)(l:bB)(c:List (List Nat)),d= [.ref a,.ref b]/\H a=some (.lst (as.map V.ref))/\iu ad H as l/\l.length<64/\Rows H b c/\gH H (.lst (vr (sI l c))) Q
def A1(a:List (List Nat)):∀l:bB,l.filterMap (λz=>if a.contains z.2.test=true then some (vn z.2.day)else none)=((l.filter λx=>a.contains x.2.test).map λx=>(x.2.day:Int)).map V.int
 |[]=>rfl
 |z::l=>by
  rw[nK,kR];by_cases e:a.contains z.2.test=true
  .rw[QG e,QG e,eD,eD];show congrArg _ (A1 a l)
  .rw[QH e,QH e];show A1 a l
def RL(G:bh K mg ad):bu P w K mg base 1 "days_of_tests" ["filed","tests"] (Vi ad):=by
 show G.NQ.hsX CW λf B A L s H vs Q E hr h=>?_;show e5_1 h λla lt as l m g=>fK g λo T U hz ht k=>?_;clear g;subst h o;have hu:(A.deeper (envOfC "days_of_tests" (aS CF) s.heap.objs.size f B)).units+65<cLine:=by have:=hr.un;lia
 exists _,(aq (aK (di (UT P w rfl) QE G.AF AJ (ae (yK (UE K P w rfl) QE G.L4 Mb (ae (pl (own:= [("answer",2)]) rfl CW.nd (fV K (pv 0)) (jT (by kernel_rfl)) (λ_ _ _ _ _=>(gnX 2 CW.nd)) (λ_ _ _ _ _=>(wb (cW (Qd K hu) (ax K (pv 2)) (pv 1) QE))) (λ_ _ _ _ _=>(ax K (pv 2)))) ag)) ag))));have W:=Paired.length U;let fd:Nat×dg->Option V:=λz=>if m.contains z.2.test=true then some (vn z.2.day)else none;show⟨la,rfl,⟨_,aj.of T⟩,tJ (xs:=as.map V.ref) (zs:=l) (by rw[ay,W]) (λ_ z y=>y=fd z) (λ_ r=>r) (by rw[ay,W,aQ];lia) (vG (aj.of T)) (λD i x z M C N u O R S h6=>?_) λD H' ys N u O R=>?_⟩
 .show ai (fW N) λa F b=>?_;subst b;show ai (Paired.get' U F) λz' c hA=>?_;rw[u]at c;cases c;show jo ((hA.mono S.iP).ex) λdx tl ul vl vs g1 g2 g3 g4 g5=>?_;have q:=h6 (fd z) M rfl (ah.refl _) rfl;unfold gM;lk;show aAnswerX G g1 ?_;show eY tl lt _ _ ⟨rfl,rfl,g2,ht.mono S.iP,?_⟩;have v:C (if m.contains z.2.test=true then some (vn z.2.day)else none) M:=q;by_cases e:m.contains z.2.test=true
  .lk;rw[QG e]at v ⊢;show dB g1 G.tE.cl (G.nr _ QC) rfl v
  .lk;rw[QH e]at v ⊢;show v
 .have ey:=R.vD;have en:ys=(((l.filter λx=>m.contains x.2.test).map λx=>(x.2.day:Int)).map V.int):=by rw[ey];show A1 m l
  have t:((l.filter λx=>m.contains x.2.test).map λx=>(x.2.day:Int)).length<64:=by rw[ay];show Ac (D8 _ _) hz
  show aZ D _ ⟨rfl,aj.of (by rw[O,en]),t,λp X=>⟨p,_,rfl,ar,Ac (Rt.A2 _ _) (by simpa using t),λJ q d I Y=>?_⟩⟩;show k q _ ((u.trans (ah.new X)).free Y) ((u.trans (ah.new X)).trans (ah.new Y)) ?_;rw[ar];have Z:J=(sI l m).map λ(n:Nat)=>(n:Int):=by
   show Rt.UU I (d.nodup_iff.mpr (Rt.FH _ _ List.nodup_nil)) (Rt.Gg _ _ _ .nil) λx=>?_;rw[d.mem_iff,Rt.FG];unfold sI;constructor
   .rintro(h | h)
    .cases h
    .show ai (dM.mp h) λz c b=>?_;subst b;show⟨z.2.day,(Rt.x6 _ _ _ _).mpr (.inr ⟨z,c,rfl⟩),rfl⟩
   .intro j;show ai j λn hn b=>?_;subst j b;rcases(Rt.x6 _ _ _ _).mp hn with h | ⟨z,c,e⟩
    .cases h
    .show .inr (dM.mpr ⟨z,c,by rw[e]⟩)
  rw[Z,gd];rfl
def nV{H:Hp}{a b:ab}{k:List (Key×V)}{o:HO}(h:H a=some (.dK k))(e:H b=some o)(n:∀k,o≠ .dK k):b≠a:=λq=>by subst q;rw[h]at e;show n _ (df.inj e).symm
def eR{H H':Hp}{a b:ab}{k:List (Key×V)}{xs:List V}(s:aO a H H')(h:H a=some (.dK k))(e:H b=some (.lst xs)):H' b=some (.lst xs):=s.at e (nV h e λ_ q=>nomatch q)
def Mf{H H':Hp}{a b:ab}{k:List (Key×V)}{xs:List V}(s:aO a H H')(h:H a=some (.dK k))(e:H b=some (.tup xs)):H' b=some (.tup xs):=s.at e (nV h e λ_ q=>nomatch q)
def jU{H H':Hp}{d b C a:ab}{k:List (Key×V)}{c:List (Str×V)}(s:aO d H H')(h:H d=some (.dK k))(e:H b=some (.ins C a c)):H' b=some (.ins C a c):=s.at e (nV h e λ_ q=>nomatch q)
def lu.but{H H':Hp}{c a:ab}{k:List (Key×V)}{v:iJ}(s:aO c H H')(h:H c=some (.dK k)):lu ad H a v->lu ad H' a v:=λb=>eB b λd g e f=>⟨d,g,jU s h e,eR s h f⟩
def iV.but{H H':Hp}{b a:ab}{k:List (Key×V)}{i:Nat}{x:dg}(s:aO b H H')(h:H b=some (.dK k))(q:iV ad H a i x):iV ad H' a i x:=by obtain⟨c,l,ul,m,n,d,e,f,g,j⟩:=q.ex;show⟨⟨c,l,ul,m,n,jU s h d,eR s h e,eR s h f,eR s h g,Paired.dS j λ_ _ q=>q.but s h⟩,q.ne,q.d6⟩
def iu.but{H H':Hp}{a:ab}{k:List (Key×V)}{as:List ab}{l:bB}(s:aO a H H')(h:H a=some (.dK k))(q:iu ad H as l):iu ad H' as l:=Paired.dS q λ_ _ q=>q.but s h
def Rows.but{H H':Hp}{c a:ab}{k:List (Key×V)}{b:List (List Nat)}(s:aO c H H')(h:H c=some (.dK k))(q:Rows H a b):Rows H' a b:=by obtain⟨as,d,e⟩:=q;show⟨as,eR s h d,Paired.dS e λ_ _ q=>eR s h q⟩
def fh{p:ab}{H H':Hp}(s:ah H H'):aO p H H':=s.del
def gP{p:ab}{H a H':Hp}(s:aO p H a)(t:aO p a H'):aO p H H':=ah.trans s t
def pA{p q:ab}{H H':Hp}(s:aO p H H')(b:H' p≠none)(h:H' q=none):H q=none:=by
 cases e:H q with
 |none=>rfl
 |some o=>
  by_cases a:q=p
  .subst a;show absurd h b
  .rw[s.at e a]at h;cases h
abbrev pI(p d:Nat)(a c e:ab)(b:V):List (Str×V):= [("person",vn p),("day",vn d),("filed",.ref a),("row",.ref c),("pages",b),("shown",.ref e)]
def eI(L:List (Nat×Nat)):List (Key×V):=L.foldl (λk x=>putK k (.inl (x.1:Int)) (vn x.2)) []
def UM(L:List (Nat×Nat))(x:Nat×Nat):eI (L++[x])=putK (eI L) (.inl (x.1:Int)) (vn x.2):=by unfold eI;rw[ql];rfl
def j7(z:Nat×dg):Nat×Nat:=(z.1,z.2.versions.length-1)
structure jx(z:Nat×dg):Prop where
 num:z.1<64
 flag:(i4 z.2).flag<=3
 value:(i4 z.2).value.length<=12
 unit:z.2.unit.length<=12
 test:z.2.test.length<=8
 day:z.2.day<=100000
structure gE(ad:Ad)(H:Hp)(la sh:ab)(p d:Nat)(l:bB)(L:List (Nat×Nat)):Prop where
 ex:∃(dx fa rl:ab)(pg:V)(as:List ab),H la=some (.ins ad.iW dx (pI p d fa rl sh pg))/\H fa=some (.lst (as.map V.ref))/\iu ad H as l
 shown:H sh=some (.dK (eI L))
 small:L.length<=10000000
 good:∀z∈l,jx z
 ri:sx l
 len:l.length<64
def gE.but{H H':Hp}{c a:ab}{p d:Nat}{l:bB}{L b:List (Nat×Nat)}(h:gE ad H c a p d l L)(s:aO a H H')(e:H' a=some (.dK (eI b)))(m:b.length<=10000000):gE ad H' c a p d l b:=by obtain⟨f,g,o,n,as,i,j,k⟩:=h.ex;show⟨⟨f,g,o,n,as,jU s h.shown i,eR s h.shown j,k.but s h.shown⟩,e,m,h.good,h.ri,h.len⟩
def gE.mono{H H':Hp}{a b:ab}{p d:Nat}{l:bB}{L:List (Nat×Nat)}(h:gE ad H a b p d l L)(s:ah H H'):gE ad H' a b p d l L:=h.but (fh s) (s _ _ h.shown) h.small
def UL(L:List (Nat×Nat)):(eI L).length<=L.length:=by
 unfold eI;suffices h:∀(L:List (Nat×Nat))(k:List (Key×V)),(L.foldl (λk x=>putK k (.inl (x.1:Int)) (vn x.2)) k).length<=k.length+L.length by simpa using h L []
 intro L;induction L with
 |nil=>intro k;show bo _
 |cons x L a=>intro k;have b:=a (putK k (.inl (x.1:Int)) (vn x.2));have c:=tK k (.inl (x.1:Int):Key) (vn x.2);rw[gF,aG];lia
def sj(H:Hp)(a:ab)(b:List (Nat×Nat))(o:HO)(Q:VK):Prop:=∀(q:ab)(H':Hp),H q=none->aO a H H'->H' a=some (.dK (eI b))->H' q=some o->Q (.ref q) H'
def Dj(ad:Ad):Sp:=λe H Q _=>∃(b c a:ab)(p d:Nat)(l:bB)(L:List (Nat×Nat))(z:Nat×dg),e= [.ref b,.ref a]/\gE ad H b c p d l L/\iV ad H a z.1 z.2/\jx z/\sj H c (L++[j7 z]) (.lst (vr (px z.2))) Q
def B2(G:bh K mg ad):bu P w K mg base 3 "show_value" ["layout","answer"] (Dj ad):=by
 show G.OV.hsX Uy λf n A u s H I Q E j h=>?_;show e8_1 h λV v a p d l L z c=>i8 c λg i o x k=>?_;clear c;subst h g;have U:=j.units;have t:(A.deeper (envOfC "show_value" (aS CM) s.heap.objs.size f n)).units+1<cLine:=QA;show⟨_,(ak (vZ t (ax K (pv 0)) (ax K (pv 1)) (pqX (vP G) j (ae (pv 1) ag)) rfl)
 (aq (aK (pqX (Hq G) j (ae (pqX (B1 G) j (ae (pv 1) ag)) ag))))),?_⟩
 show nk i.ex λJ N X W as C S T=>?_;show jo o.ex λM Y ul Z I g1 g2 g3 O R=>?_;unfold tW;lk;show aJ a z.1 z.2 ⟨rfl,o,?_⟩;show aLayoutX G C ?_;show aAnswerX G g1 ?_;exists v,rfl,_,lQ.k (k:= .inl (z.1:Int)) i.shown ?_
 .have:=UL L;have:=i.small;rw[aQ];lia
 .have m:aO v H (upd H v (.dK (putK (eI L) (.inl (z.1:Int)) (vn (z.2.versions.length-1))))):=aO.put (ah.refl _);show aJ a z.1 z.2 ⟨rfl,o.but m i.shown,λb D=>⟨b,i4 z.2,rfl,D,x.flag,dE x.value QB,λq B F y r=>?_⟩⟩;show k q B (pA m (by rw[ar];show λe=>nomatch e) F) (gP m (fh y)) ?_ r;show y _ _ ?_;rw[ar,UM];rfl
def EW{l:bB}{z:Nat×dg}(h:Vblaan.best l=some z):z∈l:=by
 unfold Vblaan.best at h;suffices q:∀(l:bB)(o:Option (Nat×dg)),l.foldl (λ(b:Option (Nat×dg)) x=>match b with
   |none=>some x
   |some y=>if Ar y x=true then some x else some y) o=some z->z∈l\/o=some z by
  rcases q l none h with h | h
  .show h
  .cases h
 intro l;induction l with
 |nil=>intro o h;show .inr h
 |cons x l a=>
  intro o h;rw[gF]at h;rcases a _ h with h | h
  .show .inl (du _ h)
  .cases o with
   |none=>show .inl (by cases h;show cZ)
   |some y=>
    by_cases e:Ar y x=true
    .have h:(if Ar y x=true then some x else some y)=some z:=h;rw[QG e]at h;show .inl (by cases h;show cZ)
    .have h:(if Ar y x=true then some x else some y)=some z:=h;rw[QH e]at h;show .inr h
def qG{l:bB}{t:List Nat}{z:Nat×dg}(h:fI l t=some z):z∈l:=(ki.mp (EW h)).1
def B4{l:bB}{t:List Nat}{d:Nat}{z:Nat×dg}(h:l9 l t d=some z):z∈l:=(ki.mp (EW h)).1
def K6{z:Nat×dg}(h:jx z):(px z.2).length<=14:=by
 unfold px;rw[aP];have a:=h.value;have b:(Vblaan.MARKS.getD (i4 z.2).flag []).length<=2:=by have:=h.flag;have:(i4 z.2).flag=0\/(i4 z.2).flag=1\/(i4 z.2).flag=2\/(i4 z.2).flag=3:=QA;rcases this with e | e | e | e<;>rw[e]<;>decide +kernel
 lia
def oI(b:List Nat)(o:Option (Nat×dg)):List Nat:=match o with
 |some a=>px a.2
 |none=>b
def V6(ad:Ad):Sp:=λe H Q _=>∃(a b c:ab)(p d:Nat)(l:bB)(L:List (Nat×Nat))(t:List Nat),e= [.ref a,.ref c]/\gE ad H a b p d l L/\L2.Row H c t/\sj H b (L++(fI l t).toList.map j7) (.lst (vr (oI (au "none") (fI l t)))) Q
def Sb(G:bh K mg ad):bu P w K mg base 4 "value_of_test" ["layout","name"] (V6 ad):=by
 show G.O6.hsX Kh λf F A C s H vs Q E u h=>?_;show e8_1 h λU D V p d l L t b=>j0 b λm g T k=>?_;clear b;subst h m;have Y:=u.units;show⟨_,(ak (stX 2 Kh.nd (pqX (yw G) u (ae (ax K (pv 0)) (ae (pv 1) ag))))
 (aq (aK (pR (cW pN (pv 2) gp QE) (pqX (jd G) u (ae dX ag)) (pqX (B2 G) u (ae (pv 0) (ae (pv 2) ag))))))),?_⟩
 show nk g.ex λX I rl Z as J M N=>?_;k_in;show aLayoutX G J ?_;show gD I V as l t ⟨rfl,M,N,g.ri,by have:=g.len;lia,T,λv W i n=>?_⟩;have y:=g.mono i;generalize R:fI l t=o at *;cases o with
 |none=>
  have n:v= .a9:=n;subst n;lk;show⟨_,rfl,QC,λq r B x c=>k q r (i.free B) (fh (i.trans x)) ?_ ?_⟩
  .show r D=some (.dK (eI (L++[])));rw[ee];show(i.trans x) _ _ g.shown
  .rw[c];have e:("none":Str).cps.toList=au "none":=QC;rw[e];rfl
 |some z=>show ai n λa j O=>?_;subst n j;lk;show gy U D a p d l L z ⟨rfl,y,O,g.good z (qG R),λq r B x S c=>k q r (i.free B) (gP (fh i) x) S c⟩
def pP(k:Nat)(w:List Nat):(fJ k w).length<=k+w.length:=by unfold fJ;rw[aP,oS];lia
def VY(ad:Ad):Sp:=λe H Q _=>∃(a b c:ab)(p d:Nat)(l:bB)(L:List (Nat×Nat))(t:List Nat),e= [.ref a,.ref c]/\gE ad H a b p d l L/\L2.Row H c t/\t.length<=1000/\sj H b (L++(fI l t).toList.map j7) (.lst (vr (xC l t))) Q
def R7(G:bh K mg ad):bu P w K mg base 4 "row_line" ["layout","name"] (VY ad):=by
 show G.OQ.hsX za λf c7 A c4 s H vs Q E b h=>?_;show e8_1 h λla sh ta p d l L t i=>i8 i λM N ht d3 k=>?_;clear i;subst h M;have hu:=b.units;show⟨_,(ak (stX 2 za.nd (pqX (rf G) b (ae (pv 1) (ae (gi G.Mz) ag))))
 (ak (stX 3 za.nd (pqX (yw G) b (ae (ax K (pv 0)) (ae (pv 1) ag))))
 (ak (bL (cW pN (pv 3) gp QE)
 (aq (aK (cU gh (pv 2) (pqX (jd G) b (ae dX ag)))))
 de)
 (ak (stX 4 za.nd (pqX (rf G) b (ae (pqX (B2 G) b (ae (pv 0) (ae (pv 3) ag))) (ae (gi G.MM) ag))))
 (aq (aK (cU gh (cU gh (cU gh (cU gh (pv 2) (pv 4)) (pqX (rf G) b (ae (ax K (pv 3)) (ae (gi G.MJ) ag)))) (pqX (jd G) b (ae dX ag))) (pqX (nD G) b (ae (ax K (pv 3)) ag))))))))),?_⟩
 k_in;show aJ ta t 10 ⟨rfl,ht,QA,QB,λp1 H1 c8 s1 R=>?_⟩;have O:=N.mono s1;show nk O.ex λdx fa rl pg as h1 h2 h3=>?_;have hn:=pP 10 t;k_in;show aLayoutX G h1 ?_;k_in;show gD fa ta as l t ⟨rfl,h2,h3,N.ri,by have:=N.len;lia,s1 _ _ ht,λv H2 Z T=>?_⟩;have j:=O.mono Z;have Y:=s1.trans Z;unfold xC at k;generalize ho:fI l t=o at *;cases o with
 |none=>
  have T:v= .a9:=T;subst T;lk;show⟨_,rfl,QC,λq H3 hq s3 m=>?_⟩;k_in;have e:("none":Str).cps.toList=au "none":=QC;rw[e]at m;have x:=Y.trans s3;show⟨_,(Z.trans s3) _ _ R,_,m,?_,λz hz=>k z _ (x.free hz) (fh (x.trans (ah.new hz))) ?_ ?_⟩
  .rw[dh,dh,aQ,show(au "none").length=4 by decide +kernel];lia
  .show _=some (HO.dK (eI (L++[])));rw[ee];show(x.trans (ah.new hz)) _ _ N.shown
  .rw[ar,iG]
 |some z=>
  show ai T λa J hA=>?_;subst T J;have B:=N.good z (qG ho);have c6:=K6 B;lk;show gy la sh a p d l L z ⟨rfl,j,hA,B,λq3 H3 m b3 b5 b7=>?_⟩;k_in;show aJ q3 _ 14 ⟨rfl,b7,QA,QB,λq4 H4 c9 s4 b8=>?_⟩;have b4:=gP b3 (fh s4);have a4:=hA.but b4 j.shown;show jo a4.ex λdy tl ul vl vs g1 g2 g3 g4 g5=>?_;have a5:L2.Row H4 p1 (fJ 10 t):=eR b4 j.shown (Z _ _ R);have hw:=pP 14 (px z.2);k_in;show⟨_,a5,_,b8,?_,λq5 b0=>?_⟩
  .rw[dh,dh,aQ];lia
  generalize D:upd H4 q5 _=H5;have s5:=sN D b0;have c0:L2.Row H5 q5 (fJ 10 t++fJ 14 (px z.2)):=by rw[<-D];show upd _ _ _ _=_;rw[ar];simp only[iG,eZ]
  show aAnswerX G (s5 _ _ g1) ?_;k_in;show aJ ul _ 12 ⟨rfl,s5 _ _ g3,by have:=B.unit;lia,QB,λq6 H6 d1 s6 c1=>?_⟩;have hx:=pP 12 z.2.unit;have hy:=B.unit;k_in;show⟨_,s6 _ _ c0,_,c1,?_,λq7 b1=>?_⟩
  .rw[dh,dh,aQ,aP];lia
  generalize F:upd H6 q7 _=H7;have s7:=sN F b1;have c2:L2.Row H7 q7 (fJ 10 t++(fJ 14 (px z.2)++fJ 12 z.2.unit)):=by rw[<-F];show upd _ _ _ _=_;rw[ar];simp only[iG,eZ]
  have e:("day ":Str).cps.toList=au "day ":=QC;show⟨_,rfl,QC,λq8 H8 d2 s8 W=>?_⟩;rw[e]at W;k_in;show⟨_,s8 _ _ c2,_,W,?_,λq9 b2=>?_⟩
  .rw[dh,dh,aQ,aP,aP,show(au "day ").length=4 by decide +kernel];lia
  generalize I:upd H8 q9 _=H9;have s9:=sN I b2;have c3:L2.Row H9 q9 (fJ 10 t++(fJ 14 (px z.2)++(fJ 12 z.2.unit++au "day "))):=by rw[<-I];show upd _ _ _ _=_;rw[ar];simp only[iG,eZ]
  have y:=(((s5.trans s6).trans s7).trans s8).trans s9;show aAnswerX G (y _ _ g1) ?_;k_in;show⟨_,rfl,by have:=B.day;lia,λd8 a0 c5 u U=>?_⟩;have hd:=Rt.iB (n:=z.2.day) (k:=6) QB (by have:=B.day;lia);k_in;show⟨_,u _ _ c3,_,U,?_,λr g=>?_⟩
  .rw[dh,dh,aQ,aP,aP,aP,show(au "day ").length=4 by decide +kernel];lia
  generalize c:upd a0 r _=a3;have X:=sN c g;have V:L2.Row a3 r (fJ 10 t++(fJ 14 (px z.2)++(fJ 12 z.2.unit++(au "day "++cV z.2.day)))):=by rw[<-c];show upd _ _ _ _=_;rw[ar];simp only[iG,eZ]
  have C:=gP (fh Y) (gP b4 (fh (y.trans u)));have S:=(y.trans u) _ _ (s4 _ _ b5);show k r _ (pA C (nn S) g) (gP C (fh X)) (X _ _ S) V
def Dr(ad:Ad)(i:Nat)(x:Str):TE:=bO (bI (a8 (λx y H Q=>y= .a9/\Q (.bl (decide (x= .a9))) H) (aB i) (tC .a9))) (a7 zf [] E0 (aL (tC (.str x)) aR)) (a7 (Dj ad) [] E0 (aL (aB 0) (aL (aB i) aR)))
def WG{X:Cx}{e:Expr}{i:Nat}{x:Str}(h:PE X e (bO (bI (a8 (λx y H Q=>y= .a9/\Q (.bl (decide (x= .a9))) H) (aB i) (tC .a9))) (a7 zf [] E0 (aL (tC (.str x)) aR)) (a7 (Dj ad) [] E0 (aL (aB 0) (aL (aB i) aR))))):PE X e (Dr ad i x):=h
def Nk{i:Nat}{x:Str}{σ:L2.St}{H:Hp}{M:VK}{v:V}{g e:ab}{p d:Nat}{l:bB}{L:List (Nat×Nat)}{o:Option (Nat×dg)}(j:gE ad H g e p d l L)(c:uF ad H o v)(s:∀z,o=some z->jx z)(u:x.length<=dc)
  (k:sj H e (L++o.toList.map j7) (.lst (vr (oI x.cps.toList o))) M) (n:σ[0]? =some (some (.ref g)):=by rfl) (hi:σ[i]? =some (some v):=by rfl):Dr ad i x σ H M:=by
 unfold Dr;k_in;show onS.mk hi ?_;cases o with
 |none=>have c:v= .a9:=c;subst c;lk;show⟨x,rfl,u,λq h t m f=>k q h t (fh m) ?_ f⟩;show h e=some (HO.dK (eI (L++[])));rw[ee];show m _ _ j.shown
 |some z=>show ai c λa b r=>?_;subst c b;lk;show onS.mk n (onS.mk hi ⟨g,e,a,p,d,l,L,z,rfl,j,r,s z rfl,k⟩)
def qH{p q:ab}{H H':Hp}{o:HO}(h:aO p H H')(c:H q=none):aO p H (upd H' q o):=λb u e=>by
 by_cases a:b=p
 .subst a;rw[nU]at e;cases e
 .rw[eT a]at e ⊢;rw[az (eu e c)];show h.at e a
def zr{l:bB}{o:Option (Nat×dg)}{x:List Nat}(b:x.length<=14)(a:∀z,o=some z->jx z):(oI x o).length<=14:=by
 cases o with
 |none=>show b
 |some z=>show K6 (a z rfl)
def kD{α β:Type}{f:α->List β}{c:Nat}:∀l:List α,(∀x∈l,(f x).length<=c)->(l.flatMap f).length<=l.length*c
 |[],_=>cT _
 |x::l,h=>by have b:=kD l λy a=>h y (du _ a);have d:=h x cZ;rw[kg,aP,aG,kX];lia
def i7(l:bB)(a:List (List Nat))(d:Nat):List (Nat×Nat):=(a.filterMap λt=>l9 l t d).map j7
def jZ(l:bB)(a:List (List Nat))(d:Nat):List Nat:=fJ 10 (cV d)++a.flatMap λt=>fJ 15 (oI [45] (l9 l t d))
def V2(ad:Ad):Sp:=λg H Q _=>∃(b f c:ab)(p d:Nat)(l:bB)(L:List (Nat×Nat))(a:List (List Nat))(e:Nat),g= [.ref b,.ref c,vn e]/\gE ad H b f p d l L/\Rows H c a/\a.length<=100/\e<=1000000/\L.length<=9000000/\sj H f (L++i7 l a e) (.lst (vr (jZ l a e))) Q
def R8(G:bh K mg ad):bu P w K mg base 4 "table_line" ["layout","names","day"] (V2 ad):=by
 show G.OZ.hsX wA λf c2 A c0 s H vs Q E N h=>?_;show kB h λla sh na p d l L b e F=>e0_7 F λU C y d1 he hL k=>?_;clear F;subst h U;show ai y λas hn Z=>?_;clear y;have hu:=N.units;show⟨_,(ak (stX 3 wA.nd (pqX (rf G) N (ae (pqX (nD G) N (ae (pv 2) ag)) (ae (gi G.Fb) ag))))
 (ak (fA rfl (fV K (pv 1)) (gnX 4 wA.nd)
 (ak (stX 5 wA.nd (pqX (RE G) N (ae (ax K (pv 0)) (ae (pv 4) (ae (pv 2) ag)))))
 (ak (stX 6 wA.nd (WG (pR (cW pN (pv 5) gp QE) (pqX (jd G) N (ae dX ag)) (pqX (B2 G) N (ae (pv 0) (ae (pv 5) ag))))))
 (aq (dR (kC K (pv 3) (pqX (rf G) N (ae (pv 6) (ae (gi G.E9) ag)))))))))
 (aq (aK (pv 3))))),?_⟩
 k_in;have c4:=Rt.iB (n:=e) (k:=7) QB QA;show⟨e,rfl,QA,λq1 H1 c6 s1 b2=>?_⟩;show aJ q1 _ 10 ⟨rfl,b2,QA,QB,λq H2 hq s2 b3=>?_⟩;have X:=s1.free hq;have S:=s1.trans s2;have c3:=pP 10 (cV e);show⟨na,rfl,⟨_,aj.of (S _ _ hn)⟩,forL (xs:=as.map V.ref) (λi σ B=>∃u4 u5 u6,σ= [some (.ref la),some (.ref na),some (vn e),some (.ref q),u4,u5,u6]/\aO sh H B/\B sh=some (.dK (eI (L++i7 l (b.take i) e)))/\L2.Row B q (jZ l (b.take i) e)) ⟨none,none,none,rfl,fh S,?_,?_⟩ (λi σ B _ b8=>gJ b8 λ_ _ _ _ M _=>aj.of (eR M C.shown hn)) ?_ ?_⟩
 .show H2 sh=some (.dK (eI (L++[])));rw[ee];show S _ _ C.shown
 .show H2 q=_;rw[b3];unfold jZ;simp
 .intro i x σ B hx I;show iN I λu4 u5 u6 j M g u=>?_;subst I j;show ai (fW hx) λa b0 T=>?_;subst T;show ai (Paired.get' Z b0) λt R a0=>?_;have O:L2.Row B a t:=eR M C.shown a0;have c5:i<b.length:=(dW.mp R).1;have c9:(i7 l (b.take i) e).length<=100:=by unfold i7;rw[ay];show dE (Lk _ _) ?_;rw[ff];lia
  have W:gE ad B la sh p d l (L++i7 l (b.take i) e):=C.but M g (by rw[aP];lia);show nk W.ex λdx fa rl pg bs h1 h2 h3=>?_;have e1:i7 l (b.take (i+1)) e=i7 l (b.take i) e++(l9 l t e).toList.map j7:=by unfold i7;rw[take_snoc R,List.filterMap_append,fk];congr 1
  have e2:jZ l (b.take (i+1)) e=jZ l (b.take i) e++fJ 15 (oI [45] (l9 l t e)):=by unfold jZ;rw[take_snoc R,gc,eZ];simp
  have m:∀z,l9 l t e=some z->jx z:=λz hz=>C.good z (B4 hz);have c1:(jZ l (b.take i) e).length<=20+29*100:=by unfold jZ;rw[aP];have h:=kD (f:=λt=>fJ 15 (oI [45] (l9 l t e))) (c:=29) (b.take i) λt' _=>dE (pP _ _) (by have:=zr (l:=l) (x:= [45]) (o:=l9 l t' e) QB λz hz=>C.good z (B4 hz);lia);rw[ff]at h;have h2:min i b.length*29<=100*29:=kj _ QA;lia
  k_in;show aLayoutX G h1 ?_;k_in;show wR fa a bs l t e ⟨rfl,h2,h3,C.ri,by have:=C.len;lia,O,λv H3 s3 hv=>?_⟩;show Nk (W.mono s3) hv m QC λq4 H4 c7 b4 a3 a4=>?_;have a5:("-":Str).cps.toList= [45]:=QC;rw[a5]at a4;have d2:=zr (l:=l) (x:= [45]) QB m;have d3:=pP 15 (oI [45] (l9 l t e));k_in;have Y:L2.Row H4 q (jZ l (b.take i) e):=eR (gP (fh s3) b4) g u;show⟨.inl ⟨rfl,_,aj.of Y⟩,aJ q4 _ 15 ⟨rfl,a4,QA,QB,λq5 H5 c8 s5 b7=>?_⟩⟩;have b5:aO sh B H5:=gP (fh s3) (gP b4 (fh s5));have D:L2.Row H5 q (jZ l (b.take i) e):=eR b5 g u;k_in;show eY q q5 _ _ ⟨rfl,rfl,D,b7,?_,?_⟩
  .rw[dh,dh,aQ];lia
  .show aJ _ _ _ ⟨rfl,qH (gP M b5) X,?_,?_⟩
   .rw[az (nV (s5 _ _ a3) D (λ_ r=>nomatch r)).symm,e1,<-eZ];show s5 _ _ a3
   .show upd _ _ _ _=_;rw[ar,iG,e2]
 .intro σ B J;show iN J λu4 u5 u6 j M g u=>?_;subst J j;rw[ay,Paired.length Z,gk]at u g;k_in;show k q B X M g u
def Nw(xs:List V)(n:Nat)(a:0<n):lA xs (some (-(n:Int))) none=xs.drop (xs.length-n):=by
 unfold lA;have e:HT.iR xs.length 0 (some (-(n:Int)))=xs.length-n:=by show(if(-(n:Int))<0 then(-(n:Int)+(xs.length:Int)).toNat else _)=_;rw[QG QA];lia
 rw[e,HT.CA,nM (by rw[iI];lia)]
def xn(H:Hp)(c:ab)(d:List (Nat×Nat))(b:List (List Nat))(Q:VK):Prop:=∀(q:ab)(H':Hp)(as:List ab),H q=none->aO c H H'->H' c=some (.dK (eI d))->H' q=some (.lst (as.map V.ref))->b9 H' as b->(∀a∈as,H a=none)->Q (.ref q) H'
def wj{H H':Hp}{d p:ab}{k:List (Key×V)}{as:List ab}{c:List (List Nat)}(b:aO d H H')(h:H d=some (.dK k))(r:b9 (del H p) as c):b9 (del H' p) as c:=Paired.dS r λa f q=>by
 have q:del H p a=some (.lst (vr f)):=q;show del H' p a=_;by_cases e:a=p
 .subst e;rw[nU]at q;cases q
 .rw[eT e]at q ⊢;show eR b h q
def Dx(l:bB)(a:List (List Nat)):xF l a=(fJ 10 (au "day")++a.flatMap (fJ 15))::(i5 l a).map (jZ l a):=by unfold xF jZ oI;rfl
def Dv(l:bB)(a:List (List Nat)):i5 l a=(sI l a).drop ((sI l a).length-5):=rfl
def Dw(l:bB)(a:List (List Nat)):(i5 l a).length<=5:=by rw[Dv,iI];lia
def Wn{l:bB}{d:List (List Nat)}(b:∀z∈l,jx z):∀x∈i5 l d,x<=100000:=λx a=>by
 rw[Dv]at a;have a:=Ec a;unfold sI at a;obtain h | ⟨z,c,rfl⟩:=(Rt.x6 _ _ _ _).mp a
 .cases h
 .show(b z (ki.mp c).1).day
def uh(l:bB)(a:List (List Nat)):List (Nat×Nat):=(i5 l a).flatMap (i7 l a)
def FF(l:bB)(a:List (List Nat))(e:Nat):(i7 l a e).length<=a.length:=by unfold i7;rw[ay];show Lk _ _
def V3(ad:Ad):Sp:=λf H Q _=>∃(b e c:ab)(p d:Nat)(l:bB)(L:List (Nat×Nat))(a:List (List Nat)),f= [.ref b,.ref c]/\gE ad H b e p d l L/\Rows H c a/\a.length<=100/\(∀t∈a,t.length<=1000)/\L.length<=8000000/\xn H e (L++uh l a) (xF l a) Q
def R9(G:bh K mg ad):bu P w K mg base 5 "table_lines" ["layout","names"] (V3 ad):=by
 show G.O0.hsX wB λf g0 A f7 s H vs Q E hr h=>?_;show e8_1 h λla sh na p d l L b U=>e0_7 U λc0 hl c2 d2 d1 hL k=>?_;clear U;subst h c0;show ai c2 λas hn M=>?_;clear c2;have hu:=hr.units;show⟨_,(ak (stX 2 wB.nd (pqX (rf G) hr (ae (pqX (jd G) hr (ae dX ag)) (ae (gi G.Fb) ag))))
 (ak (fA rfl (fV K (pv 1)) (gnX 3 wB.nd)
 (aq (dR (kC K (pv 2) (pqX (rf G) hr (ae (pv 3) (ae (gi G.E9) ag)))))))
 (ak (stX 4 wB.nd (bt (ae (pv 2) ag)))
 (ak (fA rfl (fV K (jf (kK K) (pqX (RL G) hr (ae (ax K (pv 0)) (ae (pv 1) ag))) (gR (tQ uj (gi G.MH))) lG)) (gnX 5 wB.nd)
 (aq (dR (gI K (pv 4) (pqX (R8 G) hr (ae (pv 0) (ae (pv 1) (ae (pv 5) ag))))))))
 (aq (aK (pv 4))))))),?_⟩
 lk;have e3:("day":Str).cps.toList=au "day":=QC;show⟨_,rfl,QC,λq1 H1 g5 s1 d3=>?_⟩;rw[e3]at d3;show aJ q1 _ 10 ⟨rfl,d3,QC,QB,λq H2 hq s2 e9=>?_⟩;have c3:=s1.free hq;have e0:=s1.trans s2;show⟨na,rfl,⟨_,aj.of (e0 _ _ hn)⟩,forL (xs:=as.map V.ref) (λi σ g=>∃u3,σ= [some (.ref la),some (.ref na),some (.ref q),u3,none,none]/\ah H g/\L2.Row g q (fJ 10 (au "day")++(b.take i).flatMap (fJ 15))) ⟨none,rfl,e0,?_⟩ (λi σ g _ b4=>bA b4 λ_ _ v _=>aj.of (v _ _ hn)) ?_ ?_⟩
 .show H2 q=_;rw[e9];simp
 .intro i x σ g hx X;show bA X λu3 B v o=>?_;subst X B;show ai (fW hx) λa e1 C=>?_;subst C;show ai (Paired.get' M e1) λt b3 c6=>?_;have b2:L2.Row g a t:=v _ _ c6;have a4:i<b.length:=(dW.mp b3).1;have ht:=d1 t (dD b3);have f9:(fJ 10 (au "day")++(b.take i).flatMap (fJ 15)).length<=20+1015*100:=by rw[aP];have h:=kD (f:=fJ 15) (c:=1015) (b.take i) λt' e8=>dE (pP _ _) (by have:=d1 t' (oV e8);lia);rw[ff]at h;have h2:min i b.length*1015<=100*1015:=kj _ QA;have h3:(fJ 10 (au "day")).length<=20:=QC;lia
  have g8:=pP 15 t;lk;show⟨.inl ⟨rfl,_,aj.of o⟩,aJ a _ 15 ⟨rfl,b2,QA,QB,λq5 H5 g6 s5 f3=>?_⟩⟩;have c4:=s5 _ _ o;show eY q q5 _ _ ⟨rfl,rfl,c4,f3,?_,?_⟩
  .rw[dh,dh,aQ];lia
  .exists(v.trans s5).upd c3;show upd _ _ _ _=_;rw[ar,iG,take_snoc b3,gc,eZ];simp
 .intro σ H3 Y;show bA Y λu3 B s3 o=>?_;subst Y B;rw[ay,Paired.length M,gk]at o;generalize a3:fJ 10 (au "day")++b.flatMap (fJ 15)=hd at o;lk;show⟨QB,λz a5=>?_⟩;generalize b5:upd H3 z _=H4;have s4:=sN b5 a5;have S:H4 z=some (.lst ([q].map V.ref)):=vN b5;have N:=s3.trans s4;have e4:=hl.mono N;show nk e4.ex λdx fa rl pg bs h1 h2 h3=>?_;dsimp only[gT,iC,jK,a7,aL,aR,jJ,lJ,bQ,rU,tC,aB,jv,ee,aX,aU,aV,aW,d5,d4];show aLayoutX G h1 ?_;show gD fa na bs l b ⟨rfl,h2,h3,hl.len,⟨as,N _ _ hn,Paired.dS M λ_ _ r=>N _ _ r⟩,λq6 H6 g7 s6 f5=>?_⟩;show⟨_,rfl,aZ q6 _ ⟨rfl,aj.of f5,λsl c8=>?_⟩⟩;generalize b7:upd H6 sl _=H7;have s7:=sN b7 c8;have u:L2.Row H7 sl (i5 l b):=by rw[<-b7];show upd _ _ _ _=_;rw[ar,Dv,<-um,show(-5:Int)=-((5:Nat):Int)from rfl,Nw _ _ QB,dh]
  have d8:=N.trans (s6.trans s7);have R:H z=none:=s3.free a5;have e5:q≠z:=eu o a5;have e7:b9 (del H7 z) [q] [hd]:= .cons (by show del _ _ _=_;rw[eT e5];show(s4.trans (s6.trans s7)) _ _ o) .nil;have g4:=Dw l b;show⟨sl,rfl,⟨_,aj.of u⟩,forL (xs:=vr (i5 l b)) (λi σ g=>∃u3 u5 O,σ= [some (.ref la),some (.ref na),some (.ref q),u3,some (.ref z),u5]/\aO sh H g/\L2.Row g sl (i5 l b)/\g sh=some (.dK (eI (L++((i5 l b).take i).flatMap (i7 l b))))/\g z=some (.lst (O.map V.ref))/\b9 (del g z) O (hd::((i5 l b).take i).map (jZ l b))/\(∀a∈O,H a=none)) ⟨u3,none,[q],rfl,fh d8,u,?_,(s6.trans s7) _ _ S,e7,λa ha=>by rw[iw.mp ha];show c3⟩ (λi σ g _ b4=>iN b4 λ_ _ _ _ _ r1 _=>aj.of r1) ?_ ?_⟩
  .show H7 sh=some (.dK (eI (L++[])));rw[ee];show d8 _ _ hl.shown
  .intro i x σ g hx Z;show vw Z λu3 u5 O D v W n j F a0=>?_;subst Z D;show ai (fW hx) λe J C=>?_;subst C;have c1:=dD J;have he:=Wn hl.good e c1;have a4:i<(i5 l b).length:=(dW.mp J).1;have c8:(((i5 l b).take i).flatMap (i7 l b)).length<=500:=by have h:=kD (f:=i7 l b) (c:=100) ((i5 l b).take i) λt' _=>dE (FF _ _ _) d2;rw[ff]at h;have h2:min i (i5 l b).length*100<=5*100:=kj _ QA;lia
   have e2:gE ad g la sh p d l (L++((i5 l b).take i).flatMap (i7 l b)):=hl.but v n (by rw[aP];lia);have e6:Rows g na b:=⟨as,eR v hl.shown hn,Paired.dS M λ_ _ r=>eR v hl.shown r⟩;lk;show⟨.inl ⟨rfl,_,aj.of j⟩,gy la sh na p d l _ b ⟨e,rfl,e2,e6,d2,QA,by rw[aP];lia,λq8 H8 b0 b8 c7 f6=>?_⟩⟩;have T:=eR b8 n j;have c5:q8≠z:=λr=>by rw[r,j]at b0;cases b0
   show aJ z _ _ ⟨rfl,rfl,T,?_,?_⟩
   .rw[ay,Paired.length F,aG,ay,ff,aQ];lia
   have c9:sl≠z:=λr=>by
    rw[r]at u;have h:=(s6.trans s7) _ _ S;rw[u]at h;have h:=HO.lst.inj (df.inj h);cases hv:i5 l b with
    |nil=>rw[hv]at a4;show absurd a4 (xl _)
    |cons y ys=>rw[hv]at h;cases h
   .show aZ _ _ ⟨⟨rfl,rfl⟩,?_,?_,?_,O++[q8],?_,?_,?_⟩
    .show qH (gP v b8) R
    .show upd _ _ _ _=_;rw[az c9];show eR b8 n W
    .rw[az (nV c7 T (λ_ r=>nomatch r)).symm,c7,take_snoc J,gc,eZ];simp
    .rw[ar,hY]
    .rw[fU,take_snoc J,fk];show Paired.snoc (l:=O) (m:=hd::((i5 l b).take i).map (jZ l b)) ?_ (wj b8 n F);show del _ _ _=_;rw[eT c5];show f6
    .show pE a0 (pA v (nn n) b0)
  .intro σ g I;show vw I λu3 u5 O D v W n j F a0=>?_;subst I D;rw[dh,gk]at n F;lk;show k z g O R v n j ?_ a0;rw[Dx,a3];show F.mono gB
def nO(H:Hp)(a:ab)(b:Str×List Nat):Prop:=∃r,H a=some (.tup [.str b.1,.ref r])/\L2.Row H r b.2
def kl(H:Hp)(b:ab)(c:List (Str×List Nat)):Prop:=∃a:List ab,H b=some (.lst (a.map V.ref))/\Paired (nO H) a c
def nO.mono{H H':Hp}(s:ah H H'){a:ab}{c:Str×List Nat}:nO H a c->nO H' a c:=λb=>ai b λr d e=>⟨r,s _ _ d,s _ _ e⟩
def kl.mono{H H':Hp}(s:ah H H'){a:ab}{c:List (Str×List Nat)}:kl H a c->kl H' a c:=λb=>ai b λf d e=>⟨f,s _ _ d,Paired.dS e λ_ _ q=>q.mono s⟩
def nO.but{H H':Hp}{d a:ab}{k:List (Key×V)}{c:Str×List Nat}(s:aO d H H')(h:H d=some (.dK k)):nO H a c->nO H' a c:=λb=>ai b λr e f=>⟨r,Mf s h e,eR s h f⟩
def kl.but{H H':Hp}{d a:ab}{k:List (Key×V)}{c:List (Str×List Nat)}(s:aO d H H')(h:H d=some (.dK k)):kl H a c->kl H' a c:=λb=>ai b λg e f=>⟨g,eR s h e,Paired.dS f λ_ _ q=>q.but s h⟩
def d0(l:bB)(x:jk)(a:Str×List Nat):List Nat:=
 if a.1="plain"then a.2 else if a.1="value"then oI (au "none") (fI l a.2)
 else if a.1="person"then cV x.person else if a.1="day"then cV x.day else if a.1="page"then x.page else x.pages
def fM(l:bB)(a:Str×List Nat):List (Nat×Nat):=if a.1="value"then(fI l a.2).toList.map j7 else[]
structure oY(pc:Str×List Nat):Prop where
 kind:pc.1="plain"\/pc.1="value"\/pc.1="person"\/pc.1="day"\/pc.1="page"\/pc.1="pages"
 size:pc.2.length<=200
def Bt{l:bB}{x:jk}{b:Str×List Nat}(a:oY b)(c:∀z∈l,jx z)(h:x.person<=1000000000)(g:x.day<=100000)(e:x.page.length<=20)(f:x.pages.length<=20):(d0 l x b).length<=200:=by
 unfold d0;have:=a.size;split
 .show a.size
 .split
  .show dE (zr (l:=l) QC λz d=>c z (qG d)) QB
  .split
   .show dE (Rt.iB (k:=10) QB QA) QB
   .split
    .show dE (Rt.iB (k:=10) QB QA) QB
    .split
     .lia
     .lia
def Di(ad:Ad):Sp:=λk H Q _=>∃(g i h e f:ab)(p d:Nat)(l:bB)(L:List (Nat×Nat))(b:List (Str×List Nat))(c a:List Nat),k= [.ref g,.ref h,.ref e,.ref f]/\gE ad H g i p d l L/\p<=1000000000/\d<=100000/\kl H h b/\(∀j∈b,oY j)/\b.length<=500/\L2.Row H e c/\L2.Row H f a/\c.length<=20/\a.length<=20/\L.length<=8000000/\
 sj H i (L++b.flatMap (fM l)) (.lst (vr (b.flatMap (d0 l {person:=p,day:=d,page:=c,pages:=a})))) Q
def BX(G:bh K mg ad):bu P w K mg base 5 "fill_holes" ["layout","pieces","page","pages"] (Di ad):=by
 show G.NV.hsX wq λf e9 A g9 s H vs Q E hr h=>?_;show kB h λla D pa g1 g2 p d l L a0=>jD a0 λt v e Z=>e0_13 Z λa5 F c4 b7 W aA h8 f5 f6 c6 X hL k=>?_;clear Z;clear a0;subst h a5;have hu:=hr.units;have g6:(A.deeper (envOfC "fill_holes" (aS CH) s.heap.objs.size f e9)).units+1<cLine:=QA;show⟨_,(ak (stX 4 wq.nd (SG (yM dX (pqX (nD G) hr (ae (ax K (pv 0)) ag)) (yM dX (pqX (nD G) hr (ae (ax K (pv 0)) ag)) (yM dX (pv 2) (yM dX (pv 3) Ta)))) rfl rfl (List.cons_ne_nil _ _) (Nat.le_of_ble_eq_true rfl)))
 (ak (stX 5 wq.nd (bt ag))
 (ak (fA rfl (fV K (pv 1)) (ya K rfl (nF (gnX 6 wq.nd) (nF (gnX 7 wq.nd) vV)))
 (aq (bL (cW (fz K hu) (pv 6) dX QE)
  (aq (dR (kC K (pv 5) (pv 7))))
  (aq (bL (cW (fz K hu) (pv 6) dX QE)
   (aq (dR (kC K (pv 5) (pqX (Sb G) hr (ae (pv 0) (ae (pv 7) ag))))))
   (aq (dR (kC K (pv 5) (pQ g6 (pv 4) (pv 6) (λ_ _=>rfl))))))))))
 (aq (aK (pv 5)))))),?_⟩
 show nk F.ex λdx fa rl i0 bs h1 h2 h3=>?_;lk;intro fd O;have s1:ah H (upd H fd (.dK [])):=ah.new O;unfold pX;lk;show aLayoutX G (s1 _ _ h1) ?_;lk;show⟨p,rfl,QA,λI H1 d1 s2 e5=>?_⟩;unfold pX;lk;have e8:=s1.trans s2;show aLayoutX G (e8 _ _ h1) ?_;lk;show⟨d,rfl,QA,λJ H2 g0 s3 e6=>?_⟩;unfold pX pX pX;lk;have h4:=e8.trans s3;exists(s2.trans s3) _ _ ar,[(.inr "person",.ref I),(.inr "day",.ref J),(.inr "page",.ref g1),(.inr "pages",.ref g2)],rfl,(by show 4<=15;decide),cT _;generalize e3:upd H2 fd _=H3;intro q Y;generalize e4:upd H3 q _=H4;have b8:∀o,H2 fd=some o->fd≠I/\fd≠J:=λo _=>by
  constructor
  .intro r;rw[<-r,ar]at d1;cases d1
  .intro r;have:=s2 _ _ (show upd H fd (.dK []) fd=_ from ar);rw[r,g0]at this;cases this
 have y:=b8 _ ((s2.trans s3) _ _ ar);have B:H3 fd=some (.dK (qX [] [(.inr "person",.ref I),(.inr "day",.ref J),(.inr "page",.ref g1),(.inr "pages",.ref g2)])):=vN e3;generalize N:qX [] [((.inr "person":Key),V.ref I),(.inr "day",.ref J),(.inr "page",.ref g1),(.inr "pages",.ref g2)]=FD at B;have T:=sN e4 Y;have e7:ah H H3:=by rw[<-e3];show h4.upd O
 have b4:=e7.trans T;have c9:=e7.free Y;have r1:L2.Row H4 I (cV p):=T _ _ (by rw[<-e3,az y.1.symm];show s3 _ _ e5);have r2:L2.Row H4 J (cV d):=T _ _ (by rw[<-e3,az y.2.symm];show e6);have c0:=T _ _ B;have g4:L2.Row H4 q []:=vN e4;have c1:fd≠D:=λr=>by rw[r,F.shown]at O;cases O
 have d3:I≠q:=λr=>by rw[<-r,<-e3,az y.1.symm,s3 _ _ e5]at Y;cases Y
 have d8:J≠q:=λr=>by rw[<-r,<-e3,az y.2.symm,e6]at Y;cases Y
 have d2:fd≠q:=λr=>by rw[<-r,B]at Y;cases Y
 show ai W λps c5 c8=>?_;clear W;show⟨pa,rfl,⟨_,aj.of (b4 _ _ c5)⟩,forL (xs:=ps.map V.ref) (λi σ j=>∃u6 u7,σ= [some (.ref la),some (.ref pa),some (.ref g1),some (.ref g2),some (.ref fd),some (.ref q),u6,u7]/\aO D H j/\j D=some (.dK (eI (L++(t.take i).flatMap (fM l))))/\L2.Row j q ((t.take i).flatMap (d0 l {person:=p,day:=d,page:=v,pages:=e}))/\j fd=some (.dK FD)/\L2.Row j I (cV p)/\L2.Row j J (cV d)) ⟨none,none,rfl,fh b4,?_,g4,c0,r1,r2⟩ (λi σ j _ g8=>bp g8 λ_ _ _ M _=>aj.of (eR M F.shown c5)) ?_ ?_⟩
 .show H4 D=some (.dK (eI (L++[])));rw[ee];show b4 _ _ F.shown
 .intro i x σ j hx a3;show sX a3 λu6 u7 m M n C g b2 b3=>?_;subst a3 m;show ai (fW hx) λa f3 m=>?_;subst m;show ai (Paired.get' c8 f3) λz R f9=>?_;have c7:=aA z (dD R);have h7:i<t.length:=(dW.mp R).1;show ai (f9.but M F.shown) λr ht e0=>?_;have e1:(t.take (i+1)).flatMap (fM l)=(t.take i).flatMap (fM l)++fM l z:=by rw[take_snoc R,gc];simp
  have e2:(t.take (i+1)).flatMap (d0 l {person:=p,day:=d,page:=v,pages:=e})=(t.take i).flatMap (d0 l {person:=p,day:=d,page:=v,pages:=e})++d0 l {person:=p,day:=d,page:=v,pages:=e} z:=by rw[take_snoc R,gc];simp
  have h9:((t.take i).flatMap (fM l)).length<=500:=by
   have h:=kD (f:=fM l) (c:=1) (t.take i) λt' _=>by
    unfold fM;split
    .cases fI l t'.2<;>simp
    .show cT _
   rw[ff]at h;lia
  have h5:((t.take i).flatMap (d0 l {person:=p,day:=d,page:=v,pages:=e})).length<=100000:=by have h:=kD (f:=d0 l {person:=p,day:=d,page:=v,pages:=e}) (c:=200) (t.take i) λt' g5=>Bt (aA t' (oV g5)) F.good c4 b7 c6 X;rw[ff]at h;have h2:min i t.length*200<=500*200:=kj _ QA;lia
  have h6:=Bt (l:=l) (x:={person:=p,day:=d,page:=v,pages:=e}) c7 F.good c4 b7 c6 X;have f7:gE ad j la D p d l (L++(t.take i).flatMap (fM l)):=F.but M n (by rw[aP];lia);have c2:=eR M F.shown f5;have c3:=eR M F.shown f6;have step:∀(c:ab)(U:Hp)(kk:Str),aO D j U->U D=some (.dK (eI (L++(t.take (i+1)).flatMap (fM l))))->L2.Row U c (d0 l {person:=p,day:=d,page:=v,pages:=e} z)->Cp (.ref q) [.ref c] U λ_ H6=>∃u6 u7,(some (V.str kk)=u6/\some (V.ref r)=u7)/\aO D H H6/\H6 D=some (.dK (eI (L++(t.take (i+1)).flatMap (fM l))))/\L2.Row H6 q ((t.take (i+1)).flatMap (d0 l {person:=p,day:=d,page:=v,pages:=e}))/\H6 fd=some (.dK FD)/\L2.Row H6 I (cV p)/\L2.Row H6 J (cV d):=by
   intro c U kk b5 S hc;have b0:=eR b5 n C;show eY q c _ _ ⟨rfl,rfl,b0,hc,?_,aZ _ _ ⟨⟨rfl,rfl⟩,qH (gP M b5) c9,?_,?_,?_,?_,?_⟩⟩
   .rw[dh,dh,aQ];lia
   .rw[az (nV S b0 (λ_ r=>nomatch r)).symm];show S
   .show upd _ _ _ _=_;rw[ar,iG,e2]
   .rw[az d2];show b5.at g c1
   .show upd _ _ _ _=_;rw[az d3];show eR b5 n b2
   .show upd _ _ _ _=_;rw[az d8];show eR b5 n b3
  show aZ a _ ⟨rfl,eV.of ht,rfl,aZ _ _ ⟨rfl,aZ _ _ ⟨rfl,rfl,?_⟩⟩⟩;lk;have ty:pY K "list" (V.ref q) j:= .inl ⟨rfl,_,aj.of C⟩;have b:z.1≠"value"->j D=some (.dK (eI (L++(t.take (i+1)).flatMap (fM l)))):=λh=>by rw[e1,show fM l z= []from QH h,ee];show n
  rcases c7.kind with h | h | h | h | h | h
  .show dw (QI h) ?_;show⟨ty,step r j _ (ah.refl _) (b (by rw[h];decide +kernel)) ?_⟩;rw[show d0 l {person:=p,day:=d,page:=v,pages:=e} z=z.2 from QG h];show e0
  .rw[QH (by rw[h];decide +kernel)];show dw (QI h) ?_;show⟨ty,gy la D r p d l _ z.2 ⟨rfl,f7,e0,λq5 U b0 b5 S g7=>step q5 U _ b5 ?_ ?_⟩⟩
   .rw[S,e1,show fM l z=_ from QG h,eZ]
   .show U q5=_;rw[g7];unfold d0;rw[QH (by rw[h];decide +kernel),QG h]
  .have hn:=b (by rw[h];decide +kernel);have u:d0 l {person:=p,day:=d,page:=v,pages:=e} z=cV p:=by unfold d0;rw[QH (by rw[h];decide +kernel),QH (by rw[h];decide +kernel),QG h]
   rw[QH (by rw[h];decide +kernel),QH (by rw[h];decide +kernel)];show⟨ty,aZ fd (.ref I) ⟨rfl,.inl ⟨FD,.inr "person",.inl g,by rw[h];rfl,by rw[<-N];rfl⟩,step I j _ (ah.refl _) hn ?_⟩⟩;rw[u];show b2
  .have hn:=b (by rw[h];decide +kernel);have u:d0 l {person:=p,day:=d,page:=v,pages:=e} z=cV d:=by unfold d0;rw[QH (by rw[h];decide +kernel),QH (by rw[h];decide +kernel),QH (by rw[h];decide +kernel),QG h]
   rw[QH (by rw[h];decide +kernel),QH (by rw[h];decide +kernel)];show⟨ty,aZ fd (.ref J) ⟨rfl,.inl ⟨FD,.inr "day",.inl g,by rw[h];rfl,by rw[<-N];rfl⟩,step J j _ (ah.refl _) hn ?_⟩⟩;rw[u];show b3
  .have hn:=b (by rw[h];decide +kernel);have u:d0 l {person:=p,day:=d,page:=v,pages:=e} z=v:=by unfold d0;rw[QH (by rw[h];decide +kernel),QH (by rw[h];decide +kernel),QH (by rw[h];decide +kernel),QH (by rw[h];decide +kernel),QG h]
   rw[QH (by rw[h];decide +kernel),QH (by rw[h];decide +kernel)];show⟨ty,aZ fd (.ref g1) ⟨rfl,.inl ⟨FD,.inr "page",.inl g,by rw[h];rfl,by rw[<-N];rfl⟩,step g1 j _ (ah.refl _) hn ?_⟩⟩;rw[u];show c2
  .have hn:=b (by rw[h];decide +kernel);have u:d0 l {person:=p,day:=d,page:=v,pages:=e} z=e:=by unfold d0;rw[QH (by rw[h];decide +kernel),QH (by rw[h];decide +kernel),QH (by rw[h];decide +kernel),QH (by rw[h];decide +kernel),QH (by rw[h];decide +kernel)]
   rw[QH (by rw[h];decide +kernel),QH (by rw[h];decide +kernel)];show⟨ty,aZ fd (.ref g2) ⟨rfl,.inl ⟨FD,.inr "pages",.inl g,by rw[h];rfl,by rw[<-N];rfl⟩,step g2 j _ (ah.refl _) hn ?_⟩⟩;rw[u];show c3
 .intro σ j a4;show sX a4 λu6 u7 m M n C g b2 b3=>?_;subst a4 m;rw[ay,Paired.length c8,gk]at C n;lk;show k q j c9 M n C
def G1{l H:Hp}{f:List Nat->List Nat}:∀{a:List (List Nat)}{g:List V},Made (λk y=>∃b,y=some (V.ref b)/\l b=none/\L2.Row H b (f k)) a g->∃d:List ab,g=d.map V.ref/\b9 H d (a.map f)/\∀b∈d,l b=none
 |_,_,.nil=>⟨[],rfl,.nil,λ_ h=>nomatch h⟩
 |k::a,y::g,.put q t=>by
  obtain⟨d,e,n,o⟩:=G1 t;obtain⟨b,i,m,p⟩:=q;cases i;show⟨b::d,by rw[e];rfl,.cons p n,λc j=>by
   rcases bG.mp j with rfl | j
   .show m
   .show o c j⟩
 |k::a,g,.out q t=>by obtain⟨b,i,_⟩:=q;cases i
def GQ{g:TG}{O:TT}{N:TE}{vs:List Nat}{σ:L2.St}{H:Hp}{Q:VK}{a:ab}{as:List ab}{d:List (List Nat)}(f:List Nat->List Nat)(T:H a=some (.lst (as.map V.ref)))(L:b9 H as d)(hz:d.length<=1000000)
  (r:∀(c:ab)(ns:List Nat)(h:Hp)(C:Option V->Hp->Prop),ns∈d->ah H h->L2.Row h c ns->(∀q l,h q=none->ah h l->L2.Row l q (f ns)->C (some (.ref q)) l)->gM g O N vs σ (.ref c) h C)
  (k:qx H (d.map f) Q):ny (jP K a) g O N vs σ H Q:=by
 have G:=Paired.length L;show tJ (xs:=as.map V.ref) (zs:=d) (by rw[ay,G]) (λv ns y=>∃b,y=some (V.ref b)/\H b=none/\L2.Row v b (f ns)) (λs F=>bA F λb n j t=>⟨b,n,j,s _ _ t⟩) (by rw[ay,G,aQ];lia) (vG (aj.of T)) (λD i x z h C n j t u A S=>?_) λD v X n j t u=>?_
 .show ai (fW n) λc B m=>?_;subst m;show ai (Paired.get' L B) λns I p=>?_;rw[j]at I;cases I;show r c z h C (dD j) A.iP (A.iP _ _ p) λq l J M E=>S _ l ?_ M.del ⟨q,rfl,A.iP.free J,?_⟩
  .cases e:h D with
   |none=>show absurd e u
   |some o=>rw[M D o e]
  .show del _ _ _=_;rw[eT (λ(e:q=D)=>u (e▸J))];show E
 .show bA (G1 u) λR e U W=>?_;show k D v R n j (by rw[t,e]) U W
structure eh where
 kind:Str
 names:List (List Nat)
 aF:List (Str×List Nat)
def nc(ad:Ad)(H:Hp)(a:ab)(t:eh):Prop:=∃(e c d:ab)(b:List (Str×V)),H a=some (.ins ad.Entry e b)/\b.lookup ("kind":Str)=some (V.str t.kind)/\b.lookup ("names":Str)=some (V.ref c)/\b.lookup ("pieces":Str)=some (V.ref d)/\Rows H c t.names/\kl H d t.aF
def Rows.Q9{H H':Hp}(s:ah H H'){a:ab}{b:List (List Nat)}:Rows H a b->Rows H' a b:=λc=>ai c λas d e=>⟨as,s _ _ d,Paired.dS e λ_ _ q=>s _ _ q⟩
def nc.mono{H H':Hp}(s:ah H H'){a:ab}{t:eh}:nc ad H a t->nc ad H' a t:=λb=>qM b λc k l d e f g h i j=>⟨c,k,l,d,s _ _ e,f,g,h,Rows.Q9 s i,j.mono s⟩
def nc.but{H H':Hp}{b a:ab}{k:List (Key×V)}{t:eh}(s:aO b H H')(h:H b=some (.dK k)):nc ad H a t->nc ad H' a t:=λ⟨c,m,n,d,e,f,g,i,j,l⟩=>⟨c,m,n,d,jU s h e,f,g,i,Rows.but s h j,l.but s h⟩
structure uI(t:eh):Prop where
 aF:∀pc∈t.aF,oY pc
 d6:t.aF.length<=500
 names:∀n∈t.names,n.length<=1000
 Px:t.names.length<=100
 one:t.kind="row"\/t.kind="if"->t.names≠ []
abbrev kb(p d:Nat):jk:={person:=p,day:=d,page:= [63],pages:= [63]}
def gj(l:bB)(p d k:Nat)(t:eh):List (List Nat):=
 if t.kind="text"then mh k (t.aF.flatMap (d0 l (kb p d)))
 else if t.kind="row"then[(xC l (t.names.headD [])).take k]
 else if t.kind="table"then(xF l t.names).map λw=>w.take k
 else[[]]
def fY(l:bB)(t:eh):List (Nat×Nat):=
 if t.kind="text"then t.aF.flatMap (fM l)
 else if t.kind="row"then(fI l (t.names.headD [])).toList.map j7
 else if t.kind="table"then uh l t.names
 else[]
def E6{H d:Hp}{g:ab}{h:List (Nat×Nat)}{c:List (List Nat)}{Q:VK}(b:aO g H d)(f:d g=some (.dK (eI h)))(k:xn H g h c Q):qx d c Q:=λq i as m s e n l=>k q i as (pA b (nn f) m) (gP b (fh s)) (s _ _ f) e n λa j=>pA b (nn f) (l a j)
def VM(ad:Ad):Sp:=λf H Q _=>∃(c e a:ab)(p d b:Nat)(l:bB)(L:List (Nat×Nat))(t:eh),f= [.ref c,.ref a,vn b]/\gE ad H c e p d l L/\p<=1000000000/\d<=100000/\nc ad H a t/\uI t/\1<=b/\b<=1000/\L.length<=7000000/\xn H e (L++fY l t) (gj l p d b t) Q
def RU(G:bh K mg ad):bu P w K mg base 6 "part_lines" ["layout","part","width"] (VM ad):=by
 show G.OB.hsX y4 λf c6 A c4 s H vs Q E M h=>?_;show kB h λla sh a p d wd l L t r=>e0_10 r λT W X U Y o b8 c0 hL k=>?_;clear r;subst h T;have hu:=M.units;show⟨_,(ak (bL (cW (fz K hu) (ax K (pv 1)) dX QE)
 (ak (stX 3 y4.nd (pqX (jd G) M (ae dX ag)))
 (aq (aK (pqX (Ho G) M (ae (pqX (BX G) M (ae (pv 0) (ae (ax K (pv 1)) (ae (pv 3) (ae (pv 3) ag))))) (ae (pv 2) ag))))))
 de)
 (ak (bL (cW (fz K hu) (ax K (pv 1)) dX QE)
 (aq (aK (bt (ae (jf (kK K) (pqX (R7 G) M (ae (pv 0) (ae (cz (cX K) (ax K (pv 1)) aD (λ_ _=>rfl)) ag))) lG (gR (pv 2))) ag))))
 de)
 (ak (bL (cW (fz K hu) (ax K (pv 1)) dX QE)
 (aq (aK (pl (own:= [("line",4)]) rfl y4.nd (fV K (pqX (R9 G) M (ae (pv 0) (ae (ax K (pv 1)) ag)))) (jT (by kernel_rfl)) (λ_ _ _ _ _=>(gnX 4 y4.nd)) (λ_ _ _ _ _=>oy) (λ_ _ _ _ _=>(jf (kK K) (pv 4) lG (gR (pv 2)))))))
 de)
 (aq (aK (bt (ae (bt ag) ag))))))),?_⟩
 show qM Y λdx na pa fs N t2 t3 t4 t5 t6=>?_;clear Y;lk;show dB N G.ij.cl (G.fL _ QC) t2 ?_;lk;unfold gj fY at k;by_cases I:t.kind="text"
 .rw[QG I,QG I]at k;show dw (QI I) ?_;show⟨_,rfl,QC,λq1 H1 b0 s1 i=>?_⟩;have a4:("?":Str).cps.toList= [63]:=QC;rw[a4]at i;lk;show dB (s1 _ _ N) G.ij.cl (G.fL _ QC) t4 ?_;lk;show gy la sh pa q1 q1 p d l (eY L t.aF [63] [63] ⟨rfl,W.mono s1,X,U,t6.mono s1,o.aF,o.d6,i,i,QB,QB,QA,λm F e b2 b5 j=>?_⟩);have a3:=gP (fh s1) b2;show aJ m _ wd ⟨rfl,j,?_,b8,c0,E6 a3 b5 k⟩;have h:=kD (f:=d0 l (kb p d)) (c:=200) t.aF λt' b7=>Bt (o.aF t' b7) W.good X U (by show 1<=20;decide) (by show 1<=20;decide);show dE h (kj _ o.d6)
 rw[QH I,QH I]at k;show dJ (QJ I) ?_;show dB N G.ij.cl (G.fL _ QC) t2 ?_;lk;by_cases u:t.kind="row"
 .rw[QG u,QG u]at k;show dw (QI u) ?_;show ai t5 λas n1 n2=>?_;clear t5;obtain⟨n0,ns,hn⟩:∃n0 ns,t.names=n0::ns:=by
   cases h:t.names with
   |nil=>show absurd h (o.one (.inl u))
   |cons x y=>show⟨x,y,rfl⟩
  have a5:=o.names n0 (by rw[hn];show cZ);rw[hn]at n2 k;cases n2 with
  |@cons a0 _ c5 _ b3 c7=>
  dsimp only[jK,a7,aL,aR,lJ,jJ,jv];lk;show dB N G.ij.cl (G.fL _ QC) t3 ?_;show dk (v:= .ref a0) (aj.of n1) (fu rfl) ?_;show gy la sh a0 p d l L n0 ⟨rfl,W,b3,a5,λq1 H1 b0 b1 z i=>?_⟩;show⟨q1,rfl,_,aj.of i,λm e=>?_⟩;generalize R:upd H1 m _=F;have s2:=sN R e;have j:L2.Row F m ((xC l n0).take wd):=by rw[<-R];show upd _ _ _ _=_;rw[ar,sS,p7]
  show⟨by rw[aQ];decide,λD g=>?_⟩;generalize S:upd F D _=O;have s3:=sN S g;have n:=s2.trans s3;have B:O D=some (.lst ([m].map V.ref)):=vN S;show k D O [m] (pA b1 (nn z) (s2.free g)) (gP b1 (fh n)) (n _ _ z) B (.cons (s3 _ _ j) .nil) λx hx=>?_;rw[iw.mp hx];show pA b1 (nn z) e
 rw[QH u,QH u]at k;show dJ (QJ u) ?_;show dB N G.ij.cl (G.fL _ QC) t2 ?_;lk;by_cases J:t.kind="table"
 .rw[QG J,QG J]at k;show dw (QI J) ?_;dsimp only[iC,a7,aL,aR];lk;show dB N G.ij.cl (G.fL _ QC) t3 ?_;show gy la sh na p d l L t.names ⟨rfl,W,t5,o.Px,o.names,QA,λq H1 as hq b hs Z b4 hf=>?_⟩;show⟨q,rfl,⟨_,aj.of Z⟩,GQ (λw=>w.take wd) Z b4 ?_ (λc ns Hc C hm s1 hc hk=>?_) (E6 b hs k)⟩
  .rw[Dx,aG,ay];have:=Dw l t.names;lia
  .unfold gM;lk;show⟨_,rfl,aZ c _ ⟨rfl,aj.of hc,λq hq=>hk q _ hq (ah.new hq) ?_⟩⟩;show upd _ _ _ _=_;rw[ar,sS,p7]
 rw[QH J,QH J]at k;show dJ (QJ J) ?_;show⟨cT _,λm e=>?_⟩;generalize R:upd H m _=F;have s2:=sN R e;have j:L2.Row F m []:=vN R;show⟨by rw[aQ];decide,λD g=>?_⟩;generalize S:upd F D _=O;have s3:=sN S g;have n:=s2.trans s3;have B:O D=some (.lst ([m].map V.ref)):=vN S;show k D O [m] (s2.free g) (fh n) ?_ B (.cons (s3 _ _ j) .nil) λx hx=>?_
 .rw[ee];show n _ _ W.shown
 .rw[iw.mp hx];show e
structure eS where
 width:Nat
 lines:Nat
 head:Option (List (Str×List Nat))
 foot:Option (List (Str×List Nat))
 parts:List eh
def Ep(H:Hp)(o:Option (List (Str×List Nat)))(v:V):Prop:=match o with
 |none=>v= .a9
 |some b=>∃a,v= .ref a/\kl H a b
def mW(ad:Ad)(H:Hp)(o:Option (List (Str×List Nat)))(v:V):Prop:=match o with
 |none=>v= .a9
 |some e=>∃(a d c:ab)(b:List (Str×V)),v= .ref a/\H a=some (.ins ad.Entry d b)/\b.lookup ("pieces":Str)=some (V.ref c)/\kl H c e
abbrev uJ(ad:Ad)(H:Hp):List ab->List eh->Prop:=Paired (nc ad H)
def jj(ad:Ad)(H:Hp)(a:ab)(t:eS)(ps:List ab):Prop:=∃(e pl:ab)(d c:V)(b:List (Str×V)),H a=some (.ins ad.Template e b)/\b.lookup ("width":Str)=some (vn t.width)/\b.lookup ("lines":Str)=some (vn t.lines)/\b.lookup ("head":Str)=some d/\b.lookup ("foot":Str)=some c/\b.lookup ("parts":Str)=some (V.ref pl)/\mW ad H t.head d/\mW ad H t.foot c/\H pl=some (.lst (ps.map V.ref))/\uJ ad H ps t.parts
def mW.but{H H':Hp}{b:ab}{k:List (Key×V)}{o:Option (List (Str×List Nat))}{v:V}(s:aO b H H')(h:H b=some (.dK k))(q:mW ad H o v):mW ad H' o v:=by
 cases o with
 |none=>show q
 |some j=>obtain⟨a,c,f,d,e,g,i,r⟩:=q;show⟨a,c,f,d,e,jU s h g,i,r.but s h⟩
def jj.but{H H':Hp}{d a:ab}{k:List (Key×V)}{t:eS}{ps:List ab}(s:aO d H H')(h:H d=some (.dK k)):jj ad H a t ps->jj ad H' a t ps:=λc=>sY c λe x v g f i j l m n o p r u b=>⟨e,x,v,g,f,jU s h i,j,l,m,n,o,p.but s h,r.but s h,eR s h u,Paired.dS b λ_ _ q=>q.but s h⟩
def eM(l:bB)(a:List eh×List Bool)(p:eh):List eh×List Bool:=
 if p.kind="if"then(a.1,a.2++[(fI l (p.names.headD [])).isSome])
 else if p.kind="end"then(a.1,a.2.dropLast)
 else if a.2.all id=true then(a.1++[p],a.2)else a
def iA(l:bB)(ps:List eh):List eh×List Bool:=ps.foldl (eM l) ([],[])
def Nq{l:bB}{ps:List eh}{i:Nat}{p:eh}(h:ps[i]? =some p):iA l (ps.take (i+1))=eM l (iA l (ps.take i)) p:=by unfold iA;rw[take_snoc h,ql];rfl
def Wc(l:bB)(a:List eh×List Bool)(p:eh):(eM l a p).1.length<=a.1.length+1/\(eM l a p).2.length<=a.2.length+1:=by
 unfold eM;split
 .show⟨nN _,by rw[aP];show bo _⟩
 .split
  .show⟨nN _,by rw[w8];lia⟩
  .split
   .show⟨by rw[aP];show bo _,nN _⟩
   .show⟨nN _,nN _⟩
def AX(l:bB)(ps:List eh):(iA l ps).1.length<=ps.length/\(iA l ps).2.length<=ps.length:=by
 suffices h:∀(ps:List eh)(a:List eh×List Bool),(ps.foldl (eM l) a).1.length<=a.1.length+ps.length/\(ps.foldl (eM l) a).2.length<=a.2.length+ps.length by have:=h ps ([],[]);simp only[dC,Em]at this;show this
 intro ps;induction ps with
 |nil=>intro a;show⟨bo _,bo _⟩
 |cons p ps b=>intro a;have c:=b (eM l a p);have d:=Wc l a p;rw[gF,aG];lia
def Es(l:bB)(ps:List eh):Prop:=∀(i:Nat)(p:eh),ps[i]? =some p->p.kind="end"->(iA l (ps.take i)).2≠ []
def Vf(ad:Ad):Sp:=λg H Q _=>∃(c f e:ab)(p d:Nat)(l:bB)(L:List (Nat×Nat))(t:eS)(ps:List ab),g= [.ref c,.ref e]/\gE ad H c f p d l L/\jj ad H e t ps/\(∀x∈t.parts,uI x)/\t.parts.length<=1000/\Es l t.parts/\∀(q:ab)(H':Hp)(b:List ab),H q=none->ah H H'->H' q=some (.lst (b.map V.ref))->(∀a,uJ ad a ps t.parts->uJ ad a b (iA l t.parts).1)->Q (.ref q) H'
def RI(G:bh K mg ad):bu P w K mg base 3 "counting_parts" ["layout","template"] (Vf ad):=by
 show G.NN.hsX yW λf d3 A d1 s H vs Q E hr h=>?_;show kB h λla sh ta p d l L t ps I=>e0_7 I λa4 hl B aA e0 c4 k=>?_;clear I;subst h a4;show sY B λdx pl J fv fs h1 h2 h3 h4 h5 h6 h7 h8 h9 O=>?_;clear B;have hu:=hr.units;show⟨_,(ak (stX 2 yW.nd (bt ag))
 (ak (stX 3 yW.nd (bt ag))
 (ak (fA rfl (fV K (ax K (pv 1))) (gnX 4 yW.nd)
 (aq (bL (cW (fz K hu) (ax K (pv 4)) dX QE)
  (aq (dR (gI K (pv 3) (rh tN (pqX (yw G) hr (ae (ax K (pv 0)) (ae (cz (cX K) (ax K (pv 4)) aD (λ_ _=>rfl)) ag))) gp QE))))
  (aq (bL (cW (fz K hu) (ax K (pv 4)) dX QE)
   (aq (dR (SY K (pv 3))))
   (aq (bL (ez (di (Ay K rfl) QE G.sL sP (ae (pv 3) ag)))
    (aq (dR (gI K (pv 2) (pv 4))))
    de)))))))
 (aq (aK (pv 2)))))),?_⟩
 lk;show⟨cT _,λq hq=>?_⟩;generalize e1:upd H q _=H1;have s1:=sN e1 hq;have b4:H1 q=some (.lst []):=vN e1;show⟨cT _,λc hc=>?_⟩;generalize e2:upd H1 c _=H2;have s2:=sN e2 hc;have b7:H2 c=some (.lst []):=vN e2;have c7:=s2 _ _ b4;have U:=s1.trans s2;have b0:=s1.free hc;have T:q≠c:=eu b4 hc;have b2:=Paired.length O;dsimp only[gT,iC];show dB (U _ _ h1) G.js.cl (G.gL _ QC) h6 ?_;show⟨pl,rfl,⟨_,aj.of (U _ _ h9)⟩,forL (xs:=ps.map V.ref) (λi σ N=>∃u D,σ= [some (.ref la),some (.ref ta),some (.ref q),some (.ref c),u]/\ah H N/\N q=some (.lst (D.map V.ref))/\(∀H0,uJ ad H0 ps t.parts->uJ ad H0 D (iA l (t.parts.take i)).1)/\N c=some (.lst ((iA l (t.parts.take i)).2.map V.bl))) ⟨none,[],rfl,U,c7,λ_ _=> .nil,b7⟩ (λi σ N _ c9=>bp c9 λ_ _ _ C _=>aj.of (C _ _ h9)) ?_ ?_⟩
 .intro i x σ N hx M;show ja M λu D g C n j m=>?_;subst M g;show ai (fW hx) λa a5 g=>?_;subst g;show ai (Paired.get' O a5) λW o c6=>?_;show qM (c6.mono C) λdy na pa gs t1 t2 t3 t4 t5 t6=>?_;have c5:=aA W (dD o);have d8:i<t.parts.length:=(dW.mp o).1;have b8:=AX l (t.parts.take i);rw[ff]at b8;rw[Nq o];have S:=c4 i W o;generalize iA l (t.parts.take i)=X at *;lk;show dB t1 G.ij.cl (G.fL _ QC) t2 ?_;lk;unfold eM;by_cases Y:W.kind="if"
  .show dw (QI Y) ?_;rw[QG Y];show ai t5 λas n1 n2=>?_;clear t5;obtain⟨n0,ns,hn⟩:∃n0 ns,W.names=n0::ns:=by
    cases h:W.names with
    |nil=>show absurd h (c5.one (.inr Y))
    |cons x y=>show⟨x,y,rfl⟩
   rw[hn]at n2;cases n2 with
   |@cons a0 _ d2 _ c8 e3=>
   have c0:=hl.mono C;show nk c0.ex λdz fa rl pg b5 g1 g2 g3=>?_;exists .inl ⟨rfl,_,aj.of m⟩;show aLayoutX G g1 ?_;show dB t1 G.ij.cl (G.fL _ QC) t3 ?_;show dk (v:= .ref a0) (aj.of n1) (fu rfl) ?_;show gD fa a0 b5 l n0 ⟨rfl,g2,g3,hl.ri,by have:=hl.len;lia,c8,λv H3 s3 J=>?_⟩;have e:(!decide (v=V.a9))=(fI l n0).isSome:=by
    cases ho:fI l n0 with
    |none=>rw[ho]at J;have J:v= .a9:=J;rw[J];rfl
    |some z=>rw[ho]at J;show ai J λb a3 _=>?_;subst J a3;rfl
   lk;show aJ c _ _ ⟨rfl,rfl,s3 _ _ m,?_,(C.trans s3).upd b0,D,?_,j,?_⟩
   .rw[ay,aQ];lia
   .rw[az T];show s3 _ _ n
   .rw[ar,e,hn,fk];rfl
  show dJ (QJ Y) ?_;rw[QH Y];show dB t1 G.ij.cl (G.fL _ QC) t2 ?_;lk;by_cases Z:W.kind="end"
  .show dw (QI Z) ?_;rw[QG Z];have R:=S Z;have hg:X.2[X.2.length-1]? =some (X.2.getLast R):=by rw[<-zU,List.getLast?_eq_some_getLast R]
   show⟨.inl ⟨rfl,_,aj.of m⟩,aJ c _ (V.bl (X.2.getLast R)) ⟨rfl,rfl,m,?_,C.upd b0,D,?_,j,?_⟩⟩
   .rw[ay,eP,hg];rfl
   .rw[az T];show n
   .rw[ar,List.map_dropLast]
  show dJ (QJ Z) ?_;rw[QH Z];lk;show aZ c X.2 ⟨rfl,aj.of m,?_⟩;lk;by_cases c3:X.2.all id=true
  .rw[QG c3];show⟨.inl ⟨rfl,_,aj.of n⟩,aJ q _ _ ⟨rfl,rfl,n,?_,C.upd hq,D++[a],?_,?_,?_⟩⟩
   .rw[ay,Paired.length (j H O),aQ];lia
   .rw[ar,hY]
   .rw[QG c3];intro H0 h0;show ai (Paired.get' h0 a5) λe4 F b3=>?_;rw[o]at F;cases F;show L2.Paired.snoc b3 (j H0 h0)
   .rw[az T.symm,QG c3];show m
  .rw[QH c3,QH c3];show⟨C,D,n,j,m⟩
 .intro σ N r;show ja r λu D g C n j m=>?_;subst r g;rw[ay,b2,gk]at j;lk;show k q N D hq C n j
def vj{l:bB}{ps:List eh}:∀x∈(iA l ps).1,x∈ps:=by
 suffices h:∀(ps:List eh)(b:List eh×List Bool),∀x∈(ps.foldl (eM l) b).1,x∈b.1\/x∈ps by
  intro x a;rcases h ps ([],[]) x a with h | h
  .cases h
  .show h
 intro ps;induction ps with
 |nil=>intro b x a;show .inl a
 |cons p ps c=>
  intro b x a;rw[gF]at a;rcases c _ x a with h | h
  .unfold eM at h;split at h
   .show .inl h
   .split at h
    .show .inl h
    .split at h
     .rcases eA.mp h with h | h
      .show .inl h
      .rw[iw.mp h];show .inr cZ
     .show .inl h
  .show .inr (du _ h)
def HA{α β:Type}{F:α->β->Prop}:∀{l a:List α}{m b:List β},Paired F l m->Paired F a b->Paired F (l++a) (m++b)
 |_,_,_,_,.nil,h=>h
 |_,_,_,_,.cons r t,h=> .cons r (HA t h)
def d7(l:bB)(p d:Nat)(t:eS):List (List Nat):=(iA l t.parts).1.flatMap (gj l p d t.width)
def u9(l:bB)(t:eS):List (Nat×Nat):=(iA l t.parts).1.flatMap (fY l)
structure EF(l:bB)(p d:Nat)(t:eS):Prop where
 parts:∀x∈t.parts,uI x
 d6:t.parts.length<=40
 pair:Es l t.parts
 w1:1<=t.width
 w2:t.width<=1000
 lines:∀x∈t.parts,(gj l p d t.width x).length<=100
 shows:∀x∈t.parts,(fY l x).length<=1000
def Vc(ad:Ad):Sp:=λe H Q _=>∃(a b c:ab)(p d:Nat)(l:bB)(L:List (Nat×Nat))(t:eS)(ps:List ab),e= [.ref a,.ref c]/\gE ad H a b p d l L/\p<=1000000000/\d<=100000/\jj ad H c t ps/\EF l p d t/\L.length<=6000000/\xn H b (L++u9 l t) (d7 l p d t) Q
def RF(G:bh K mg ad):bu P w K mg base 7 "body_lines" ["layout","template"] (Vc ad):=by
 show G.NH.hsX CT λf d3 A c9 s H vs Q E hr h=>?_;show kB h λla X ta p d l L t ps J=>e0_8 J λY W c4 c2 ht z hL k=>?_;clear J;subst h Y;have hu:=hr.units;show⟨_,(ak (stX 2 CT.nd (bt ag))
 (ak (fA rfl (fV K (pqX (RI G) hr (ae (pv 0) (ae (pv 1) ag)))) (gnX 3 CT.nd)
 (aq (dR (kC K (pv 2) (pqX (RU G) hr (ae (pv 0) (ae (pv 3) (ae (ax K (pv 1)) ag))))))))
 (aq (aK (pv 2))))),?_⟩
 lk;show⟨cT _,λq hq=>?_⟩;generalize e1:upd H q _=H1;have s1:=sN e1 hq;have a4:H1 q=some (.lst []):=vN e1;dsimp only[gT,iC,a7,aL,aR];lk;have c6:jj ad H1 ta t ps:=ht.but (fh s1) W.shown;show gy la X ta p d l L t ⟨ps,rfl,W.mono s1,c6,z.parts,by have:=z.d6;lia,z.pair,λcq H2 bs Z s2 F c1=>?_⟩;show sY ht λdx pl hv fv fs h1 h2 h3 h4 h5 h6 h7 h8 h9 b8=>?_;clear ht;have C:=c1 H b8;have b4:=s1.trans s2;have b0:cq≠q:=λr=>by rw[r,a4]at Z;cases Z
 have d8:=(AX l t.parts).1;have d1:=z.d6;unfold d7 u9 at k;have T:=vj (l:=l) (ps:=t.parts);generalize (iA l t.parts).1=v at *;show⟨cq,rfl,⟨_,aj.of F⟩,forL (xs:=bs.map V.ref) (λi σ o=>∃u O,σ= [some (.ref la),some (.ref ta),some (.ref q),u]/\aO X H o/\o X=some (.dK (eI (L++(v.take i).flatMap (fY l))))/\o cq=some (.lst (bs.map V.ref))/\o q=some (.lst (O.map V.ref))/\b9 (del o q) O ((v.take i).flatMap (gj l p d t.width))/\∀a∈O,H a=none) ⟨none,[],rfl,fh b4,?_,F,s2 _ _ a4,.nil,λ_ h=>nomatch h⟩ (λi σ o _ c8=>ja c8 λ_ _ _ _ _ r _=>aj.of r) ?_ ?_⟩
 .show H2 X=some (.dK (eI (L++[])));rw[ee];show b4 _ _ W.shown
 .intro i x σ o hx M;show sX M λu O g R j D m n U=>?_;subst M g;show ai (fW hx) λa c0 g=>?_;subst g;show ai (Paired.get' C c0) λpt B c5=>?_;have a3:=T pt (dD B);have e0:i<v.length:=(dW.mp B).1;have e4:((v.take i).flatMap (fY l)).length<=40*1000:=by have h:=kD (f:=fY l) (c:=1000) (v.take i) λy hy=>z.shows y (T y (oV hy));rw[ff]at h;have h2:min i v.length*1000<=40*1000:=kj _ QA;lia
  have e2:((v.take i).flatMap (gj l p d t.width)).length<=40*100:=by have h:=kD (f:=gj l p d t.width) (c:=100) (v.take i) λy hy=>z.lines y (T y (oV hy));rw[ff]at h;have h2:min i v.length*100<=40*100:=kj _ QA;lia
  have e3:=z.lines pt a3;have c3:gE ad o la X p d l (L++(v.take i).flatMap (fY l)):=W.but R j (by rw[aP];lia);lk;exists .inl ⟨rfl,_,aj.of m⟩;show dB (jU R W.shown h1) G.js.cl (G.gL _ QC) h2 ?_;show gy la X a p d t.width l _ ⟨pt,rfl,c3,c4,c2,c5.but R W.shown,z.parts pt a3,z.w1,z.w2,by rw[aP];lia,λq5 H5 b7 a5 b5 b3 c7 b2 a0=>?_⟩;have I:=eR b5 j m;have d2:q5≠q:=λr=>by rw[r,m]at a5;cases a5
  show eY q q5 _ _ ⟨rfl,rfl,I,c7,?_,?_⟩
  .rw[ay,ay,Paired.length n,Paired.length b2,aQ];lia
  .exists qH (gP R b5) hq,?_,?_,O++b7,?_,?_
   .rw[az (nV b3 I (λ_ r=>nomatch r)).symm,b3,take_snoc B,gc,eZ];simp
   .rw[az b0];show eR b5 j D
   .rw[ar,fk]
   .rw[fU,take_snoc B,gc];show HA (wj b5 j n) ?_;have h:=b9.del (p:=q) b2 λb S e=>by have:=a0 b S;rw[e,m]at this;cases this
    simpa using h
   .intro b S;rcases eA.mp S with S | S
    .show U b S
    .show pA R (nn j) (a0 b S)
 .intro σ o N;show sX N λu O g R j D m n U=>?_;subst N g;rw[ay,Paired.length C,gk]at j n;lk;show k q o O hq R j m (n.mono gB) U
def da(t:eS):Nat:=t.lines-((if t.head.isSome=true then 1 else 0)+(if t.foot.isSome=true then 1 else 0))
def vS{H:Hp}{o:Option (List (Str×List Nat))}{v:V}(h:mW ad H o v):(!decide (v=V.a9))=o.isSome:=by
 cases o with
 |none=>have h:v= .a9:=h;rw[h];rfl
 |some x=>show vy h λa _ _ _ b _=>?_;subst h b;rfl
def VL(ad:Ad):Sp:=λb H Q _=>∃(a:ab)(t:eS)(ps:List ab),b= [.ref a]/\jj ad H a t ps/\2<=t.lines/\Q (vn (da t)) H
def RT(G:bh K mg ad):bu P w K mg base 1 "page_room" ["template"] (VL ad):=by
 show G.OA.hsX y0 λf m A e s H L Q E C h=>?_;show iN h λJ t I c a r k=>?_;subst h c;show sY a λu F D x v d y o p j z q l B n=>?_;clear a;show⟨_,(ak (stX 1 y0.nd (ax K (pv 0)))
 (ak (bL (cW tN (ax K (pv 0)) gp QE)
 (aq (ro (i:=1) y0.nd rfl (Or.inl rfl) aD BA))
 de)
 (ak (bL (cW tN (ax K (pv 0)) gp QE)
 (aq (ro (i:=1) y0.nd rfl (Or.inl rfl) aD BA))
 de)
 (aq (aK (pv 1)))))),?_⟩
 k_in;show dB d G.js.cl (G.gL _ QC) o ?_;show dB d G.js.cl (G.gL _ QC) p ?_;lk;unfold da at k;rw[vS q];by_cases g:t.head.isSome=true
 .rw[QG g]at k ⊢;lk;show dB d G.js.cl (G.gL _ QC) j ?_;lk;rw[vS l];by_cases b:t.foot.isSome=true
  .rw[QG b]at k ⊢;lk;show qT k ?_;lia
  .rw[QH b]at k ⊢;lk;show qT k ?_;lia
 .rw[QH g]at k ⊢;show dB d G.js.cl (G.gL _ QC) j ?_;k_in;rw[vS l];by_cases b:t.foot.isSome=true
  .rw[QG b]at k ⊢;k_in;show qT k ?_;lia
  .rw[QH b]at k ⊢;k_in;show qT k ?_;lia
def ES{K:aw}{i:Nat}{f g:Str}{σ:L2.St}{H:Hp}{Q:VK}{a C m b j e:ab}{k d:List (Str×V)}{v:V}(h:H a=some (.ins C m k))(c:ke K C)(n:gZ K C f)(l:k.lookup f=some (.ref b))(h':H b=some (.ins j e d))(o:ke K j)(r:gZ K j g)(p:d.lookup g=some v)(q:Q v H)(hσ:σ[i]? =some (some (.ref a)):=by rfl):gb K (gb K (aB i) f) g σ H Q:=
 onS.mk hσ ⟨a,C,m,k,_,rfl,h,c,n,l,b,j,e,d,v,rfl,h',o,r,p,q⟩
end
section
variable {X:Cx}
def To:V->List V->Hp->VK->Prop:=λx b H Q=>∃l a y,x= .ref l/\b= [.int 0,y]/\H l=some (.lst a)/\a.length<dc/\Q .a9 (upd H l (.lst (y::a)))
def Rb:uE X "list.insert" To:=by
 intro j s σ H x G v E Q I A p h;show jE h λl J y c d i D q=>?_;subst h c;subst d;cases A;cases p with
 |@cons _ B _ g k m=>
 show ai ((show Vals [y] g from m).one) λu b o=>?_;subst b;obtain⟨t,rfl⟩:=(show ∃t,B=Value.int 0 t from k);show eg (I.nz i) λz a=>bp a λf n r C e=>?_;clear a;show sQ F.slot_list_insert ⟨_,e,rfl⟩ F.entry_list_insert (F.args_list_insert_3 _ _ _) (AutoSeq1.list_insert_list_int_val_1 l f.toArray n 0 t u QB (by rw[fg];lia)) ⟨e,?_⟩;show aZ .a9 _ ⟨I.tM (its':=u::f) i e QD (.cons o r) ?_,rfl,q⟩;rw[aG];lia
end
section
variable {P:aE}{w:aC}{K:aw}{mg:Str->Option af}{base:aH}{ad:Ad}
structure qf(o:Option (List (Str×List Nat))):Prop where
 ok:∀aF,o=some aF->(∀pc∈aF,oY pc)/\aF.length<=500
def gg(l:bB)(x:jk)(k:Nat)(o:Option (List (Str×List Nat))):List (List Nat):=o.toList.map λa=>(a.flatMap (d0 l x)).take k
def gC(l:bB)(o:Option (List (Str×List Nat))):List (Nat×Nat):=o.toList.flatMap λa=>a.flatMap (fM l)
def VJ(ad:Ad):Sp:=λk H Q _=>∃(c b g f h i j:ab)(p d n m:Nat)(l:bB)(L:List (Nat×Nat))(t:eS)(ps as:List ab)(a:List (List Nat)),k= [.ref c,.ref g,.ref f,vn n]/\gE ad H c b p d l L/\H c=some (.ins ad.iW h (pI p d i j b (vn m)))/\p<=1000000000/\d<=100000/\n<=1000000/\m<=1000000/\jj ad H g t ps/\qf t.head/\qf t.foot/\H f=some (.lst (as.map V.ref))/\b9 H as a/\a.length<=1000/\L.length<=7000000/\
 ∀(q:ab)(H':Hp)(e:List ab),H q=none->aO b H H'->H' b=some (.dK (eI (L++(gC l t.head++gC l t.foot))))->H' q=some (.lst (e.map V.ref))->
  b9 H' e (gg l {person:=p,day:=d,page:=cV n,pages:=cV m} t.width t.head++(a++gg l {person:=p,day:=d,page:=cV n,pages:=cV m} t.width t.foot))->Q (.ref q) H'
def RS(G:bh K mg ad):bu P w K mg base 6 "page_lines" ["layout","template","portion","page"] (VJ ad):=by
 show G.Oz.hsX yZ λf i0 A g9 s H vs Q E Z h=>?_;show kB h λla sh ta po dx fa rl p d z=>e8_1 z λn m l L t ps as U b0=>e0_14 b0 λb1 Y g0 d8 d1 j2 j1 ht hh hf g5 c3 g4 z=>eg z λhL k=>?_;clear b0;clear z;clear z;subst h b1;have hu:=Z.units;show⟨_,(ak (stX 4 yZ.nd (yK (Q1 K) QE G.LZ L9 (ae (pv 2) ag)))
 (ak (stX 5 yZ.nd (pqX (nD G) Z (ae (pv 3) ag)))
 (ak (stX 6 yZ.nd (pqX (nD G) Z (ae (ax K (pv 0)) ag)))
 (ak (bL (cW tN (ax K (pv 1)) gp QE)
 (aq (dR (nE kZ PySem.F.slot_list_insert PySem.F.type_list_insert Rb (pv 4) (ae aD (ae (jf (kK K) (pqX (BX G) Z (ae (pv 0) (ae (ax K (ax K (pv 1))) (ae (pv 5) (ae (pv 6) ag))))) lG (gR (ax K (pv 1)))) ag)))))
 de)
 (ak (bL (cW tN (ax K (pv 1)) gp QE)
 (aq (dR (gI K (pv 4) (jf (kK K) (pqX (BX G) Z (ae (pv 0) (ae (ax K (ax K (pv 1))) (ae (pv 5) (ae (pv 6) ag))))) lG (gR (ax K (pv 1)))))))
 de)
 (aq (aK (pv 4)))))))),?_⟩
 lk;show⟨_,.inl (aj.of g5),λq hq=>?_⟩;generalize e1:upd H q _=j;have s1:=sN e1 hq;have c0:j q=some (.lst (as.map V.ref)):=vN e1;show⟨n,rfl,QA,λq1 H2 a3 s2 g6=>?_⟩;have e8:=s1.trans s2;show aLayoutX G (e8 _ _ g0) ?_;show⟨m,rfl,QA,λq2 H3 a4 s3 c5=>?_⟩;have e:=e8.trans s3;have i3:=Rt.iB (n:=n) (k:=7) QB QA;have i2:=Rt.iB (n:=m) (k:=7) QB QA;have k2:jj ad H3 ta t ps:=ht.but (fh e) Y.shown;have e0:q1≠q:=λr=>by rw[r,c0]at a3;cases a3
 have e2:q2≠q:=λr=>by rw[r,s2 _ _ c0]at a4;cases a4
 have c9:∀a∈as,a≠q:=λa ha r=>by obtain⟨i,hi,f7⟩:=oU.mp ha;show ai (Paired.get' c3 (show as[i]? =some a by rw[dA hi,f7])) λns _ Z=>?_;have Z:H a=some (.lst (vr ns)):=Z;rw[r,hq]at Z;cases Z
 have e3:b9 (del H3 q) as U:=(b9.del c3 c9).mono e.del;have T:=s3 _ _ g6;have c1:=(s2.trans s3) _ _ c0;have S:=e _ _ Y.shown;show sY ht λdy pl hv fv fs h1 h2 h3 h4 h5 h6 h7 h8 h9 i1=>?_;clear ht;show dB (e _ _ h1) G.js.cl (G.gL _ QC) h4 ?_;rw[vS h7];have a0:∀o,qf o->(gC l o).length<=500:=λo ho=>by
  cases o with
  |none=>show cT _
  |some b=>
   have h:=kD (f:=fM l) (c:=1) b λt' _=>by
    unfold fM;split
    .cases fI l t'.2<;>simp
    .show cT _
   have h2:=(ho.ok b rfl).2;show(([b]:List _).flatMap λb=>b.flatMap (fM l)).length<=500;rw[D4];lia
 have f6:=a0 _ hh;have f5:=a0 _ hf;have k1:U.length<=1000:=g4
 have u:∀(g:Hp)(W:List ab),aO sh H g->g sh=some (.dK (eI (L++gC l t.head)))->g q=some (.lst (W.map V.ref))->b9 (del g q) W (gg l {person:=p,day:=d,page:=cV n,pages:=cV m} t.width t.head++U)->L2.Row g q1 (cV n)->L2.Row g q2 (cV m)->
     gb K (aB 1) "foot" [some (V.ref la),some (V.ref ta),some (V.ref po),some (vn n),some (V.ref q),some (V.ref q1),some (V.ref q2)] g λx j=>if(!decide (x=V.a9))=true then pY K "list" (V.ref q) j/\jK (jv K) (a7 (Di ad) [] E0 (aL (aB 0) (aL (gb K (gb K (aB 1) "foot") "pieces") (aL (aB 5) (aL (aB 6) aR))))) lJ (jJ (gb K (aB 1) "width")) [some (V.ref la),some (V.ref ta),some (V.ref po),some (vn n),some (V.ref q),some (V.ref q1),some (V.ref q2)] j λx j=>tT (V.ref q) [x] j λx j=>Q (V.ref q) j
    else Q (V.ref q) j:=by
  intro g W C y O c2 e5 e7;show dB (jU C Y.shown h1) G.js.cl (G.gL _ QC) h5 ?_;rw[vS h8];have c4:gC l t.head++gC l none=gC l t.head:=ee _;cases d2:t.foot with
  |none=>rw[d2]at k;rw[QH (show ¬ (none:Option (List (Str×List Nat))).isSome=true from dP)];show k q g W hq C (by rw[c4];show y) O ?_;show b9 g W (_++(U++[]));rw[ee];show c2.mono gB
  |some b=>
   rw[d2]at k h8 hf f5;rw[QG (show(some b).isSome=true from rfl)];show kA h8 λea e9 pa f3 N b3 b7 b8=>?_;subst h8 N;have f9:=Y.but C y (by rw[aP];lia);exists .inl ⟨rfl,_,aj.of O⟩;dsimp only[jK,a7,aL,aR,lJ,jJ,jv];lk;show ES (jU C Y.shown h1) G.js.cl (G.gL _ QC) h5 (jU C Y.shown b3) G.ij.cl (G.fL _ QC) b7 ?_;show gy la sh pa q1 q2 p d l (eY _ b _ _ ⟨rfl,f9,d8,d1,b8.but C Y.shown,(hf.ok b rfl).1,(hf.ok b rfl).2,e5,e7,QA,QA,by rw[aP];lia,λq5 H5 j3 b5 e4 g8=>?_⟩);have c8:=gP C b5;show dB (jU c8 Y.shown h1) G.js.cl (G.gL _ QC) h2 ?_;show⟨_,rfl,q5,rfl,_,aj.of g8,λJ B=>?_⟩;generalize e6:upd H5 J _=H6;have I:=sN e6 B;have c6:L2.Row H6 J ((b.flatMap (d0 l {person:=p,day:=d,page:=cV n,pages:=cV m})).take t.width):=by rw[<-e6];show upd _ _ _ _=_;rw[ar,sS,p7]
   have v:=I _ _ (eR b5 y O);have R:J≠q:=λr=>by rw[r,eR b5 y O]at B;cases B
   show aJ q _ _ ⟨rfl,rfl,v,?_,?_⟩
   .rw[ay,Paired.length c2,aP,aQ];have:(gg l {person:=p,day:=d,page:=cV n,pages:=cV m} t.width t.head).length<=1:=by unfold gg;rw[ay];cases t.head<;>simp
    lia
   .show k q _ (W++[J]) hq (qH (gP c8 (fh I)) hq) ?_ (by rw[ar,hY]) ?_
    .rw[az (nV (I _ _ e4) v (λ_ r=>nomatch r)).symm,I _ _ e4,eZ];congr 3;show _=L++(gC l t.head++([b].flatMap λb=>b.flatMap (fM l)));rw[D4]
    .have h:=L2.Paired.snoc (F:=λa (ns:List Nat)=>L2.Row (del H6 q) a ns) (show del H6 q J=_ by rw[eT R];show c6) ((wj b5 y c2).mono I.del);rw[eZ]at h;rw[<-fU (H:=H6) (D:=q) (o:= .lst (W.map V.ref++[V.ref J]))]at h;show(show b9 _ _ _ from h).mono gB
 cases d3:t.head with
 |none=>rw[QH (show ¬ (none:Option (List (Str×List Nat))).isSome=true from dP)];rw[d3]at u;show u H3 as (fh e) (by show H3 sh=some (.dK (eI (L++[])));rw[ee];show S) c1 e3 T c5
 |some b=>
  rw[QG (show(some b).isSome=true from rfl)];rw[d3]at u h7 hh f6;show kA h7 λea e9 pa f3 N b3 b7 b8=>?_;subst h7 N;exists .inl ⟨rfl,_,aj.of c1⟩;clear k;generalize hM:(λ(x:V) (j:Hp)=>gb K (aB 1) "foot" [some (V.ref la),some (V.ref ta),some (V.ref po),some (vn n),some (V.ref q),some (V.ref q1),some (V.ref q2)] j λx j=>if(!decide (x=V.a9))=true then pY K "list" (V.ref q) j/\jK (jv K) (a7 (Di ad) [] E0 (aL (aB 0) (aL (gb K (gb K (aB 1) "foot") "pieces") (aL (aB 5) (aL (aB 6) aR))))) lJ (jJ (gb K (aB 1) "width")) [some (V.ref la),some (V.ref ta),some (V.ref po),some (vn n),some (V.ref q),some (V.ref q1),some (V.ref q2)] j λx j=>tT (V.ref q) [x] j λx j=>Q (V.ref q) j else Q (V.ref q) j)=M;have b2:∀(g:Hp)(W:List ab),aO sh H g->g sh=some (.dK (eI (L++gC l (some b))))->g q=some (.lst (W.map V.ref))->b9 (del g q) W (gg l {person:=p,day:=d,page:=cV n,pages:=cV m} t.width (some b)++U)->L2.Row g q1 (cV n)->L2.Row g q2 (cV m)->M .a9 g:=by rw[<-hM];show u
  clear u hM;dsimp only[jK,a7,aL,aR,lJ,jJ,jv];lk;show ES (e _ _ h1) G.js.cl (G.gL _ QC) h4 (e _ _ b3) G.ij.cl (G.fL _ QC) b7 ?_;show gy la sh pa q1 q2 p d l (eY L b _ _ ⟨rfl,Y.mono e,d8,d1,b8.mono e,(hh.ok b rfl).1,(hh.ok b rfl).2,T,c5,QA,QA,QA,λq4 g O C y g7=>?_⟩);have c7:=gP (fh e) C;show dB (jU c7 Y.shown h1) G.js.cl (G.gL _ QC) h2 ?_;show⟨_,rfl,q4,rfl,_,aj.of g7,λJ B=>?_⟩;generalize e6:upd g J _=H6;have I:=sN e6 B;have c6:L2.Row H6 J ((b.flatMap (d0 l {person:=p,day:=d,page:=cV n,pages:=cV m})).take t.width):=by rw[<-e6];show upd _ _ _ _=_;rw[ar,sS,p7]
  have a5:=eR C S c1;have v:=I _ _ a5;have R:J≠q:=λr=>by rw[r,a5]at B;cases B
  show aJ q _ _ ⟨rfl,rfl,v,?_,?_⟩
  .rw[ay,Paired.length c3,aQ];lia
  .show b2 _ (J::as) (qH (gP c7 (fh I)) hq) ?_ (by rw[ar];rfl) ?_ ?_ ?_
   .rw[az (nV (I _ _ y) v (λ_ r=>nomatch r)).symm,I _ _ y];show _=some (HO.dK (eI (L++([b].flatMap λb=>b.flatMap (fM l)))));rw[D4]
   .rw[fU];show .cons (show del H6 q J=_ by rw[eT R];show c6) ((wj C S e3).mono I.del)
   .show upd _ _ _ _=_;rw[az e0];show I _ _ (eR C S T)
   .show upd _ _ _ _=_;rw[az e2];show I _ _ (eR C S c5)
def U2(C:ab):Sp:=λf H Q _=>∃(x c e:ab)(p d:Nat),f= [.ref x,vn p,vn d,.ref e]/\H x=some (.ins C c [])/\∀(H':Hp)(a b:ab),H' x=some (.ins C c (pI p d e a b (vn 0)))->H a=none->H b=none->H' a=some (.lst [])->H' b=some (.dK [])->aO x H H'->Q .a9 H'
def RA(G:bh K mg ad):kO P w K mg base 1 "Layout" ad.iW ["self","person","day","filed"] (U2 ad.iW):=by
 show G.vI.has Ub (λM H Q E h=>?_) (λf J A v s H M Q E N h=>?_)
 .show e5_1 h λx m F p d g=>eg g λb _=>?_;clear g;subst h b;rfl
 .show nk h λx m F p d b L k=>?_;subst h b;show⟨_,(ak (gu K (pv 0) (pv 1))
 (ak (gu K (pv 0) (pv 2))
 (ak (gu K (pv 0) (pv 3))
 (ak (gu K (pv 0) (bt ag))
 (ak (gu K (pv 0) aD)
 (aq (gu K (pv 0) vU))))))),?_⟩
  lk;have C:=G.vI.cl;show aJ _ m _ ⟨L,C,G.nZ _ QC,(by show 0<1000;decide),aJ _ _ _ ⟨ar,C,G.nZ _ QC,(by show 1<1000;decide),aJ _ _ _ ⟨ar,C,G.nZ _ QC,(by show 2<1000;decide),cT _,λl c=>?_⟩⟩⟩;have B:aO x H (upd (upd (upd H x (.ins ad.iW m (eE "person" (vn p) []))) x (.ins ad.iW m (eE "day" (vn d) (eE "person" (vn p) [])))) x (.ins ad.iW m (eE "filed" (.ref F) (eE "day" (vn d) (eE "person" (vn p) []))))):=aO.put (aO.put (aO.put (ah.refl _)));have e:x≠l:=λq=>by rw[<-q,ar]at c;cases c
  have n:H l=none:=by
   cases q:H l with
   |none=>rfl
   |some o=>rw[aO.at B q e.symm]at c;cases c
  show aJ _ _ _ ⟨by rw[az e,ar],C,G.nZ _ QC,(by show 3<1000;decide),aJ _ _ _ ⟨ar,C,G.nZ _ QC,(by show 4<1000;decide),λt a=>?_⟩⟩;generalize i:upd (upd (upd _ l (HO.lst [])) x _) x _=z at a ⊢;have D:aO x H z:=by rw[<-i];show aO.put (aO.put (aO.new B c))
  have I:z l=some (.lst []):=by rw[<-i,az e.symm,az e.symm,ar]
  have y:=congrFun i x;rw[ar]at y;have j:x≠t:=λq=>by rw[<-q,<-y]at a;cases a
  have u:l≠t:=λq=>by rw[<-q,I]at a;cases a
  have r:H t=none:=by
   cases q:H t with
   |none=>rfl
   |some o=>rw[aO.at D q j.symm]at a;cases a
  show aJ _ _ _ ⟨by rw[az j];show y.symm,C,G.nZ _ QC,(by show 5<1000;decide),k _ l t (by rw[ar];rfl) n r ?_ ?_ (aO.put (aO.new D a))⟩
  .rw[az e.symm,az u];show I
  .rw[az j.symm,ar]
def mW.mono{H H':Hp}{o:Option (List (Str×List Nat))}{v:V}(s:ah H H')(q:mW ad H o v):mW ad H' o v:=by
 cases o with
 |none=>show q
 |some h=>obtain⟨a,b,d,c,e,f,g,r⟩:=q;show⟨a,b,d,c,e,s _ _ f,g,r.mono s⟩
def jj.mono{H H':Hp}{a:ab}{t:eS}{ps:List ab}(s:ah H H'):jj ad H a t ps->jj ad H' a t ps:=λc=>sY c λd r p f e g h i j k l m n o b=>⟨d,r,p,f,e,s _ _ g,h,i,j,k,l,m.mono s,n.mono s,s _ _ o,Paired.dS b λ_ _ q=>q.mono s⟩
def vT(l:bB)(p d:Nat)(t:eS)(a:List (List Nat))(n i:Nat):List Nat:=
 (((gg l {person:=p,day:=d,page:=cV (i+1),pages:=cV n} t.width t.head++(((a.drop (i*da t)).take (da t))++gg l {person:=p,day:=d,page:=cV (i+1),pages:=cV n} t.width t.foot)).map kx).flatMap λw=>w++[10])++[12,10]
def dG(l:bB)(p d:Nat)(t:eS):Nat:=Rt.mD (d7 l p d t).length (da t)
def je(l:bB)(p d:Nat)(t:eS)(i:Nat):List Nat:=(gG i).flatMap (vT l p d t (d7 l p d t) (dG l p d t))
def ip(l:bB)(t:eS)(i:Nat):List (Nat×Nat):=u9 l t++(gG i).flatMap λ_=>gC l t.head++gC l t.foot
def yG(l:bB)(p d:Nat)(t:eS)(i:Nat):je l p d t (i+1)=je l p d t i++vT l p d t (d7 l p d t) (dG l p d t) i:=by unfold je;rw[xa,gc];simp
def Sv(l:bB)(t:eS)(i:Nat):ip l t (i+1)=ip l t i++(gC l t.head++gC l t.foot):=by unfold ip;rw[xa,gc,eZ];simp
def Su(l:bB)(p d:Nat)(t:eS){i j:Nat}(h:i<=j):(je l p d t i).length<=(je l p d t j).length:=by
 induction h with
 |refl=>show bo _
 |step _ a=>rw[yG,aP];lia
structure zL(l:bB)(p d:Nat)(t:eS):Prop where
 wH:EF l p d t
 head:qf t.head
 foot:qf t.foot
 lines:2<=t.lines
 room:1<=da t
 T4:da t<=1000
 good:∀z∈l,jx z
 ri:sx l
 len:l.length<64
 rows:∀r∈d7 l p d t,r.length<=1000
 count:(d7 l p d t).length<=10000
 total:(je l p d t (dG l p d t)).length<=1000000
 shows:(ip l t (dG l p d t)).length<=6000000
def Kr(ad:Ad):Sp:=λi H Q _=>∃(f e:ab)(p d:Nat)(xs:List dg)(t:eS)(ps as:List ab),i= [.ref f,.ref e,vn p,vn d]/\jj ad H f t ps/\H e=some (.lst (as.map V.ref))/\iu ad H as (allOf xs)/\xs.length<=1000/\p<=1000000000/\d<=100000/\zL (dH xs p d) p d t/\
 ∀(a g h b c:ab)(H':Hp),H a=none->ah H H'->H' a=some (.ins ad.iW g (pI p d h b c (vn (dG (dH xs p d) p d t))))->H b=none->H c=none->L2.Row H' b (je (dH xs p d) p d t (dG (dH xs p d) p d t))->H' c=some (.dK (eI (ip (dH xs p d) t (dG (dH xs p d) p d t))))->Q (.ref a) H'
def Hm(G:bh K mg ad):bu P w K mg base 8 "lay_out" ["template","answers","person","day"] (Kr ad):=by
 show G.Oh.hsX pU λf m3 A l6 s H vs Q E hr h=>?_;show e8_1 h λta aa p d xs t ps as b5=>e0_9 b5 λd8 ht h7 c6 l3 e7 e4 z k=>?_;clear b5;subst h d8;have hu:=hr.units;show⟨_,(ak (stX 4 pU.nd (kJ (RA G) (hr.mono QB) (ae (pv 2) (ae (pv 3) (ae (pqX (Hg G) hr (ae (pv 1) (ae (pv 2) (ae (pv 3) ag)))) ag)))))
 (ak (stX 5 pU.nd (pqX (RF G) hr (ae (pv 4) (ae (pv 0) ag))))
 (ak (stX 6 pU.nd (pqX (RT G) hr (ae (pv 0) ag)))
 (ak (gu K (pv 4) (di (Fo rfl) QE G.EV E5 (ae aD (ae (cU Sj (cU lF (cU ik (di (eK K) QE G.dN dO (ae (pv 5) ag)) (pv 6)) aD) (pv 6)) ag))))
 (ak (fA rfl (Cf rfl G.uZ (ae (ax K (pv 4)) ag)) (gnX 7 pU.nd)
 (ak (stX 8 pU.nd (pqX (RS G) hr (ae (pv 4) (ae (pv 0) (ae (jf (kK K) (pv 5) (gR (cU yD (pv 7) (pv 6))) (gR (cU yD (cU ik (pv 7) aD) (pv 6)))) (ae (cU ik (pv 7) aD) ag))))))
 (ak (dR (kC K (ax K (pv 4)) (pqX (BW G) hr (ae (pl (own:= [("line",9)]) rfl pU.nd (fV K (pv 8)) (jT (by kernel_rfl)) (λ_ _ _ _ _=>(gnX 9 pU.nd)) (λ_ _ _ _ _=>oy) (λ_ _ _ _ _=>(pqX (Sd G) hr (ae (pv 9) ag)))) ag))))
 (aq (dR (kC K (ax K (pv 4)) (bt (ae (gi G.ME) (ae (gi G.AN) ag)))))))))
 (aq (aK (pv 4)))))))),?_⟩
 generalize i3:dH xs p d=l at *;dsimp only[bg,bf,iU,a7,aL,aR,aY];k_in;show gD aa as xs p d ⟨rfl,h7,c6,l3,λfa H1 e0 m8 s1 b1 c5=>?_⟩;rw[i3]at c5;intro v N a5 i2 n0;generalize e2:upd (upd H1 N (.own v)) v (.ins ad.iW N [])=H2;have s2:ah H1 H2:=by rw[<-e2];show((ah.refl H1).upd i2).upd a5
 have l4:H2 v=some (.ins ad.iW N []):=vN e2;show gD v N fa p d ⟨rfl,l4,λH3 j I m k5 l0 u B b3=>⟨rfl,?_⟩⟩;have s3:ah H1 H3:=b3.same s2 a5;have U:=s2.free k5;have X:=s2.free l0;have a4:gE ad H3 v I p d l []:=⟨⟨N,fa,j,vn 0,e0,m,s3 _ _ b1,iu.mono s3 c5⟩,B,cT _,z.good,z.ri,z.len⟩;have g0:jj ad H3 ta t ps:=ht.mono (s1.trans s3);show gy v I ta p d l [] t ⟨ps,rfl,a4,e7,e4,g0,z.wH,cT _,λbq H4 g a0 b4 k7 b0 f6 h9=>?_⟩;show aJ ta t ps ⟨rfl,g0.but b4 a4.shown,z.lines,?_⟩;have l5:=jU b4 a4.shown m;have k6:=z.room;have F:=z.T4;show⟨_,.inl ⟨_,aj.of b0,rfl⟩,⟨QA,QA⟩,aZ _ _ ⟨rfl,aJ _ _ _ ⟨l5,G.vI.cl,G.nZ _ QC,(by show 6<1000;decide),?_⟩⟩⟩;generalize e5:upd H4 v _=H5;have i1:=Paired.length f6;have hN:(if(((g.map V.ref).length:Int)+(da t:Int)-1) / (da t:Int)>1 then(((g.map V.ref).length:Int)+(da t:Int)-1) / (da t:Int)else 1)=(dG l p d t:Int):=by
  unfold dG Rt.mD Rt.turns;rw[ay,i1];generalize (d7 l p d t).length=b;generalize da t=r at *;rw[show(b:Int)+(r:Int)-1=((b+r-1:Nat):Int)by lia,<-Int.natCast_ediv];generalize (b+r-1) / r=c;split
  .lia
  .lia
 have g5:H5 v=some (.ins ad.iW N (pI p d fa j I (vn (dG l p d t)))):=by rw[<-e5,ar,hN];rfl
 have m4:dG l p d t<=10001:=by have h1:=Rt.DH (k:=da t) QA (d7 l p d t).length;have h2:=z.count;unfold dG Rt.mD;lia
 have s4:ah H1 H4:=λb o e=>b4.at (s3 b o e) (eu e X);have s5:ah H1 H5:=by rw[<-e5];show s4.upd a5
 have W:j≠v:=λr=>by rw[r,m]at u;cases u
 have c9:I≠v:=λr=>by rw[r,m]at B;cases B
 have Y:I≠j:=λr=>by rw[r,u]at B;cases B
 have c4:bq≠v:=λr=>by rw[r,m]at a0;cases a0
 have S:bq≠j:=λr=>by rw[r,u]at a0;cases a0
 have f7:L2.Row H5 j []:=by rw[<-e5];show upd _ _ _ _=_;rw[az W];show eR b4 a4.shown u
 have f9:H5 I=some (.dK (eI (ip l t 0))):=by rw[<-e5,az c9,k7];unfold ip;simp
 have e3:H5 bq=some (.lst (g.map V.ref)):=by rw[<-e5,az c4];show b0
 have R:∀a∈g,a≠v/\a≠j:=λa ha=>by
  have h:=h9 a ha;constructor
  .intro r;rw[r,m]at h;cases h
  .intro r;rw[r,u]at h;cases h
 have k1:b9 (del H5 j) g (d7 l p d t):=by rw[<-e5];have h:=b9.del (p:=v) f6 λa ha=>(R a ha).1;rw[<-fU (o:= .ins ad.iW N (eE "pages" (V.int (if(((g.map V.ref).length:Int)+(da t:Int)-1) / (da t:Int)>1 then(((g.map V.ref).length:Int)+(da t:Int)-1) / (da t:Int)else 1)) (pI p d fa j I (vn 0))))]at h;show b9.del (h.mono gB) λa ha=>(R a ha).2
 dsimp only[gT,yd,aL,aR];show aLayoutX G g5 ?_;show⟨_,rfl,QA,QA,forR (n:=dG l p d t) (λi σ Z=>∃u7 u8,σ= [some (.ref ta),some (.ref aa),some (vn p),some (vn d),some (.ref v),some (.ref bq),some (vn (da t)),u7,u8,none]/\ah H1 Z/\Z v=some (.ins ad.iW N (pI p d fa j I (vn (dG l p d t))))/\L2.Row Z j (je l p d t i)/\Z I=some (.dK (eI (ip l t i)))/\Z bq=some (.lst (g.map V.ref))/\b9 (del Z j) g (d7 l p d t)) ⟨none,none,rfl,s5,g5,f7,f9,e3,k1⟩ ?_ ?_⟩
 .intro i σ Z hi b8;show sX b8 λu7 u8 y t1 t2 t3 t4 t5 t6=>?_;subst b8 y;k_in;simp only[DZ];dsimp only[jK,jJ,jv];lk;have m9:i*da t<=10001*1000:=El QA F;have m2:(i+1)*da t<=10001*1000:=El QA F;have h5:rP (i:Int) (da t:Int):= .inr ⟨QA,QA⟩;have h6:rP ((i:Int)+1) (da t:Int):= .inr ⟨QA,QA⟩;show⟨h5,h6,_,aj.of t5,λpo j2=>?_⟩;generalize e6:upd Z po _=H6;have O:=sN e6 j2;have e9:H6 po=some (.lst (((g.drop (i*da t)).take (da t)).map V.ref)):=by rw[<-e6,ar,show(i:Int)*(da t:Int)=((i*da t:Nat):Int)by simp,show((i:Int)+1)*(da t:Int)=(((i+1)*da t:Nat):Int)by simp,vm,show(i+1)*da t-i*da t=da t by rw[kX];lia,<-zW,<-zX]
  have h8:b9 H6 ((g.drop (i*da t)).take (da t)) (((d7 l p d t).drop (i*da t)).take (da t)):=Paired.take _ (Paired.drop _ ((t6.mono gB).mono O));have n4:(ip l t i).length<=6000000:=by show dE ?_ z.shows;unfold ip;rw[aP,aP];show Nat.add_le_add_left ?_ _;rw[show dG l p d t=i+(dG l p d t-i)by lia,List.range_add,gc,aP];lia
  have T:gE ad H6 v I p d l (ip l t i):=⟨⟨N,fa,j,_,e0,O _ _ t2,(t1.trans O) _ _ b1,iu.mono (t1.trans O) c5⟩,O _ _ t4,QA,z.good,z.ri,z.len⟩;have j1:(((d7 l p d t).drop (i*da t)).take (da t)).length<=1000:=by rw[ff];lia
  show gy v I ta po N fa j p (gy d (i+1) (dG l p d t) l _ t ps _ ⟨_,rfl,T,O _ _ t2,e7,e4,QA,QA,(ht.mono s1).mono (t1.trans O),z.head,z.foot,e9,h8,j1,QA,λq7 H7 cs n1 b7 k8 b2 k2=>?_⟩);have g6:=jU b7 T.shown (O _ _ t2);have g7:L2.Row H7 j (je l p d t i):=eR b7 T.shown (O _ _ t3);show aLayoutX G g6 ?_;have e8:vT l p d t (d7 l p d t) (dG l p d t) i=(((gg l {person:=p,day:=d,page:=cV (i+1),pages:=cV (dG l p d t)} t.width t.head++((((d7 l p d t).drop (i*da t)).take (da t))++gg l {person:=p,day:=d,page:=cV (i+1),pages:=cV (dG l p d t)} t.width t.foot)).map kx).flatMap λw=>w++[10])++[12,10]:=rfl;have m5:=Su l p d t (show i+1<=dG l p d t by lia);have m6:=z.total;have e1:=congrArg uC (yG l p d t i);rw[aP]at e1;have hw:=z.wH.w2;have c8:∀ns∈gg l {person:=p,day:=d,page:=cV (i+1),pages:=cV (dG l p d t)} t.width t.head++((((d7 l p d t).drop (i*da t)).take (da t))++gg l {person:=p,day:=d,page:=cV (i+1),pages:=cV (dG l p d t)} t.width t.foot),ns.length<=1000:=by
   have hh:∀(o:Option (List (Str×List Nat)))(x:jk),∀ns∈gg l x t.width o,ns.length<=1000:=λo x ns c7=>by show ai (dM.mp c7) λaF _ y=>?_;subst y;rw[ff];lia
   intro ns c7;rcases eA.mp c7 with h | h
   .show hh _ _ _ h
   .rcases eA.mp h with h | h
    .show z.rows ns (Ec (oV h))
    .show hh _ _ _ h
  have a3:(gg l {person:=p,day:=d,page:=cV (i+1),pages:=cV (dG l p d t)} t.width t.head++((((d7 l p d t).drop (i*da t)).take (da t))++gg l {person:=p,day:=d,page:=cV (i+1),pages:=cV (dG l p d t)} t.width t.foot)).length<=1000000:=by
   have hh:∀(o:Option (List (Str×List Nat)))(x:jk),(gg l x t.width o).length<=1:=λo x=>by unfold gg;rw[ay];cases o<;>simp
   rw[aP,aP];have h1:=hh t.head {person:=p,day:=d,page:=cV (i+1),pages:=cV (dG l p d t)};have h2:=hh t.foot {person:=p,day:=d,page:=cV (i+1),pages:=cV (dG l p d t)};lia
  generalize gg l {person:=p,day:=d,page:=cV (i+1),pages:=cV (dG l p d t)} t.width t.head++((((d7 l p d t).drop (i*da t)).take (da t))++gg l {person:=p,day:=d,page:=cV (i+1),pages:=cV (dG l p d t)} t.width t.foot)=c3 at *;rw[e8,aP]at e1;have hE:((c3.map kx).flatMap λw=>w++[10]).length<=1000000:=QA;have i0:(je l p d t i).length<=1000000:=QA;show⟨.inl ⟨rfl,_,aj.of g7⟩,q7,rfl,⟨_,aj.of b2⟩,GQ kx b2 k2 a3 (λc ns Hc C hm sc hc hk=>?_) λq8 H8 h4 n2 s8 f5 k3 m7=>?_⟩
  .unfold gM;lk;show aZ c ns ⟨rfl,hc,by have:=c8 ns hm;lia,λq H4 hq s j3=>hk q H4 hq s j3⟩
  show aZ q8 _ ⟨rfl,⟨h4,f5,k3⟩,hE,λq9 H9 n3 s9 l2=>?_⟩;have M:=s8.trans s9;show eY j q9 _ _ ⟨rfl,rfl,M _ _ g7,l2,?_,?_⟩
  .rw[dh,dh,aQ];show dE (sf i0 hE) QB
  generalize J:upd H9 j _=D;have c1:D v=some (.ins ad.iW N (pI p d fa j I (vn (dG l p d t)))):=by rw[<-J,az W.symm];show M _ _ g6
  have c2:L2.Row D j (je l p d t i++(c3.map kx).flatMap λw=>w++[10]):=by rw[<-J];show upd _ _ _ _=_;rw[ar,iG]
  show aLayoutX G c1 ?_;show⟨.inl ⟨rfl,_,aj.of c2⟩,by rw[aQ];decide,λd1 f3=>?_⟩;generalize d3:upd D d1 _=g9;have L:=sN d3 f3;have g4:L2.Row g9 d1 [12,10]:=vN d3;show eY j d1 _ _ ⟨rfl,rfl,L _ _ c2,g4,?_,?_⟩
  .rw[dh,dh,aQ,aP];have:([12,10]:List Nat).length=2:=rfl;lia
  have S7:ah H1 H7:=λb o e=>b7.at ((t1.trans O) b o e) (eu e X);have h3:ah H1 D:=by rw[<-J];show(S7.trans M).upd U
  have g8:D I=some (.dK (eI (ip l t (i+1)))):=by rw[<-J,az Y,M _ _ k8,Sv]
  have d2:D bq=some (.lst (g.map V.ref)):=by rw[<-J,az S];show M _ _ (eR b7 T.shown (O _ _ t5))
  have m1:b9 (del D j) g (d7 l p d t):=by rw[<-J,fU];show(wj b7 T.shown (t6.mono O.del)).mono M.del
  show aZ _ _ ⟨⟨rfl,rfl⟩,(h3.trans L).upd U,?_,?_,?_,?_,?_⟩
  .rw[az W.symm];show L _ _ c1
  .show upd _ _ _ _=_;rw[ar,iG,yG,e8,eZ]
  .rw[az Y];show L _ _ g8
  .rw[az S];show L _ _ d2
  .rw[fU];show m1.mono L.del
 .intro σ Z c0;show sX c0 λu7 u8 y t1 t2 t3 t4 t5 t6=>?_;subst c0 y;k_in;show k v N fa j I Z (s1.free a5) (s1.trans t1) t2 (s1.free U) (s1.free X) t3 t4
def Vj:Sp:=λa H Q _=>∃(n:Nat)(k:Str),a= [vn n,.str k]/\(k="end"->1<=n)/\Q (vn (if k="if"then n+1 else if k="end"then n-1 else n)) H
def RM(G:bh K mg ad):bu P w K mg base 1 "depth_behind" ["depth","kind"] Vj:=by
 show G.NR.hsX Uj λf i A d s H m Q E l h=>?_;show bp h λn g b j k=>?_;subst h b;have e:=l.units;show⟨_,(ak (bL (cW (fz K e) (pv 1) dX QE)
 (aq (aK (cU gh (pv 0) aD)))
 de)
 (ak (bL (cW (fz K e) (pv 1) dX QE)
 (aq (aK (cU lF (pv 0) aD)))
 de)
 (aq (aK (pv 0))))),?_⟩
 lk;by_cases c:g="if"
 .rw[QG c]at k;show dw (QI c) ?_;show qT k QA
 .rw[QH c]at k;show dJ (QJ c) ?_;by_cases a:g="end"
  .rw[QG a]at k;show dw (QI a) ?_;show qT k (by have:=j a;lia)
  .rw[QH a]at k;show dJ (QJ a) ?_;show k
def VE:Sp:=λc H Q _=>∃(a:ab)(ns:List Nat),c= [.ref a]/\L2.Row H a ns/\∀b,ah H b->Q (.bl (!(decide (ns= [])||decide (ns.head? =some 35)))) b
def RR(G:bh K mg ad):bu P w K mg base 1 "means_something" ["line"] VE:=by
 show G.Ot.hsX Uu λf l A c s H r Q E p h=>?_;show bp h λa ns b g k=>?_;subst h b;have i:=p.units;exists _,(aq (aK (yJ (rh (pM K i) (pv 0) (bt ag) QE) (tP (rh (pM K i) (cz (cX K) (pv 0) aD (λ_ _=>rfl)) (gi G.MD) QE)))));lk;show⟨cT _,λq o=>?_⟩;have d:ah H (upd H q (.lst [])):=ah.new o;have j:=k _ d;show Rg (ns:=ns) (ms:= []) (d _ _ g) ar ?_;cases ns with
 |nil=>show j
 |cons n ns=>
  show dk (v:=vn n) (aj.of (d _ _ g)) (fu rfl) ?_;lk;show iL j ?_;by_cases e:n=35
  .subst e;rfl
  .have m:¬ (n:Int)=35:=QA;simp[e,m]
def bare:List Str:= ["person","day","page","pages"]
def jg(w:List Nat):Option (Str×List Nat):=if fP w bare≠""then some (fP w bare,[])else if w.take 6=au "value "/\eQ (w.drop 6)=true then some ("value",w.drop 6)else none
def Lo(H H':Hp)(o:Option (Str×List Nat))(v:V):Prop:=match o with
 |none=>v= .a9
 |some b=>∃a r,v= .ref a/\H a=none/\H r=none/\H' a=some (.tup [.str b.1,.ref r])/\L2.Row H' r b.2
def VR:Sp:=λc H Q _=>∃(a:ab)(ns:List Nat),c= [.ref a]/\L2.Row H a ns/\ns.length<=1000/\∀v b,ah H b->Lo H b (jg ns) v->Q v b
def RY(G:bh K mg ad):bu P w K mg base 3 "read_hole" ["inside"] VR:=by
 show G.OI.hsX y8 λf X A I s H vs Q E t h=>?_;show fO h λa j m z hz k=>?_;subst h m;have S:=t.units;show ai G.Mg λtb D B=>?_;show⟨_,(ak (stX 1 y8.nd (pqX (Hl G) t (ae (pv 0) (ae (gr D) ag))))
 (ak (bL (cW (pM K S) (pv 1) dX QE)
 (aq (aK (pS (ae (pv 1) (ae (bt ag) ag)))))
 de)
 (ak (stX 2 y8.nd (pqX (jd G) t (ae dX ag)))
 (ak (stX 3 y8.nd (jf (kK K) (pv 0) (gR (di (eK K) QE G.dN dO (ae (pv 2) ag))) lG))
 (ak (bL (PW.pt (gS (cW (fz K S) (jf (kK K) (pv 0) lG (gR (di (eK K) QE G.dN dO (ae (pv 2) ag)))) (pv 2) QE) (ju (ez (pqX (yy G) t (ae (pv 3) ag))))))
 (aq (aK (pS (ae dX (ae (pv 3) ag)))))
 de)
 (aq (aK gp))))))),?_⟩
 lk;show eY a tb j bare ⟨rfl,z,B.sq H,QC,λM u=>?_⟩;unfold jg at k;lk;by_cases p:fP j bare=""
 .rw[QH (not_not_intro p)]at k;rw[QH (by rw[QI p];show dP)];show⟨_,rfl,QC,λJ V e v c=>?_⟩;have Y:("value ":Str).cps.toList=au "value ":=QC;have T:(au "value ").length=6:=QC;rw[Y]at c;have i:=u.trans v;dsimp only[jK,jJ,lJ,jv];lk;show⟨_,.inl ⟨_,aj.of c,rfl⟩,_,aj.of (i _ _ z),λl b=>?_⟩;generalize O:upd V l _=N;have L:=sN O b;have n:L2.Row N l (j.drop 6):=by rw[<-O];show upd _ _ _ _=_;rw[ar,dh,T,vk,um]
  have o:=i.trans L;show⟨_,.inl ⟨_,aj.of (L _ _ c),rfl⟩,_,aj.of (o _ _ z),λU C=>?_⟩;generalize R:upd N U _=W;have x:=sN R C;have F:L2.Row W U (j.take 6):=by rw[<-R];show upd _ _ _ _=_;rw[ar,dh,T,sS,p7]
  have d:=o.trans x;show sZ F ((L.trans x) _ _ c) ?_;lk;by_cases q:j.take 6=au "value "
  .show dw (QI q) ?_;show aZ l _ ⟨rfl,x _ _ n,by rw[iI,aQ];lia,λH5 y=>?_⟩;lk;by_cases r:eQ (j.drop 6)=true
   .rw[QG ⟨q,r⟩]at k;rw[QG r];show⟨by rw[aQ];decide,λZ g=>k _ _ ((d.trans y).trans (ah.new g)) ⟨Z,l,rfl,(d.trans y).free g,i.free b,ar,?_⟩⟩;show(ah.new g) _ _ (y _ _ (x _ _ n))
   .rw[QH (λh=>r h.2)]at k;rw[QH r];show k _ _ (d.trans y) rfl
  .rw[QH (λh=>q h.1)]at k;show dJ (QJ q) ?_;show k _ _ d rfl
 .rw[QG p]at k;rw[QG (by rw[QJ p];rfl)];show⟨cT _,λJ e=>⟨by rw[aQ];decide,λl b=>?_⟩⟩;have v:ah M (upd M J (.lst [])):=ah.new e;show k _ _ ((u.trans v).trans (ah.new b)) ⟨l,J,rfl,(u.trans v).free b,u.free e,ar,?_⟩;show(ah.new b) _ _ ar
def uv:∀{ps:List (List Nat)}{s:List Nat},s∈ps->s.length+1<=Rt.wsum ps
 |p::ps,s,h=>by
  rw[Rt.jO];rcases bG.mp h with rfl | h
  .lia
  .have:=uv h;lia
def rM:∀a:List (List Nat),a.length<=Rt.wsum a
 |[]=>cT _
 |p::a=>by rw[Rt.jO,aG];have:=rM a;lia
def zg{b:Nat}{l s:List Nat}(h:s∈Rt.bc b l):s.length<=l.length:=by have a:=uv h;rw[Rt.pW]at a;lia
def Dk(b:Nat)(l:List Nat):(Rt.bc b l).length<=l.length+1:=by have a:=rM (Rt.bc b l);rw[Rt.pW]at a;show a
def Ge(ns:List Nat):(vr ns).all n8=true:=by rw[qj];intro x a;obtain⟨n,_,rfl⟩:=dM.mp a;rfl
def GA(c:Nat)(ns:List Nat):ig (vn c) (vr ns)=decide (c∈ns):=by
 induction ns with
 |nil=>rfl
 |cons n ns a=>
  have e:lB (vn n) (vn c)=decide (c=n):=by show((n:Int)==(c:Int))=_;rw[kN];simp;lia
  show(lB (vn n) (vn c)||ig (vn c) (vr ns))=_;rw[e,a,kN];simp
def nw(S:List ab)(H H':Hp):Hp:=λb=>if H b=none\/b∈S then H' b else none
def d9{S:List ab}{H H':Hp}{b:ab}(h:H b=none):nw S H H' b=H' b:=QG (.inl h)
def om{S:List ab}{H H':Hp}{b:ab}(h:b∈S):nw S H H' b=H' b:=QG (.inr h)
def my{S:List ab}{H H':Hp}{b:ab}{o:HO}(h:nw S H H' b=some o):H' b=some o/\(H b=none\/b∈S):=by
 unfold nw at h;split at h
 .show⟨h,QF⟩
 .cases h
def jt{S:List ab}{H H':Hp}:ah (nw S H H') H':=λb o e=>(my e).1
def oo{S g:List ab}{H d f:Hp}(s:ah d f)(i:∀a∈S,a∈g):ah (nw S H d) (nw g H f):=λb o e=>by
 obtain⟨h,c⟩:=my e;rcases c with c | c
 .rw[d9 c];show s _ _ h
 .rw[om (i b c)];show s _ _ h
def yr{S:List ab}{H c d:Hp}(s:ah H c):ah (nw S c d) (nw S H d):=λb o e=>by
 obtain⟨f,a⟩:=my e;rcases a with a | a
 .rw[d9 (s.free a)];show f
 .rw[om a];show f
def j6(s:List Nat):Option (List (Str×List Nat)):=if(Rt.bc 125 s).length≠2 then none else match jg ((Rt.bc 125 s).headD [])with
 |none=>none
 |some h=>some [h,("plain",(Rt.bc 125 s).getD 1 [])]
def fG:List (List Nat)->Option (List (Str×List Nat))
 |[]=>some []
 |s::r=>match j6 s with
  |none=>none
  |some l=>(fG r).map λm=>l++m
def ir(ns:List Nat):Option (List (Str×List Nat)):=if 200<ns.length\/ns.all me=false then none else match Rt.bc 123 ns with
 |[]=>none
 |s0::r=>if 125∈s0 then none else(fG r).map λm=>("plain",s0)::m
def V4:Sp:=λc H Q _=>∃(a:ab)(ns:List Nat),c= [.ref a]/\L2.Row H a ns/\ns.length<=1000000/\∀v b,ah H b->Ep (nw [] H b) (ir ns) v->Q v b
def Sa(G:bh K mg ad):bu P w K mg base 4 "text_pieces" ["text"] V4:=by
 show G.O4.hsX t9 λf i1 A i0 s H vs Q E hr h=>?_;show fO h λa X t ha hz k=>?_;subst h t;have hu:=hr.units;show⟨_,(ak (bL (PW.pt (rA (cW vR (di (eK K) QE G.dN dO (ae (pv 0) ag)) (gi G.Ms) QE) (tS (fZ (ez (pqX (Hk G) hr (ae (pv 0) ag)))))))
 (aq (aK gp))
 de)
 (ak (stX 1 t9.nd (pqX (vQ G) hr (ae (pv 0) (ae (gi G.Fg) ag))))
 (ak (bL (cW (tm K) (gi G.AL) (cz (cX K) (pv 1) aD (λ_ _=>rfl)) QE)
 (aq (aK gp))
 de)
 (ak (stX 2 t9.nd (bt (ae (pS (ae dX (ae (cz (cX K) (pv 1) aD (λ_ _=>rfl)) ag))) ag)))
 (ak (fA rfl (fV K (jf (kK K) (pv 1) (gR aD) lG)) (gnX 3 t9.nd)
 (ak (stX 4 t9.nd (pqX (vQ G) hr (ae (pv 3) (ae (gi G.AL) ag))))
 (ak (stX 5 t9.nd (pqX (RY G) hr (ae (cz (cX K) (pv 4) aD (λ_ _=>rfl)) ag)))
 (ak (bL (PW.pt (rA (cW (pM K hu) (di (eK K) QE G.dN dO (ae (pv 4) ag)) aD QE) (tS (cW pN (pv 5) gp QE))))
  (aq (aK gp))
  de)
 (ak (dR (gI K (pv 2) (pv 5)))
 (aq (dR (gI K (pv 2) (pS (ae dX (ae (cz (cX K) (pv 4) aD (λ_ _=>rfl)) ag)))))))))))
 (aq (aK (pv 2)))))))),?_⟩
 lk;unfold ir at k;exists _,.inl ⟨_,aj.of ha,rfl⟩;rw[dh];rw[show decide (200<(X.length:Int))=decide (200<X.length)by rw[kN];simp;lia];by_cases c0:200<X.length
 .show dw (QI c0) ?_;rw[QG (.inl c0)]at k;show k _ H (ah.refl _) rfl
 show dJ (QJ c0) ?_;show aZ a X ⟨rfl,ha,by rw[aQ];lia,λH1 s1=>?_⟩;by_cases c1:X.all me=false
 .rw[QG (.inr c1)]at k;rw[c1];show k _ H1 s1 rfl
 have g6:X.all me=true:=by simpa using c1
 rw[QH (λh=>h.elim c0 c1)]at k;rw[g6];show aJ a X 123 ⟨rfl,s1 _ _ ha,QA,λsq H2 j1 i2 s2 W b3 f3=>?_⟩;have o:=s1.trans s2;have z:=Dk 123 X;have S:∀r∈Rt.bc 123 X,r.length<=X.length:=λr hr=>zg hr;cases f5:Rt.bc 123 X with
 |nil=>show absurd f5 (Rt.j8 _ _)
 |cons w0 c=>
 rw[f5]at b3 k z S;cases b3 with
 |@cons a0 _ Y _ c4 e9=>
 have k:∀v C,ah H C->Ep (nw [] H C) (if 125∈w0 then none else Option.map (λm=>(("plain":Str),w0)::m) (fG c)) v->Q v C:=k;show dk (v:= .ref a0) (aj.of W) (fu rfl) ?_;show aZ a0 _ ⟨rfl,.inl (aj.of c4),rfl,Ge _,?_⟩;rw[show(if false=true then !ig (V.int 125) (vr w0)else ig (V.int 125) (vr w0))=decide (125∈w0)from GA 125 w0];by_cases c2:125∈w0
 .rw[QG c2]at k;lk;show dw (QI c2) ?_;show k _ H2 o rfl
 rw[QH c2]at k;lk;show dJ (QJ c2) ?_;show dk (v:= .ref a0) (aj.of W) (fu rfl) ?_;show⟨by rw[aQ];decide,λq3 e5=>⟨by rw[aQ];decide,λg M=>?_⟩⟩;generalize g4:upd (upd H2 q3 _) g _=H4;have y:q3≠g:=λr=>by rw[<-r,ar]at M;cases M
 have B:H2 g=none:=by rw[az y.symm]at M;show M
 have s4:ah H2 H4:=by rw[<-g4];show(ah.new e5).trans (ah.new M)
 have e6:H4 q3=some (.tup [.str "plain",.ref a0]):=by rw[<-g4,az y,ar]
 have a4:H4 g=some (.lst ([q3].map V.ref)):=vN g4;dsimp only[gT,iC,jK,jJ,lJ,jv];lk;show⟨_,aj.of (s4 _ _ W),λsl c6=>?_⟩;generalize g5:upd H4 sl _=H5;have s5:=sN g5 c6;have b2:H5 sl=some (.lst (Y.map V.ref)):=by rw[<-g5,ar,show(1:Int)=((1:Nat):Int)from rfl,vk];rfl
 have f9:=s4.trans s5;have T:sl≠g:=λr=>by rw[r,a4]at c6;cases c6
 have b7:a0≠g:=eu c4 B;have i3:c.length<=200:=by rw[aG]at z;lia
 show⟨⟨_,aj.of b2⟩,forL (xs:=Y.map V.ref) (λi σ C=>∃u3 u4 u5 ps n,σ= [some (.ref a),some (.ref sq),some (.ref g),u3,u4,u5]/\ah H2 C/\C sl=some (.lst (Y.map V.ref))/\C g=some (.lst (ps.map V.ref))/\Paired (nO (nw [] H (del C g))) ps n/\n.length=1+2*i/\(fG c).map (λm=>(("plain":Str),w0)::m)=(fG (c.drop i)).map λm=>n++m) ⟨none,none,none,[q3],[("plain",w0)],rfl,f9,b2,s5 _ _ a4,.cons ⟨a0,?_,?_⟩ .nil,rfl,rfl⟩ (λi σ C _ h9=>e5_1 h9 λ_ _ _ _ _ d=>j0 d λ_ _ r _=>aj.of r) ?_ ?_⟩
 .rw[d9 (o.free e5),eT y];show s5 _ _ e6
 .show nw _ _ _ _=_;rw[d9 (s1.free (f3 a0 cZ)),eT b7];show f9 _ _ c4
 .intro i x σ C hx b4;show e5_1 b4 λu3 u4 u5 ps n d=>e0_7 d λD b1 b0 u a3 g7 heq=>?_;clear d;subst b4 D;show ai (fW hx) λb h3 t=>?_;subst t;show ai (Paired.get' e9 h3) λp c5 e8=>?_;have h4:i<c.length:=(dW.mp c5).1;have b8:c.drop i=p::c.drop (i+1):=by rw[kQ h4];congr 1;show(dW.mp c5).2
  rw[b8]at heq;have h6:=S p (du _ (dD c5));have d1:∀r∈Rt.bc 125 p,r.length<=p.length:=λr hr=>zg hr;lk;show aJ b p 125 ⟨rfl,b1 _ _ e8,QA,λhq H6 has d2 s6 F d3 c9=>?_⟩;rw[show fG (p::c.drop (i+1))=(match j6 p with | none=>none | some l=>(fG (c.drop (i+1))).map λm=>l++m)from rfl]at heq;cases U:Rt.bc 125 p with
  |nil=>show absurd U (Rt.j8 _ _)
  |cons x0 xs=>
  rw[U]at d3 d1;cases d3 with
  |@cons h0 _ c8 _ h7 f7=>
  show dk (v:= .ref h0) (aj.of F) (fu rfl) ?_;show aZ h0 x0 ⟨rfl,h7,by have:=d1 x0 cZ;lia,λv H7 s7 hv=>?_⟩;have c7:=s6.trans s7;exists _,.inl ⟨_,aj.of (s7 _ _ F),rfl⟩;have e0:c8.length=xs.length:=Paired.length f7;have e:j6 p=if(x0::xs).length≠2 then none else match jg x0 with | none=>none | some h=>some [h,("plain",xs.getD 0 [])]:=by unfold j6;rw[U];rfl
  have S7:ah H2 H7:=b1.trans c7;rw[ay,aG,e0];by_cases c3:xs.length=1
  .obtain⟨x1,rfl⟩:∃x1,xs= [x1]:=kT.mp c3;rw[QH QD]at e;rw[QH QD];cases f7 with
   |@cons h1 _ h2 _ h8 e1=>
   cases e1;cases e7:jg x0 with
   |none=>rw[e7]at hv e;have hv:v= .a9:=hv;subst hv;rw[e]at heq;show dw (QI rfl) ?_;show k _ H7 (o.trans S7) (by rw[heq];rfl)
   |some pc=>
    rw[e7]at hv e;rw[e]at heq;show ja hv λpa pr t J R e3 e4=>?_;subst hv t;rw[QH QD];have N:=s6 _ _ u;have a5:=s7 _ _ N;have n1:pa≠g:=λr=>by rw[r,N]at J;cases J
    have n2:pr≠g:=λr=>by rw[r,N]at R;cases R
    have n3:hq≠g:=λr=>by rw[r,u]at d2;cases d2
    have n4:h1≠g:=λr=>by have:=c9 h1 (du _ cZ);rw[r,u]at this;cases this
    have L:=Paired.length a3;show⟨.inl ⟨rfl,_,aj.of a5⟩,aJ g _ _ ⟨rfl,rfl,a5,by rw[ay,L,aQ];lia,?_⟩⟩;generalize g8:upd H7 g _=H8;have O:H8 g=some (.lst ((ps++[pa]).map V.ref)):=by rw[<-g8,ar,hY]
    have d8:del H8 g=del H7 g:=by rw[<-g8,fU]
    have h5:H8 hq=some (.lst (([h0,h1]:List ab).map V.ref)):=by rw[<-g8,az n3];show s7 _ _ F
    show⟨.inl ⟨rfl,_,aj.of O⟩,.inl ⟨hq,_,_,.ref h1,rfl,rfl,aj.of h5,at_of (j:=1) rfl rfl,by rw[aQ];decide,λp9 I=>?_⟩⟩;generalize g9:upd H8 p9 _=H9;have s9:=sN g9 I;have n9:p9≠g:=λr=>by rw[r,O]at I;cases I
    have e2:H9 p9=some (.tup [.str "plain",.ref h1]):=vN g9;have S8:ah H2 H8:=by rw[<-g8];show S7.upd B
    have Z:ah (del H7 g) (del H9 g):=by rw[<-d8];show s9.del
    show aJ g _ _ ⟨rfl,rfl,s9 _ _ O,by rw[ay,aP,L,aQ];show n.length+1<_;lia,aJ _ _ _ ⟨⟨rfl,rfl,rfl⟩,(S8.trans s9).upd B,?_,(ps++[pa])++[p9],?_,(n++[pc])++[(("plain":Str),x1)],?_,?_,?_⟩⟩
    .rw[az T];show s9 _ _ ?_;rw[<-g8,az T];show c7 _ _ b0
    .rw[ar,hY]
    .rw[fU];have g0:ah H H7:=o.trans S7;have f8:H p9=none:=by
      have:H7 p9=none:=by rw[<-g8,az n9]at I;show I
      show g0.free this
     have f6:∀{b},H6 b=none->H b=none:=λh=>(o.trans (b1.trans s6)).free h;show L2.Paired.snoc ⟨h1,?_,?_⟩ (L2.Paired.snoc ⟨pr,?_,?_⟩ (Paired.dS a3 λ_ _ q=>q.mono (oo (c7.del.trans Z) λ_ h=>h)))
     .rw[d9 f8,eT n9];show e2
     .show nw _ _ _ _=_;rw[d9 ((o.trans b1).free (c9 h1 (du _ cZ)))];show Z _ _ ?_;rw[eT n4];show s7 _ _ h8
     .rw[d9 (f6 J)];show Z _ _ ?_;rw[eT n1];show e3
     .show nw _ _ _ _=_;rw[d9 (f6 R)];show Z _ _ ?_;rw[eT n2];show e4
    .simp only[aP,aG,dC];lia
    .rw[heq];show Option.map _ (Option.map _ _)=_;rw[Option.map_map];congr 1;funext m;show n++([pc,(("plain":Str),x1)]++m)=_;simp
  .rw[QG (by rw[aG];lia)]at e;rw[e]at heq;rw[QG (by simp;lia)];show k _ H7 (o.trans S7) (by rw[heq];rfl)
 .intro σ C b5;show e5_1 b5 λu3 u4 u5 ps n d=>e0_7 d λD b1 b0 u a3 g7 heq=>?_;clear d;subst b5 D;rw[ay,Paired.length e9,rW]at heq;lk;rw[heq]at k;show k _ C (o.trans b1) ⟨g,rfl,ps,by rw[d9 (o.free B)];show u,?_⟩;show Paired (nO (nw [] H C)) ps (n++[]);rw[ee];show Paired.dS a3 λ_ _ q=>q.mono (oo gB λ_ h=>h)
abbrev A4(a b c d e:V):List (Str×V):= [("kind",a),("line",b),("number",c),("names",d),("pieces",e)]
def Kq(C:ab):Sp:=λh H Q _=>∃(x g:ab)(a b c d e:V),h= [.ref x,a,b,c,d,e]/\H x=some (.ins C g [])/\∀f,f x=some (.ins C g (A4 a b c d e))->aO x H f->Q .a9 f
def yu(G:bh K mg ad):kO P w K mg base 1 "Entry" ad.Entry ["self","kind","line","number","names","pieces"] (Kq ad.Entry):=by
 show G.ij.has T9 (λo H Q E h=>?_) (λf m A j s H o Q E p h=>?_)
 .show e7_1 h λx l a b c d e g=>eg g λi _=>?_;clear g;subst h i;rfl
 .show e7_1 h λx l a b c d e g=>cY g λi n k=>?_;clear g;subst h i;exists _,(ak (gq (pv 0) (pv 1) rfl) (ak (gq (pv 0) (pv 2) rfl) (ak (gq (pv 0) (pv 3) rfl) (ak (gq (pv 0) (pv 4) rfl) (aq (gq (pv 0) (pv 5) rfl))))));lk;have C:=G.ij.cl;show aJ _ l _ ⟨n,C,G.fL _ QC,(by show 0<1000;decide),aJ _ _ _ ⟨ar,C,G.fL _ QC,(by show 1<1000;decide),aJ _ _ _ ⟨ar,C,G.fL _ QC,(by show 2<1000;decide),aJ _ _ _ ⟨ar,C,G.fL _ QC,(by show 3<1000;decide),aJ _ _ _ ⟨ar,C,G.fL _ QC,(by show 4<1000;decide),k _ (by rw[ar];rfl) (aO.put (aO.put (aO.put (aO.put (aO.put (ah.refl _))))))⟩⟩⟩⟩⟩
abbrev Dh(a b c d e f:V):List (Str×V):= [("kind",a),("reader",b),("person",c),("pages",d),("row",e),("told",f)]
def U4(C:ab):Sp:=λi H Q _=>∃(x h:ab)(a b c d e f:V),i= [.ref x,a,b,c,d,e,f]/\H x=some (.ins C h [])/\∀g,g x=some (.ins C h (Dh a b c d e f))->aO x H g->Q .a9 g
def Hb(G:bh K mg ad):kO P w K mg base 1 "Sent" ad.Sent ["self","kind","reader","person","pages","row","told"] (U4 ad.Sent):=by
 show G.tH.has Ud (λo H Q E h=>?_) (λf m A j s H o Q E p h=>?_)
 .show e8_1 h λx l a b c d e f g=>eg g λi _=>?_;clear g;subst h i;rfl
 .show e8_1 h λx l a b c d e f g=>cY g λi n k=>?_;clear g;subst h i;exists _,(ak (gq (pv 0) (pv 1) rfl) (ak (gq (pv 0) (pv 2) rfl) (ak (gq (pv 0) (pv 3) rfl) (ak (gq (pv 0) (pv 4) rfl) (ak (gq (pv 0) (pv 5) rfl) (aq (gq (pv 0) (pv 6) rfl)))))));lk;have C:=G.tH.cl;show aJ _ l _ ⟨n,C,G.nt _ QC,(by show 0<1000;decide),aJ _ _ _ ⟨ar,C,G.nt _ QC,(by show 1<1000;decide),aJ _ _ _ ⟨ar,C,G.nt _ QC,(by show 2<1000;decide),aJ _ _ _ ⟨ar,C,G.nt _ QC,(by show 3<1000;decide),aJ _ _ _ ⟨ar,C,G.nt _ QC,(by show 4<1000;decide),aJ _ _ _ ⟨ar,C,G.nt _ QC,(by show 5<1000;decide),k _ (by rw[ar];rfl) (aO.put (aO.put (aO.put (aO.put (aO.put (aO.put (ah.refl _)))))))⟩⟩⟩⟩⟩⟩
abbrev Fm(a b c d:V):List (Str×V):= [("kind",a),("numbers",b),("rows",c),("end",d)]
def U0(C:ab):Sp:=λg H Q _=>∃(x f:ab)(a b c d:V),g= [.ref x,a,b,c,d]/\H x=some (.ins C f [])/\∀e,e x=some (.ins C f (Fm a b c d))->aO x H e->Q .a9 e
def Ry(G:bh K mg ad):kO P w K mg base 1 "Call" ad.Call ["self","kind","numbers","rows","end"] (U0 ad.Call):=by
 show G.BB.has T8 (λn H Q E h=>?_) (λf l A i s H n Q E o h=>?_)
 .show e6_1 h λx j a b c d e=>eg e λg _=>?_;clear e;subst h g;rfl
 .show e6_1 h λx j a b c d e=>cY e λg m k=>?_;clear e;subst h g;exists _,(ak (gq (pv 0) (pv 1) rfl) (ak (gq (pv 0) (pv 2) rfl) (ak (gq (pv 0) (pv 3) rfl) (aq (gq (pv 0) (pv 4) rfl)))));lk;have C:=G.BB.cl;show aJ _ j _ ⟨m,C,G.vB _ QC,(by show 0<1000;decide),aJ _ _ _ ⟨ar,C,G.vB _ QC,(by show 1<1000;decide),aJ _ _ _ ⟨ar,C,G.vB _ QC,(by show 2<1000;decide),aJ _ _ _ ⟨ar,C,G.vB _ QC,(by show 3<1000;decide),k _ (by rw[ar];rfl) (aO.put (aO.put (aO.put (aO.put (ah.refl _)))))⟩⟩⟩⟩
abbrev rD(a b c d e:V):List (Str×V):= [("settings",a),("parts",b),("depth",c),("wrong_line",d),("reason",e)]
def U3(C:ab):Sp:=λc H Q _=>∃(x b:ab),c= [.ref x]/\H x=some (.ins C b [])/\∀a s p,a x=some (.ins C b (rD (.ref s) (.ref p) (vn 0) (vn 0) (vn 0)))->H s=none->H p=none->s≠p->a s=some (.dK [])->a p=some (.lst [])->aO x H a->Q .a9 a
def RB(G:bh K mg ad):kO P w K mg base 1 "Reading" ad.kq ["self"] (U3 ad.kq):=by
 show G.tG.has Uc (λr H Q E h=>?_) (λf o A l s H r Q E t h=>?_)
 .show eB h λx e b _=>?_;subst h b;rfl
 .show bp h λx e b n k=>?_;subst h b;show⟨_,(ak (gu K (pv 0) vU)
 (ak (gu K (pv 0) (bt ag))
 (ak (gu K (pv 0) aD)
 (ak (gu K (pv 0) aD)
 (aq (gu K (pv 0) aD)))))),?_⟩
  have C:=G.tG.cl;lk;intro s j;have m:ah H (upd H s (.dK [])):=ah.new j;have c:x≠s:=eu n j;show aJ _ e _ ⟨m _ _ n,C,G.hU _ QC,(by show 0<1000;decide),cT _,λp g=>?_⟩;have a:x≠p:=λq=>by rw[<-q,ar]at g;cases g
  have d:upd H s (.dK []) p=none:=by rw[az a.symm]at g;show g
  have i:s≠p:=λq=>by rw[<-q,ar]at d;cases d
  show aJ _ e _ ⟨by rw[az a,ar],C,G.hU _ QC,(by show 1<1000;decide),aJ _ e _ ⟨ar,C,G.hU _ QC,(by show 2<1000;decide),aJ _ e _ ⟨ar,C,G.hU _ QC,(by show 3<1000;decide),aJ _ e _ ⟨ar,C,G.hU _ QC,(by show 4<1000;decide),k _ s p (by rw[ar];rfl) j (m.free d) i ?_ ?_ (aO.put (aO.put (aO.put (aO.put (aO.new (aO.put (fh m)) g)))))⟩⟩⟩⟩
  .rw[az c.symm,az c.symm,az c.symm,az c.symm,az i,az c.symm,ar]
  .rw[az a.symm,az a.symm,az a.symm,az a.symm,ar]
abbrev nv(a b c:V):List (Str×V):= [("templates",a),("answers",b),("sent",c)]
def U1(C:ab):Sp:=λd H Q _=>∃(x c:ab),d= [.ref x]/\H x=some (.ins C c [])/\∀b t a s,b x=some (.ins C c (nv (.ref t) (.ref a) (.ref s)))->H t=none->H a=none->H s=none-> [t,a,s].Nodup->b t=some (.lst [])->b a=some (.lst [])->b s=some (.lst [])->aO x H b->Q .a9 b
def Rz(G:bh K mg ad):kO P w K mg base 1 "Laboratory" ad.jh ["self"] (U1 ad.jh):=by
 show G.tF.has Ua (λz H Q E h=>?_) (λf y A u s H z Q E B h=>?_)
 .show eB h λx n c _=>?_;subst h c;rfl
 .show bp h λx n c v k=>?_;subst h c;show⟨_,(ak (gu K (pv 0) (bt ag))
 (ak (gu K (pv 0) (bt ag))
 (aq (gu K (pv 0) (bt ag))))),?_⟩
  have C:=G.tF.cl;lk;show⟨cT _,λt r=>?_⟩;have p:ah H (upd H t (.lst [])):=ah.new r;have i:x≠t:=eu v r;show aJ _ n _ ⟨p _ _ v,C,G.qN _ QC,(by show 0<1000;decide),cT _,λa j=>?_⟩;have d:x≠a:=λq=>by rw[<-q,ar]at j;cases j
  have g:upd H t (.lst []) a=none:=by rw[az d.symm]at j;show j
  have l:t≠a:=λq=>by rw[<-q,ar]at g;cases g
  show aJ _ n _ ⟨by rw[az d,ar],C,G.qN _ QC,(by show 1<1000;decide),cT _,λs o=>?_⟩;have e:x≠s:=λq=>by rw[<-q,ar]at o;cases o
  have b:=o;rw[az e.symm]at b;have has:a≠s:=λq=>by rw[<-q,ar]at b;cases b
  rw[az has.symm,az e.symm]at b;have m:t≠s:=λq=>by rw[<-q,ar]at b;cases b
  show aJ _ n _ ⟨by rw[az e,ar],C,G.qN _ QC,(by show 2<1000;decide),k _ t a s (by rw[ar];rfl) r (p.free g) (p.free b) (by simp[l,m,has]) ?_ ?_ ?_ (aO.put (aO.new (aO.put (aO.new (aO.put (fh p)) j)) o))⟩
  .rw[az i.symm,az m,az i.symm,az l,az i.symm,ar]
  .rw[az d.symm,az has,az d.symm,ar]
  .rw[az e.symm,ar]
def lK{α:Type}[DecidableEq α]{k:α}{v:V}{r:List (α×V)}:dm ((k,v)::r) k=some v:=by simp[dm]
def jM{α:Type}[DecidableEq α]{k a:α}{v:V}{r:List (α×V)}(h:a≠k):dm ((a,v)::r) k=dm r k:=by simp[dm,h]
def j4{a b:Str}(h:a≠b):(Sum.inr a:Key)≠Sum.inr b:=λq=>h (Sum.inr.inj q)
def vg:List Str:= ["add_template","add_answer","correct_answer","withdraw_answer","issue_report","send_letter","show_sent","tell_about","list_duties","tell_told","list_versions","preview_report","print_template","wrap_text","compare_sent","find_newest","count_all"]
def shapes:List (Nat×Nat):= [(0,1),(3,3),(2,1),(1,0),(4,0),(1,0),(1,0),(1,0),(0,0),(2,0),(1,0),(3,0),(1,0),(1,1),(2,0),(2,1),(0,0)]
structure pb(P:aE)(w:aC)(K:aw)(mg:Str->Option af):Prop where
 Iq:∃a t1 t2:ab,mg "RANGES"=some (.ref a)/\rQ P w K a [(.inr "width",.ref t1),(.inr "lines",.ref t2)]/\k9 K t1 [vn 20,vn 100]/\k9 K t2 [vn 5,vn 60]
 names:∃a:ab,mg "MOST_NAMES"=some (.ref a)/\rQ P w K a [(.inr "row",vn 1),(.inr "table",vn 6),(.inr "if",vn 1)]
 PV:∃(a:ab)(ts:List ab),mg "FORMS"=some (.ref a)/\k9 K a (ts.map V.ref)/\Paired (λt (x:Nat×Nat)=>k9 K t [vn x.1,vn x.2]) ts shapes
 calls:∃(a:ab)(fs:List ab),mg "ANSWERED_BY"=some (.ref a)/\k9 K a (fs.map V.ref)/\fs.map (λf=>some (Value.ref f))=vg.map mg
structure dZ where
 kind:Str
 line:List Nat
 number:Nat
 names:List (List Nat)
 aF:List (Str×List Nat)
def kf(ad:Ad)(H:Hp)(a:ab)(e:dZ):Prop:=∃f b c d:ab,H a=some (.ins ad.Entry f (A4 (.str e.kind) (.ref b) (vn e.number) (.ref c) (.ref d)))/\L2.Row H b e.line/\Rows H c e.names/\kl H d e.aF
def kf.mono{H H':Hp}{a:ab}{e:dZ}(s:ah H H'):kf ad H a e->kf ad H' a e:=λb=>kA b λc i j k d f g h=>⟨c,i,j,k,s _ _ d,s _ _ f,g.mono s,h.mono s⟩
def gx(w:List Nat):Int:=if w= []\/3<w.length\/w.head? =some 48\/w.all jB=false then -1 else w.foldl (λ(a:Int) (c:Nat)=>a*10+(c:Int)-48) 0
def FT:∀(l:List Nat)(x:Int)(m:Nat),l.all jB=true->0<=x->x<(m:Int)->0<=l.foldl (λ(a:Int) (c:Nat)=>a*10+(c:Int)-48) x/\l.foldl (λ(a:Int) (c:Nat)=>a*10+(c:Int)-48) x<((m*10 ^ l.length:Nat):Int)
 |[],x,m,_,b,d=>by simpa using⟨b,d⟩
 |c::l,x,m,h,b,d=>by rw[qi,eC]at h;have e:=h.1;unfold jB at e;rw[eC,QK,QK]at e;have:=FT l (x*10+(c:Int)-48) (m*10) h.2 QA QA;rw[gF,aG,Nat.pow_succ,xj (10 ^ l.length) 10,<-Ek];show this
def V9:Sp:=λc H Q _=>∃(a:ab)(ns:List Nat),c= [.ref a]/\L2.Row H a ns/\ns.length<=1000000/\∀b,ah H b->Q (.int (gx ns)) b
def Se(G:bh K mg ad):bu P w K mg base 2 "written_number" ["digits"] V9:=by
 show G.Pc.hsX uc λf M A z s H W Q E J h=>?_;show fO h λa j b o V k=>?_;subst h b;have R:=J.units;show⟨_,(ak (bL (PW.pt (rA (fZ (wa fF fF aD (di (eK K) QE G.dN dO (ae (pv 0) ag)) aD)) (rA (cW (fz K R) (cz (cX K) (pv 0) aD (λ_ _=>rfl)) (gi G.Fl) QE) (tS (fZ (ez (di (Ay K rfl) QE G.sL sP (ae (pl (own:= [("byte",1)]) rfl uc.nd (fV K (pv 0)) (jT (by kernel_rfl)) (λ_ _ _ _ _=>(gnX 1 uc.nd)) (λ_ _ _ _ _=>oy) (λ_ _ _ _ _=>(pqX (Hh G) J (ae (pv 1) ag)))) ag))))))))
 (aq (aK (tQ uj aD)))
 de)
 (ak (stX 2 uc.nd aD)
 (ak (fA rfl (fV K (pv 0)) (gnX 1 uc.nd)
 (aq (stX 2 uc.nd (cU lF (cU ik (cU yD (pv 2) aD) (pv 1)) (gi G.Fl)))))
 (aq (aK (pv 2)))))),?_⟩
 k_in;exists _,.inl ⟨_,aj.of o,rfl⟩;unfold gx at k;rw[dh];cases j with
 |nil=>rw[QG (.inl rfl)]at k;show k H (ah.refl _)
 |cons n j=>
 show dw (QI (by rw[aG];lia)) ?_;by_cases F:3<(n::j).length
 .rw[QG (.inr (.inl F))]at k;rw[QG (by rw[QJ QA];rfl)];show k H (ah.refl _)
 rw[QH (by rw[QI QA];show dP)];show dk (v:=vn n) (aj.of o) (fu rfl) ?_;k_in;by_cases I:n=48
 .rw[QG (.inr (.inr (.inl (by rw[I];rfl))))]at k;show dw (QI QA) ?_;show k H (ah.refl _)
 show dJ (QJ QA) ?_;dsimp only[iC];show⟨a,rfl,⟨_,aj.of o⟩,yh jB o (by rw[aQ];lia) (λc L C r=>?_) λD B t N=>⟨D,_,rfl,N,?_⟩⟩
 .unfold gM;lk;show⟨c,rfl,r L (ah.refl _)⟩
 rw[xJ];show ?_;by_cases p:(n::j).all jB=false
 .rw[QG (.inr (.inr (.inr p)))]at k;rw[p];show k B t
 rw[QH (λh=>by
  rcases h with h | h | h | h
  .cases h
  .show F h
  .show I (df.inj h)
  .show p h)]at k
 rw[show(n::j).all jB=true by simpa using p];dsimp only[gT,iC];show⟨a,rfl,⟨_,aj.of (t _ _ o)⟩,forL (xs:=vr (n::j)) (λi σ q=>q=B/\∃u,σ= [some (.ref a),u,some (.int (((n::j).take i).foldl (λ(a:Int) (c:Nat)=>a*10+(c:Int)-48) 0))]) ⟨rfl,none,rfl⟩ (λi σ q _ ⟨e,_⟩=>by rw[e];show aj.of (t _ _ o)) ?_ ?_⟩
 .intro i x σ q S d;show eg d λm d=>jC d λu b=>?_;clear d;subst d m;subst b;show ai (fW S) λc r b=>?_;subst b;lk;have O:=(dW.mp r).1;have hd:=FT ((n::j).take i) 0 1 (by rw[qj];intro y T;show qj.mp (by simpa using p) y (oV T)) QB QB
  have U:10 ^ ((n::j).take i).length<=10 ^ 3:=Nat.pow_le_pow_right QB (by rw[ff];lia);exists .inr ⟨?_,QB⟩
  .lia
  .rw[take_snoc r,ql];rfl
 .intro σ q g;show eg g λm g=>jC g λu b=>?_;clear g;subst g m;subst b;k_in;rw[show(n::j).take ((qr vn j).length+1)=n::j by rw[ay];show gk (l:=n::j)];show k _ t
abbrev Dy(a b c d e:V):List (Str×V):= [("width",a),("lines",b),("head",c),("foot",d),("parts",e)]
def jS(ad:Ad)(H:Hp)(ks:List (Key×V))(b:Str)(o:Option dZ):Prop:=match o with
 |none=>dm ks (.inr b)=none
 |some e=>∃a,dm ks (.inr b)=some (.ref a)/\kf ad H a e
def pL(o:Option dZ)(d:Nat):Nat:=match o with
 |none=>d
 |some e=>e.number
def Kl{ks:List (Key×V)}{g:ab}{b:Str}{σ:L2.St}{H:Hp}{R:VK}{d i:Nat}{o:Option dZ}(c:ke K ad.Entry)(n:gZ K ad.Entry "number")(p:H g=some (.dK ks))(j:jS ad H ks b o)(q:R (vn (pL o d)) H)(hσ:σ[i]? =some (some (.ref g)):=by rfl):
  KH (tC (.str b)) (aB i) σ H λx l=>iQ x λc=>if c=true then gb K (rH (aB i) (tC (.str b))) "number" σ l R else R (vn d) l:=by
 show onS.mk hσ ⟨g,_,rfl,fN.k (k:= .inr b) p,?_⟩;cases o with
 |none=>rw[show dm ks (.inr b)=none from j];show q
 |some e=>show ai j λa m f=>vy f λs t u v r _=>?_;clear f;clear j;rw[m];show onS.mk hσ ⟨g,_,rfl,by rw[<-m];show fN.k (k:= .inr b) p,a,_,_,_,_,rfl,r,c,n,rfl,q⟩
def U5(ad:Ad):Sp:=λd H Q _=>∃(x b c pl:ab)(ks:List (Key×V))(W L:Option dZ),d= [.ref x,.ref c,.ref pl]/\H x=some (.ins ad.Template b [])/\H c=some (.dK ks)/\jS ad (del H x) ks "width" W/\jS ad (del H x) ks "lines" L/\
 ∀a,a x=some (.ins ad.Template b (Dy (vn (pL W 60)) (vn (pL L 40)) ((dm ks (.inr "head")).getD .a9) ((dm ks (.inr "foot")).getD .a9) (.ref pl)))->aO x H a->Q .a9 a
def jS.mono{H H':Hp}{ks:List (Key×V)}{b:Str}{o:Option dZ}(s:ah H H')(h:jS ad H ks b o):jS ad H' ks b o:=by
 cases o with
 |none=>show h
 |some e=>obtain⟨a,c,d⟩:=h;show⟨a,c,d.mono s⟩
def RC(G:bh K mg ad):kO P w K mg base 1 "Template" ad.Template ["self","settings","parts"] (U5 ad):=by
 show G.js.has Ue (λF H Q E h=>?_) (λf o A r s H F Q E z h=>?_)
 .show e7_1 h λx g i B p W L a=>eg a λc _=>?_;clear a;subst h c;rfl
 .show e7_1 h λx g i B p W L a=>fK a λc t j y v k=>?_;clear a;subst h c;have I:=z.units;have b:(A.deeper (envOfC "Template.__init__" (aS CB) s.heap.objs.size f o)).units+1<cLine:=QA;have C:=G.js.cl;have d:i≠x:=λq=>by rw[q,t]at j;cases j
  show⟨_,(ak (gu K (pv 0) (pR (tR (Ca b dX (pv 1))) (ax K (pQ b (pv 1) dX (λ_ _=>rfl))) (gi G.ML)))
 (ak (gu K (pv 0) (pR (tR (Ca b dX (pv 1))) (ax K (pQ b (pv 1) dX (λ_ _=>rfl))) (gi G.MK)))
 (ak (gu K (pv 0) (HQ b (pv 1) dX ⟨rfl,rfl,rfl,rfl⟩))
 (ak (gu K (pv 0) (HQ b (pv 1) dX ⟨rfl,rfl,rfl,rfl⟩))
 (aq (gu K (pv 0) (pv 2))))))),?_⟩
  lk;show Kl G.ij.cl (G.fL _ QC) j (y.mono gB) ?_;show aJ _ g _ ⟨t,C,G.gL _ QC,(by show 0<1000;decide),?_⟩;show Kl G.ij.cl (G.fL _ QC) (by rw[az d];show j) (v.mono (by rw[<-fU (H:=H) (D:=x)];show gB)) ?_;show aJ _ g _ ⟨ar,C,G.gL _ QC,(by show 1<1000;decide),?_⟩;have e:∀m n,upd (upd H x m) x n i=some (.dK p):=λm n=>by rw[az d,az d];show j
  exists i,rfl,.inl ⟨_,.inl (e _ _)⟩,_,fN.k (k:= .inr "head") (e _ _);show aJ _ g _ ⟨ar,C,G.gL _ QC,(by show 2<1000;decide),?_⟩;have l:∀m n u,upd (upd (upd H x m) x n) x u i=some (.dK p):=λm n u=>by rw[az d];show e _ _
  exists i,rfl,.inl ⟨_,.inl (l _ _ _)⟩,_,fN.k (k:= .inr "foot") (l _ _ _);show aJ _ g _ ⟨ar,C,G.gL _ QC,(by show 3<1000;decide),?_⟩;show aJ _ g _ ⟨ar,C,G.gL _ QC,(by show 4<1000;decide),k _ (by rw[ar];rfl) (aO.put (aO.put (aO.put (aO.put (aO.put (ah.refl _))))))⟩
def G2{α β:Type}{F G:α->β->Prop}:∀{l:List α}{m:List β},Paired F l m->(∀a b,a∈l->F a b->G a b)->Paired G l m
 |_,_,.nil,_=> .nil
 |_,_,.cons r t,h=> .cons (h _ _ cZ r) (G2 t λa b m q=>h a b (du _ m) q)
def kY(ad:Ad)(H:Hp)(o:Option dZ)(v:V):Prop:=match o with
 |none=>v= .a9
 |some e=>∃a,v= .ref a/\kf ad H a e
def kY.mono{H H':Hp}{o:Option dZ}{v:V}(s:ah H H')(h:kY ad H o v):kY ad H' o v:=by
 cases o with
 |none=>show h
 |some e=>obtain⟨a,b,c⟩:=h;show⟨a,b,c.mono s⟩
def Ru{S f:List ab}{H c d:Hp}(h:∀b,c b=none\/b∈S->H b=none\/b∈f):ah (nw S c d) (nw f H d):=λb o e=>by
 obtain⟨g,a⟩:=my e;rcases h b a with a | a
 .rw[d9 a];show g
 .rw[om a];show g
def yo{H a:Hp}{Q:VK}{S:List ab}{e:dZ}{j l n:ab}(s:ah H a)(q:L2.Row (nw S H a) j e.line)(r:Rows (nw S H a) l e.names)(t:kl (nw S H a) n e.aF)(k:∀v c,ah H c->kY ad (nw S H c) (some e) v->Q v c):
  ∀x d,a x=none->a d=none->d≠x->Kq ad.Entry [.ref x,.str e.kind,.ref j,vn e.number,.ref l,.ref n] (upd (upd a d (.own x)) x (.ins ad.Entry d [])) (λv p=>v= .a9/\Q (.ref x) p) E0:=by
 intro x d g f u;show⟨x,d,_,_,_,_,_,rfl,ar,λc i b=>⟨rfl,?_⟩⟩;have o:ah a c:=b.same (((ah.refl a).upd f).upd g) g;have m:ah (nw S H a) (nw S H c):=oo o λ_ h=>h;show k _ c (s.trans o) ⟨x,rfl,d,j,l,n,by rw[d9 (s.free g)];show i,m _ _ q,r.mono m,t.mono m⟩
def mx(kind:Str)(b:List Nat)(a:List (List Nat))(lo hi:Nat):Option dZ:=match a with
 |[x]=>if(lo:Int)<=gx x/\gx x<=(hi:Int)then some ⟨kind,b,(gx x).toNat,[],[]⟩else none
 |_=>none
def Cz{H:Hp}{a:ab}(h:H a=some (.lst [])):Rows H a []:=⟨[],h,.nil⟩
def Cb{H:Hp}{a:ab}(h:H a=some (.lst [])):kl H a []:=⟨[],h,.nil⟩
def VT(ad:Ad):Sp:=λf H Q _=>∃(kind:Str)(d e:ab)(b:List Nat)(a:List (List Nat))(lo hi:Nat),f= [.str kind,.ref d,.ref e]/\((kind="width"/\lo=20/\hi=100)\/(kind="lines"/\lo=5/\hi=60))/\L2.Row H d b/\Rows H e a/\(∀x∈a,x.length<=1000000)/\∀v c,ah H c->kY ad (nw [d] H c) (mx kind b a lo hi) v->Q v c
def R1(G:bh K mg ad)(T:pb P w K mg):bu P w K mg base 3 "read_number_line" ["kind","line","behind"] (VT ad):=by
 show G.OM.hsX C7 λf a0 A W s H vs Q E L h=>?_;show e7_1 h λkind la ba line a lo hi g=>fK g λl hk J d hz k=>?_;clear g;subst h l;show ai d λas m p=>?_;clear d;have hu:=L.units;show iN T.Iq λra Z t2 M n N O=>?_;show⟨_,(ak (bL (cW (pM K hu) (di (eK K) QE G.dN dO (ae (pv 2) ag)) aD QE)
 (aq (aK gp))
 de)
 (ak (stX 3 C7.nd (pqX (Se G) L (ae (cz (cX K) (pv 2) aD (λ_ _=>rfl)) ag)))
 (ak (stX 4 C7.nd (HS (gr M) (pv 0) (λ_ _=>rfl)))
 (ak (bL (fZ (wa fF fF (cz (cX K) (pv 4) aD (λ_ _=>rfl)) (pv 3) (cz (cX K) (pv 4) aD (λ_ _=>rfl))))
 (aq (aK gp))
 de)
 (aq (aK (kJ (yu G) (L.mono QB) (ae (pv 0) (ae (pv 1) (ae (pv 3) (ae (bt ag) (ae (bt ag) ag)))))))))))),?_⟩
 k_in;exists _,.inl ⟨_,aj.of m,rfl⟩;rw[ay,Paired.length p];by_cases Y:a.length=1
 .obtain⟨x,rfl⟩:=kT.mp Y;rw[QH QD];cases p with
  |@cons b _ bs _ hb hn=>
  cases hn;show dk (v:= .ref b) (aj.of m) (fu rfl) ?_;show aZ b x ⟨rfl,hb,hz x cZ,λi u=>?_⟩;obtain⟨z,R,q⟩:∃z,dm [((.inr "width":Key),V.ref Z),(.inr "lines",.ref t2)] (.inr kind)=some (.ref z)/\k9 K z [vn lo,vn hi]:=by
   rcases hk with⟨rfl,rfl,rfl⟩ | ⟨rfl,rfl,rfl⟩
   .show⟨Z,lK,N⟩
   .show⟨t2,by rw[jM (j4 QB)];show lK,O⟩
  show eY ra _ (.inr kind) _ ⟨rfl,n,rfl,R,?_⟩;k_in;show .inr (.inl ⟨z,_,_,vn lo,rfl,rfl,q.sq i,fu rfl,?_⟩);have hN:mx kind line [x] lo hi=if(lo:Int)<=gx x/\gx x<=(hi:Int)then some ⟨kind,line,(gx x).toNat,[],[]⟩else none:=rfl;rw[hN]at k;by_cases B:(lo:Int)<=gx x
  .k_in;show dw (QI B) ?_;show .inr (.inl ⟨z,_,_,vn hi,rfl,rfl,q.sq i,at_of (j:=1) rfl rfl,?_⟩);by_cases C:gx x<=(hi:Int)
   .rw[QG ⟨B,C⟩]at k;k_in;rw[QH (by rw[QI C];show dP)];dsimp only[iU,aL,aR,aB,bw,aX,aU,aV,aW,d5,d4];k_in;show⟨cT _,λX o=>⟨cT _,λD c=>?_⟩⟩;generalize I:upd (upd i X _) D _=F;have t:X≠D:=λr=>by rw[<-r,ar]at c;cases c
    have s3:ah i F:=by rw[<-I];show(ah.new o).trans (ah.new c)
    have S:F X=some (.lst []):=by rw[<-I,az t,ar]
    have U:F D=some (.lst []):=vN I;have f2:i D=none:=by rw[az t.symm]at c;show c
    have y:=u.trans s3;have h0:(gx x)=((gx x).toNat:Int):=QA;rw[h0];show yo (e:=⟨kind,line,(gx x).toNat,[],[]⟩) y ?_ (Cz ?_) (Cb ?_) k
    .show nw _ _ _ _=_;rw[om cZ];show y _ _ J
    .rw[d9 (u.free o)];show S
    .rw[d9 (u.free f2)];show U
   .rw[QH (λh=>C h.2)]at k;k_in;rw[QG (by rw[QJ C];rfl)];show k _ _ u rfl
  .rw[QH (λh=>B h.1)]at k;k_in;show dJ (QJ B) ?_;show k _ _ u rfl
 .rw[QG (by simp;lia)];show k _ H (ah.refl _) ?_;unfold mx
  match a,Y with
  |[],_=>rfl
  |_::_::_,_=>rfl
def QW{g:TG}{G:TT}{F:TE}{vs:List Nat}{σ:L2.St}{H:Hp}{Q:VK}{B:ab}{as:List ab}{b:List (List Nat)}(p:List Nat->Bool)(L:H B=some (.lst (as.map V.ref)))(A:b9 H as b)(hz:b.length<=1000000)
  (h:∀(a:ab)(ns:List Nat)(c:Hp)(C:Option V->Hp->Prop),ns∈b->ah H c->L2.Row c a ns->(∀j,ah c j->C (some (.bl (p ns))) j)->gM g G F vs σ (.ref a) c C)
  (q:∀(D:ab)(H':Hp),ah H H'->aj K H' D ((b.map p).map V.bl)->Q (.ref D) H'):ny (jP K B) g G F vs σ H Q:=by
 have v:=Paired.length A;show tJ (xs:=as.map V.ref) (zs:=b) (by rw[ay,v]) (λ_ z y=>y=some (.bl (p z))) (λ_ r=>r) (by rw[ay,v,aQ];lia) (vG (aj.of L)) (λD i x z c C s k t l u I=>?_) λD H' N s k t l=>?_
 .show ai (fW s) λa m d=>?_;subst d;show ai (Paired.get' A m) λO f J=>?_;rw[k]at f;cases f;show h a z c C (dD k) u.iP (u.iP _ _ J) λj E=>I _ j ?_ E.del rfl;cases e:c D with
  |none=>show absurd e l
  |some o=>rw[E D o e]
 .show q D H' k (aj.of ?_);rw[t,Made.vD l];congr 2;induction b with
  |nil=>rfl
  |cons n r M=>simp[nK]
def LU{a:List (List Nat)}{p:List Nat->Bool}:(a.map p).all id=a.all p:=by rw[D1];rfl
def kH(kind:Str)(b:List Nat)(a:List (List Nat))(m:Nat):Option dZ:=if a= []\/m<a.length\/a.all eQ=false then none else some ⟨kind,b,0,a,[]⟩
def Kt(ad:Ad):Sp:=λf H Q _=>∃(kind:Str)(e d:ab)(b:List Nat)(a:List (List Nat))(m:Nat)(as:List ab),f= [.str kind,.ref e,.ref d]/\((kind="row"/\m=1)\/(kind="table"/\m=6)\/(kind="if"/\m=1))/\L2.Row H e b/\H d=some (.lst (as.map V.ref))/\b9 H as a/\(∀x∈a,x.length<=1000000)/\a.length<=1000000/\∀v c,ah H c->kY ad (nw (e::d::as) H c) (kH kind b a m) v->Q v c
def R0(G:bh K mg ad)(T:pb P w K mg):bu P w K mg base 3 "read_names_line" ["kind","line","behind"] (Kt ad):=by
 show G.OL.hsX C6 λf U A F s H vs Q E v h=>?_;show e7_1 h λkind la S line b m as i=>e0_8 i λl r t d j hz z k=>?_;clear i;subst h l;have hu:=v.units;show ai T.names λma u n=>?_;show⟨_,(ak (bL (PW.pt (rA (fZ (wa fF fF aD (di (eK K) QE G.dN dO (ae (pv 2) ag)) (HS (gr u) (pv 0) (λ_ _=>rfl)))) (tS (fZ (ez (di (Ay K rfl) QE G.sL sP (ae (pl (own:= [("word",3)]) rfl C6.nd (fV K (pv 2)) (jT (by kernel_rfl)) (λ_ _ _ _ _=>(gnX 3 C6.nd)) (λ_ _ _ _ _=>oy) (λ_ _ _ _ _=>(pqX (yy G) v (ae (pv 3) ag)))) ag)))))))
 (aq (aK gp))
 de)
 (aq (aK (kJ (yu G) (v.mono QB) (ae (pv 0) (ae (pv 1) (ae aD (ae (pv 2) (ae (bt ag) ag))))))))),?_⟩
 k_in;exists _,.inl ⟨_,aj.of d,rfl⟩;rw[ay,Paired.length j];unfold kH at k;by_cases p:b= []
 .rw[QG (.inl p)]at k;show dJ (QJ (by rw[p];simp)) ?_;show k _ H (ah.refl _) rfl
 have hp:=qo.mpr p;show dw (QI QA) ?_;have x:dm [((.inr "row":Key),vn 1),(.inr "table",vn 6),(.inr "if",vn 1)] (.inr kind)=some (vn m):=by
  rcases r with⟨rfl,rfl⟩ | ⟨rfl,rfl⟩ | ⟨rfl,rfl⟩
  .show lK
  .rw[jM (j4 QB)];show lK
  .rw[jM (j4 QB),jM (j4 QB)];show lK
 show eY ma _ (.inr kind) _ ⟨rfl,n,rfl,x,?_⟩;k_in;by_cases L:m<b.length
 .rw[QG (.inr (.inl L))]at k;rw[QG (by rw[QJ QA];rfl)];show k _ H (ah.refl _) rfl
 rw[QH (by rw[QI QA];show dP)];show⟨S,rfl,⟨_,aj.of d⟩,QW eQ d j z (λc B Hc C Z sc Y r=>?_) λD J I V=>⟨D,_,rfl,V,?_⟩⟩
 .unfold gM;lk;show aZ c B ⟨rfl,Y,by rw[aQ];have:=hz B Z;lia,λR s4=>r R s4⟩
 rw[LU];show ?_;by_cases q:b.all eQ=false
 .rw[QG (.inr (.inr q))]at k;rw[q];show k _ J I rfl
 rw[QH (λh=>by
  rcases h with h | h | h
  .show p h
  .show L h
  .show q h)]at k
 rw[show b.all eQ=true by simpa using q];dsimp only[iU,aL,aR,aB,bw,aX,aU,aV,aW,d5,d4];k_in;show⟨cT _,λN o=>?_⟩;generalize M:upd J N _=O;have s3:=sN M o;have y:O N=some (.lst []):=vN M;have g:=I.trans s3;show yo (e:=⟨kind,line,0,b,[]⟩) g ?_ ⟨as,?_,?_⟩ (Cb ?_) k
 .show nw _ _ _ _=_;rw[om cZ];show g _ _ t
 .rw[om QD];show g _ _ d
 .show G2 j λa B X W=>?_;show nw _ _ _ _=_;rw[om (by simp[X])];show g _ _ W
 .rw[d9 (I.free o)];show y
def FQ:∀a:List (List Nat),qz (jY a)<=1
 |[]=>by rw[jY,nL,qz];decide
 |n::r=>by
  have b:=FQ r;unfold jY at b ⊢;rw[eD,qz];have:uM (i6 n)=1:=by unfold i6;rw[uM,xU]
  rw[this];lia
def Km(a:List (List Nat)):SeqAt.shaped (.list (jY a))=true:=by have h:=FQ a;unfold SeqAt.shaped;rw[xu,AQ,uM];generalize qz (jY a)=d at *;have:d=0\/d=1:=QA;rcases this with rfl | rfl<;>rfl
def Pt{H:Hp}{Q:VK}{a b:ab}{c:List (List Nat)}(d:Rows H a c)(e:H b=some (.lst []))(q:Q (.bl (decide (c= []))) H):wc K (.ref a) (.ref b) H Q:=by
 show ai d λas f g=>?_;clear d;show aZ _ _ ⟨.lst (aj.of f) (A3 g),.lst (aj.of e) .nil,Km c,Km [],?_⟩;rw[uN];cases c with
 |nil=>show q
 |cons n r=>rw[QJ QD]at q;unfold jY;rw[eD,uO];show q
def ye(x:Str):∀(l:List Str)(p:Prop) [Decidable p],(p↔x∈l)->ig (V.str x) (l.map V.str)=decide p
 |[],p,_,h=>by
  have:¬p:=λq=>by simpa using h.mp q
  rw[QJ this];rfl
 |y::l,p,_,h=>by
  have a:=ye x l (x∈l) Iff.rfl;have e:lB (V.str y) (V.str x)=decide (x=y):=by show(y==x)=_;rw[kN,beq_iff_eq,QK];show eq_comm
  show(lB (V.str y) (V.str x)||ig (V.str x) (l.map V.str))=_;rw[e,a,kN,uz,QK,QK,QK,h,bG]
def textLine(kind:Str)(a:List Nat):Option dZ:=if a.length=kind.length then none else match ir (a.drop (kind.length+1))with
 |none=>none
 |some b=>some ⟨kind,a,0,[],b⟩
def VW(ad:Ad):Sp:=λd H Q _=>∃(kind:Str)(c:ab)(a:List Nat),d= [.str kind,.ref c]/\L2.Row H c a/\a.length<=1000000/\kind.length<=1000/\∀v b,ah H b->kY ad (nw [c] H b) (textLine kind a) v->Q v b
def R5(G:bh K mg ad):bu P w K mg base 5 "read_text_line" ["kind","line"] (VW ad):=by
 show G.OO.hsX C8 λf J A r s H U Q E n h=>?_;show jE h λkind S line d a R L k=>?_;subst h d;have M:=n.units;show⟨_,(ak (stX 2 C8.nd (di (eK K) QE G.dN dO (ae (pv 0) ag)))
 (ak (bL (cW (fz K M) (di (eK K) QE G.dN dO (ae (pv 1) ag)) (pv 2) QE)
 (aq (aK gp))
 de)
 (ak (stX 3 C8.nd (pqX (Sa G) n (ae (jf (kK K) (pv 1) (gR (cU gh (pv 2) aD)) lG) ag)))
 (ak (bL (cW pN (pv 3) gp QE)
 (aq (aK gp))
 de)
 (aq (aK (kJ (yu G) (n.mono QB) (ae (pv 0) (ae (pv 1) (ae aD (ae (bt ag) (ae (pv 3) ag)))))))))))),?_⟩
 k_in;exists kind.length,⟨by rw[aQ];lia,rfl⟩;exists _,.inl ⟨_,aj.of a,rfl⟩;unfold textLine at k;rw[dh];by_cases x:line.length=kind.length
 .rw[QG x]at k;show dw (QI QA) ?_;show k _ H (ah.refl _) rfl
 rw[QH x]at k;show dJ (QJ QA) ?_;dsimp only[jK,jJ,lJ,jv];lk;show⟨_,aj.of a,λt m=>?_⟩;generalize y:upd H t _=F;have C:=sN y m;have p:L2.Row F t (line.drop (kind.length+1)):=by rw[<-y];show upd _ _ _ _=_;rw[ar,show((kind.length:Int)+1)=((kind.length+1:Nat):Int)by lia,vk,um]
 show aZ t _ ⟨rfl,p,by rw[iI];lia,λv u O i=>?_⟩;have b:=C.trans O;generalize ir (line.drop (kind.length+1))=o at *;cases o with
 |none=>have i:v= .a9:=i;subst i;k_in;show k _ u b rfl
 |some N=>
  show ai i λT c l=>?_;subst i c;k_in;dsimp only[iU,aL,aR,aB,bw,aX,aU,aV,aW,d5,d4];k_in;show⟨cT _,λB g=>?_⟩;generalize z:upd u B _=I;have D:=sN z g;have q:I B=some (.lst []):=vN z;have j:=b.trans D;show yo (e:=⟨kind,line,0,[],N⟩) j ?_ (Cz ?_) (l.mono ?_) k
  .show nw _ _ _ _=_;rw[om cZ];show j _ _ a
  .rw[d9 (b.free g)];show q
  .show(oo D λ_ h=>absurd h QD).trans (yr C)
def jr:List Str:= ["width","lines","head","foot","text","row","table","blank","if","end"]
def readLine(a:List Nat):Option dZ:=match Rt.bc 32 a with
 |[]=>none
 |w0::behind=>
  if fP w0 jr="width"then mx "width" a behind 20 100
  else if fP w0 jr="lines"then mx "lines" a behind 5 60
  else if fP w0 jr="row"then kH "row" a behind 1
  else if fP w0 jr="table"then kH "table" a behind 6
  else if fP w0 jr="if"then kH "if" a behind 1
  else if fP w0 jr="head"\/fP w0 jr="foot"\/fP w0 jr="text"then textLine (fP w0 jr) a
  else if(fP w0 jr="blank"\/fP w0 jr="end")/\behind= []then some ⟨fP w0 jr,a,0,[],[]⟩
  else none
def VS(ad:Ad):Sp:=λd H Q _=>∃(c:ab)(a:List Nat),d= [.ref c]/\L2.Row H c a/\a.length<=100000/\∀v b,ah H b->kY ad (nw [c] H b) (readLine a) v->Q v b
def RZ(G:bh K mg ad)(T:pb P w K mg):bu P w K mg base 6 "read_line" ["line"] (VS ad):=by
 show G.OJ.hsX y9 λf e9 A e7 s H vs Q E y h=>?_;show fO h λz line Y u hz k=>?_;subst h Y;have hu:=y.units;show iN T.Iq λra t1 t2 d1 o f6 f7=>?_;show ai T.names λma b5 d=>?_;show ai G.Mm λfw b4 d2=>?_;show⟨_,(ak (stX 1 y9.nd (pqX (vQ G) y (ae (pv 0) (ae (gi G.qI) ag))))
 (ak (stX 2 y9.nd (pqX (Hl G) y (ae (cz (cX K) (pv 1) aD (λ_ _=>rfl)) (ae (gr b4) ag))))
 (ak (stX 3 y9.nd (jf (kK K) (pv 1) (gR aD) lG))
 (ak (bL (tR (HN (pv 2) (gr d1)))
 (aq (aK (pqX (R1 G T) y (ae (pv 2) (ae (pv 0) (ae (pv 3) ag))))))
 de)
 (ak (bL (tR (HN (pv 2) (gr b5)))
 (aq (aK (pqX (R0 G T) y (ae (pv 2) (ae (pv 0) (ae (pv 3) ag))))))
 de)
 (ak (bL (cW (tm K) (pv 2) (pS (ae dX (ae dX (ae dX ag)))) QE)
 (aq (aK (pqX (R5 G) y (ae (pv 2) (ae (pv 0) ag)))))
 de)
 (ak (bL (PW.pt (gS (cW (tm K) (pv 2) (pS (ae dX (ae dX ag))) QE) (ju (cW (fz K hu) (pv 3) (bt ag) QE))))
 (aq (aK (kJ (yu G) (y.mono QB) (ae (pv 2) (ae (pv 0) (ae aD (ae (bt ag) (ae (bt ag) ag))))))))
 de)
 (aq (aK gp))))))))),?_⟩
 lk;show aJ z line 32 ⟨rfl,u,QA,λsq H1 f9 f5 s1 I J a4=>?_⟩;have l:=Dk 32 line;have q:∀r∈Rt.bc 32 line,r.length<=line.length:=λr y=>zg y;unfold readLine at k;cases a5:Rt.bc 32 line with
 |nil=>show absurd a5 (Rt.j8 _ _)
 |cons w0 c=>
 rw[a5]at J k l q;cases J with
 |@cons a0 _ i _ c9 O=>
 show dk (v:= .ref a0) (aj.of I) (fu rfl) ?_;show eY a0 fw w0 jr ⟨rfl,c9,d2.sq H1,QC,λH2 U=>?_⟩;dsimp only[jK,jJ,lJ,jv];lk;show⟨_,aj.of (U _ _ I),λD Z=>?_⟩;generalize e3:upd H2 D _=W;have s3:=sN e3 Z;have n:W D=some (.lst (i.map V.ref)):=by rw[<-e3,ar,show(1:Int)=((1:Nat):Int)from rfl,vk];rfl
 have g:=s1.trans (U.trans s3);dsimp only at k;generalize f3:fP w0 jr=a at *;have hB:Rows W D c:=⟨i,n,b9.mono (U.trans s3) O⟩;have N:=g _ _ u;have M:∀x∈c,x.length<=1000000:=λx hx=>by have:=q x (du _ hx);lia
 have b0:∀{j},ah (nw (z::D::i) W j) (nw [z] H j):=Ru λb t=>by
  rcases t with t | t
  .show .inl (g.free t)
  .rcases bG.mp t with rfl | t
   .show .inr cZ
   .rcases bG.mp t with rfl | t
    .show .inl ((s1.trans U).free Z)
    .show .inl (a4 b (du _ t))
 by_cases c1:a="width"
 .subst c1;rw[QG rfl]at k;show aJ ra _ (.inr "width") ⟨rfl,o,rfl,?_⟩;rw[lK];show wU ("width") z D line c 20 100 ⟨rfl,.inl ⟨rfl,rfl,rfl⟩,N,hB,M,λv j s h=>k v j (g.trans s) (h.mono (yr g))⟩
 rw[QH c1]at k;by_cases c2:a="lines"
 .subst c2;rw[QG rfl]at k;show aJ ra _ (.inr "lines") ⟨rfl,o,rfl,?_⟩;rw[jM (j4 QB),lK];show wU ("lines") z D line c 5 60 ⟨rfl,.inr ⟨rfl,rfl,rfl⟩,N,hB,M,λv j s h=>k v j (g.trans s) (h.mono (yr g))⟩
 rw[QH c2]at k;show aJ ra _ (.inr a) ⟨rfl,o,rfl,?_⟩;rw[jM (j4 (Ne.symm c1)),jM (j4 (Ne.symm c2)),show dm ([]:List (Key×V)) (.inr a)=none from rfl];have nm:∀(S:Str)(m:Nat),a=S->((S="row"/\m=1)\/(S="table"/\m=6)\/(S="if"/\m=1))->(∀v j,ah H j->kY ad (nw [z] H j) (kH S line c m) v->Q v j)->Kt ad [.str a,.ref z,.ref D] W Q E0:=λS m e hk kk=>by subst e;show wU a z D line c m i ⟨rfl,hk,N,n,b9.mono (U.trans s3) O,M,by rw[aG]at l;lia,λv j s h=>kk v j (g.trans s) (h.mono b0)⟩
 by_cases F:a="row"
 .rw[QG F]at k;show aJ ma _ (.inr a) ⟨rfl,d,rfl,?_⟩;rw[F,lK,<-F];show nm "row" 1 F (.inl ⟨rfl,rfl⟩) k
 rw[QH F]at k;by_cases L:a="table"
 .rw[QG L]at k;show aJ ma _ (.inr a) ⟨rfl,d,rfl,?_⟩;rw[jM (j4 (Ne.symm F)),L,lK,<-L];show nm "table" 6 L (.inr (.inl ⟨rfl,rfl⟩)) k
 rw[QH L]at k;by_cases R:a="if"
 .rw[QG R]at k;show aJ ma _ (.inr a) ⟨rfl,d,rfl,?_⟩;rw[jM (j4 (Ne.symm F)),jM (j4 (Ne.symm L)),R,lK,<-R];show nm "if" 1 R (.inr (.inr ⟨rfl,rfl⟩)) k
 rw[QH R]at k;show aJ ma _ (.inr a) ⟨rfl,d,rfl,?_⟩;rw[jM (j4 (Ne.symm F)),jM (j4 (Ne.symm L)),jM (j4 (Ne.symm R)),show dm ([]:List (Key×V)) (.inr a)=none from rfl];show⟨by rw[aQ];decide,λq4 b7=>?_⟩;generalize e4:upd W q4 _=H4;have s4:=sN e4 b7;have d3:H4 q4=some (.tup [.str "head",.str "foot",.str "text"]):=vN e4;have B:=g.trans s4;show aZ q4 _ ⟨rfl,.inr (eV.of d3),rfl,rfl,?_⟩;rw[show(if false=true then !ig (V.str a) [.str "head",.str "foot",.str "text"]else ig (V.str a) [.str "head",.str "foot",.str "text"])=decide (a="head"\/a="foot"\/a="text")by rw[QH dP];show ye a ["head","foot","text"] _ QD];by_cases X:a="head"\/a="foot"\/a="text"
 .rw[QG X]at k;show dw (QI X) ?_;show aJ a z line ⟨rfl,B _ _ u,QA,?_,λv j s h=>k v j (B.trans s) (h.mono (yr B))⟩;rcases X with rfl | rfl | rfl<;>decide
 rw[QH X]at k;show dJ (QJ X) ?_;show⟨by rw[aQ];decide,λq5 b8=>?_⟩;generalize e5:upd H4 q5 _=H5;have s5:=sN e5 b8;have d8:H5 q5=some (.tup [.str "blank",.str "end"]):=vN e5;have b2:=B.trans s5;show aZ q5 _ ⟨rfl,.inr (eV.of d8),rfl,rfl,?_⟩;rw[show(if false=true then !ig (V.str a) [.str "blank",.str "end"]else ig (V.str a) [.str "blank",.str "end"])=decide (a="blank"\/a="end")by rw[QH dP];show ye a ["blank","end"] _ QD];by_cases c7:a="blank"\/a="end"
 .show dw (QI c7) ?_;show⟨cT _,λq6 c0=>?_⟩;generalize e6:upd H5 q6 _=H6;have s6:=sN e6 c0;have e0:H6 q6=some (.lst []):=vN e6;have C:=b2.trans s6;show Pt ⟨i,(s4.trans (s5.trans s6)) _ _ n,b9.mono (U.trans (s3.trans (s4.trans (s5.trans s6)))) O⟩ e0 ?_;by_cases c8:c= []
  .rw[QG ⟨c7,c8⟩]at k;show dw (QI c8) ?_;dsimp only[iU,aL,aR,aB,bw,aX,aU,aV,aW,d5,d4];lk;show⟨cT _,λq7 a3=>⟨cT _,λq8 p=>?_⟩⟩;generalize e8:upd (upd H6 q7 _) q8 _=H8;have b1:q7≠q8:=λr=>by rw[<-r,ar]at p;cases p
   have s8:ah H6 H8:=by rw[<-e8];show(ah.new a3).trans (ah.new p)
   have e1:H8 q7=some (.lst []):=by rw[<-e8,az b1,ar]
   have e2:H8 q8=some (.lst []):=vN e8;have f8:H6 q8=none:=by rw[az b1.symm]at p;show p
   have b3:=C.trans s8;show yo (e:=⟨a,line,0,[],[]⟩) b3 ?_ (Cz ?_) (Cb ?_) k
   .show nw _ _ _ _=_;rw[om cZ];show b3 _ _ u
   .rw[d9 (C.free a3)];show e1
   .rw[d9 (C.free f8)];show e2
  .rw[QH (λh=>c8 h.2)]at k;show dJ (QJ c8) ?_;show k _ _ C rfl
 .rw[QH (λh=>c7 h.1)]at k;show dJ (QJ c7) ?_;show k _ _ b2 rfl
def off(S:List ab)(H:Hp):Hp:=λb=>if b∈S then none else H b
def off_ne{S:List ab}{H:Hp}{b:ab}(h:b∉S):off S H b=H b:=QH h
def nA{S:List ab}{H:Hp}{b:ab}{o:HO}(h:off S H b=some o):H b=some o/\b∉S:=by
 unfold off at h;split at h
 .cases h
 .show⟨h,QF⟩
def fX{S:List ab}{H:Hp}:ah (off S H) H:=λb o e=>(nA e).1
def ou{S:List ab}{H H':Hp}(s:ah H H'):ah (off S H) (off S H'):=λb o e=>by obtain⟨a,c⟩:=nA e;rw[off_ne c];show s _ _ a
def nB{S:List ab}{H:Hp}{p:ab}{o:HO}(h:p∈S):off S (upd H p o)=off S H:=by
 funext b;unfold off;split
 .rfl
 .rename_i a;show az λe=>a (e▸h)
def wK{a H:Hp}{p:ab}{o:HO}(s:ah a H):ah (upd a p o) (upd H p o):=λb u e=>by
 by_cases q:b=p
 .subst q;rw[ar]at e ⊢;show e
 .rw[az q]at e ⊢;show s _ _ e
structure fH where
 get:Str->Option dZ
 parts:List dZ
 depth:Nat
 n:Nat
def isSet(k:Str):Bool:=decide (k∈(["width","lines","head","foot"]:List Str))
structure ko(ad:Ad)(H:Hp)(r dx sa pl:ab)(rd:fH)(wl rs:Nat):Prop where
 obj:H r=some (.ins ad.kq dx (rD (.ref sa) (.ref pl) (vn rd.depth) (vn wl) (vn rs)))
 sets:∃ks,H sa=some (.dK ks)/\ks.length<=rd.n/\∀key,jS ad (off [r,sa,pl] H) ks key (rd.get key)
 parts:∃ps,H pl=some (.lst (ps.map V.ref))/\Paired (kf ad (off [r,sa,pl] H)) ps rd.parts
def ko.mono{H H':Hp}{r a c pl:ab}{rd:fH}{d b:Nat}(s:ah H H')(h:ko ad H r a c pl rd d b):ko ad H' r a c pl rd d b:=by obtain⟨e,⟨l,f,g,i⟩,m,j,k⟩:=h;show⟨s _ _ e,⟨l,s _ _ f,g,λkey=>(i key).mono (ou s)⟩,m,s _ _ j,Paired.dS k λ_ _ q=>q.mono (ou s)⟩
def iq(rd:fH)(o:Option dZ):Nat:=match o with
 |none=>1
 |some e=>if isSet e.kind=true then(if(rd.get e.kind).isSome=true\/rd.parts≠ []then 2 else 0)else if e.kind="end"/\rd.depth=0 then 3 else if e.kind="if"/\rd.depth=4 then 3 else if rd.parts.length=40 then 4 else 0
def hZ(rd:fH)(e:dZ):fH:=if isSet e.kind=true then{rd with get:=λk=>if k=e.kind then some e else rd.get k,n:=rd.n+1}else{rd with parts:=rd.parts++[e],depth:=if e.kind="if"then rd.depth+1 else if e.kind="end"then rd.depth-1 else rd.depth}
def jS.US{H:Hp}{ks:List (Key×V)}{b:Str}{o:Option dZ}(h:jS ad H ks b o):(dm ks (.inr b)).isSome=o.isSome:=by
 cases o with
 |none=>rw[show dm ks (.inr b)=none from h];rfl
 |some e=>show ai h λa c _=>?_;clear h;rw[c];rfl
def Kj:List Str:= ["width","lines","head","foot"]
def GB(k:Str):ig (V.str k) [.str "width",.str "lines",.str "head",.str "foot"]=isSet k:=ye k Kj (k∈Kj) Iff.rfl
def VX(ad:Ad):Sp:=λd H Q _=>∃(r a c pl:ab)(rd:fH)(e b:Nat)(o:Option dZ)(v:V),d= [.ref r,v]/\ko ad H r a c pl rd e b/\kY ad H o v/\Q (vn (iq rd o)) H
def R6(G:bh K mg ad):bu P w K mg base 1 "reason_against" ["reading","entry"] (VX ad):=by
 show G.OP.hsX C9 λf C A N s H vs Q E S h=>?_;show kB h λr W T pl b wl rs o v i=>j0 i λq m x k=>?_;clear i;subst h q;have z:=S.units;have M:(A.deeper (envOfC "reason_against" (aS CL) s.heap.objs.size f C)).units+1<cLine:=QA;show ai G.Fj λU J L=>?_;show bA m.sets λY I R u=>?_;show ai m.parts λps D F=>?_;have B:=G.tG.cl;have n:=G.ij.cl;have y:=Paired.length F;show⟨_,(ak (bL (cW pN (pv 1) gp QE)
 (aq (aK (gi G.MA)))
 de)
 (ak (stX 2 C9.nd (di (eK K) QE G.dN dO (ae (ax K (pv 0)) ag)))
 (ak (bL (cW (tm K) (ax K (pv 1)) (gr J) QE)
 (ak (stX 3 C9.nd (Ce (SE (Ca M (ax K (pv 1)) (ax K (pv 0)))) (tP (rh vR (pv 2) aD QE))))
 (aq (aK (pR (ez (pv 3)) (gi G.MG) aD))))
 de)
 (ak (bL (PW.pt (gS (cW (fz K z) (ax K (pv 1)) dX QE) (ju (cW (fz K z) (ax K (pv 0)) aD QE))))
 (aq (aK (gi G.AM)))
 de)
 (ak (bL (PW.pt (gS (cW (fz K z) (ax K (pv 1)) dX QE) (ju (cW (fz K z) (ax K (pv 0)) (gi G.Mv) QE))))
 (aq (aK (gi G.AM)))
 de)
 (aq (aK (pR (cW (fz K z) (pv 2) (gi G.Mw) QE) (gi G.MI) aD)))))))),?_⟩
 k_in;cases o with
 |none=>have x:v= .a9:=x;subst x;lk;show k
 |some e=>
 show ai x λa p j=>vy j λX Z na pa t _=>?_;clear j;subst x p;lk;show dB m.obj B (G.hU _ QC) rfl ?_;exists _,.inl ⟨_,aj.of D,rfl⟩;rw[ay,y];have k:Q (vn (if isSet e.kind=true then(if(b.get e.kind).isSome=true\/b.parts≠ []then 2 else 0)else if e.kind="end"/\b.depth=0 then 3 else if e.kind="if"/\b.depth=4 then 3 else if b.parts.length=40 then 4 else 0)) H:=k;show dB t n (G.fL _ QC) rfl ?_;show aZ U _ ⟨rfl,.inr (L.sq H),rfl,rfl,?_⟩;rw[show(if false=true then !ig (V.str e.kind) [.str "width",.str "lines",.str "head",.str "foot"]else ig (V.str e.kind) [.str "width",.str "lines",.str "head",.str "foot"])=isSet e.kind by rw[QH dP];show GB e.kind];by_cases O:isSet e.kind=true
 .k_in;rw[QG O]at k ⊢;k_in;show dB t n (G.fL _ QC) rfl ?_;show dB m.obj B (G.hU _ QC) rfl ?_;show aZ T _ ⟨rfl,fN.k (k:= .inr e.kind) I,?_⟩;rw[(u e.kind).US];by_cases d:(b.get e.kind).isSome=true
  .rw[QG (.inl d)]at k;k_in;rw[QG d];show k
  k_in;rw[QH d];by_cases g:b.parts= []
  .rw[QH (λh=>h.elim d λh=>h g)]at k;rw[QH (by rw[g];decide)];show k
  .rw[QG (.inr g)]at k;have:=qo.mpr g;show dw (QI QA) ?_;show k
 .k_in;rw[QH O]at k ⊢;have fin:Q (vn (if b.parts.length=40 then 4 else 0)) H->(if decide ((b.parts.length:Int)=40)=true then Q (V.int 4) H else Q (V.int 0) H):=λk=>by
   by_cases c:b.parts.length=40
   .rw[QG c]at k;show dw (QI QA) ?_;show k
   .rw[QH c]at k;show dJ (QJ QA) ?_;show k
  show dB t n (G.fL _ QC) rfl ?_;k_in;by_cases d:e.kind="end"
  .show dw (QI d) ?_;show dB m.obj B (G.hU _ QC) rfl ?_;k_in;by_cases g:b.depth=0
   .rw[QG ⟨d,g⟩]at k;show dw (QI QA) ?_;show k
   rw[QH (λh=>g h.2)]at k;show dJ (QJ QA) ?_;show dB t n (G.fL _ QC) rfl ?_;k_in;have l:¬e.kind="if":=λh=>by rw[h]at d;show absurd d QB
   rw[QH (λh=>l h.1)]at k;show dJ (QJ l) ?_;show fin k
  .rw[QH (λh=>d h.1)]at k;show dJ (QJ d) ?_;show dB t n (G.fL _ QC) rfl ?_;k_in;by_cases l:e.kind="if"
   .show dw (QI l) ?_;show dB m.obj B (G.hU _ QC) rfl ?_;k_in;by_cases g:b.depth=4
    .rw[QG ⟨l,g⟩]at k;show dw (QI QA) ?_;show k
    .rw[QH (λh=>g h.2)]at k;show dJ (QJ QA) ?_;show fin k
   .rw[QH (λh=>l h.1)]at k;show dJ (QJ l) ?_;show fin k
def u1(rd:fH)(i:Nat)(o:Option dZ):fH×Nat×Nat:=if iq rd o≠0 then(rd,i,iq rd o)else match o with
 |none=>(rd,0,0)
 |some e=>(hZ rd e,0,0)
def VQ(ad:Ad):Sp:=λg H Q _=>∃(r f d pl:ab)(rd:fH)(i:Nat)(o:Option dZ)(v:V)(c:Hp),g= [.ref r,vn i,v]/\ah c H/\ko ad c r f d pl rd 0 0/\kY ad (off [r,d,pl] c) o v/\rd.n<=100000/\rd.parts.length<=40/\
 ∀e a,ah a e->(∀b,b∉ [r,d,pl]->e b=H b/\a b=c b)->ko ad a r f d pl (u1 rd i o).1 (u1 rd i o).2.1 (u1 rd i o).2.2->Q .a9 e
def RX(G:bh K mg ad):bu P w K mg base 2 "read_entry" ["reading","number","entry"] (VQ ad):=by
 show G.OH.hsX Kf λf a0 A b1 s H vs Q E hr h=>?_;show kB h λr L g d c i o v X B=>e0_7 B λS C M ho hn b2 k=>?_;clear B;subst h S;have hu:=hr.units;have b0:(A.deeper (envOfC "read_entry" (aS CK) s.heap.objs.size f a0)).units+1<cLine:=QA;show ai G.Fj λse a4 a5=>?_;show bA M.sets λO p T l=>?_;show ai M.parts λZ m t=>?_;have J:=G.tG.cl;have C2:=G.ij.cl;have j:=M.mono C;have x:r≠g:=kI M.obj p (λq=>nomatch q);have u:r≠d:=kI M.obj m (λq=>nomatch q);have W:g≠d:=kI p m (λq=>nomatch q);show⟨_,(ak (stX 3 Kf.nd (pqX (R6 G) hr (ae (pv 0) (ae (pv 2) ag))))
 (aq (bL (cW (pM K hu) (pv 3) aD QE)
 (ak (gu K (pv 0) (pv 1))
 (aq (gu K (pv 0) (pv 3))))
 (aq (bL (cW (tm K) (ax K (pv 2)) (gr a4) QE)
  (aq (vZ b0 (ax K (pv 0)) (ax K (pv 2)) (pv 2) rfl))
  (ak (dR (gI K (ax K (pv 0)) (pv 2)))
  (aq (gu K (pv 0) (pqX (RM G) hr (ae (ax K (pv 0)) (ae (ax K (pv 2)) ag))))))))))),?_⟩
 lk;show gy r L g d c 0 0 o ⟨v,rfl,j,ho.mono (fX.trans C),?_⟩;lk;unfold u1 at k;by_cases y:iq c o=0
 .rw[QH (not_not_intro y)]at k;rw[QH (by rw[QI QA];show dP)];cases o with
  |none=>show absurd (show(1:Nat)=0 from y) QB
  |some e=>
  show ai ho λa R hE=>?_;subst ho R;show vy (id hE) λex la na pa he b3=>?_;have a3:=(nA he).1;have F:=C _ _ a3;show dB F C2 (G.fL _ QC) rfl ?_;show aZ se _ ⟨rfl,.inr (a5.sq H),rfl,rfl,?_⟩;rw[show(if false=true then !ig (V.str e.kind) [.str "width",.str "lines",.str "head",.str "foot"]else ig (V.str e.kind) [.str "width",.str "lines",.str "head",.str "foot"])=isSet e.kind by rw[QH dP];show GB e.kind];have k:∀H' D,ah D H'->(∀b,b∉ [r,g,d]->H' b=H b/\D b=X b)->ko ad D r L g d (hZ c e) 0 0->Q .a9 H':=k;unfold hZ at k;by_cases c2:isSet e.kind=true
  .lk;rw[QG c2]at k ⊢;unfold tW;lk;show dB j.obj J (G.hU _ QC) rfl ?_;show dB F C2 (G.fL _ QC) rfl ?_;exists g,rfl,_,lQ.k (k:= .inr e.kind) (C _ _ p) (by rw[aQ];lia);show k _ (upd X g (.dK (putK O (.inr e.kind) (.ref a)))) (wK C) (λb N=>?_) ⟨?_,⟨_,ar,?_,λkey=>?_⟩,Z,?_,?_⟩
   .have:b≠g:=λq=>N (by simp[q]);show⟨az this,az this⟩
   .rw[az x];show M.obj
   .have:=tK O (.inr e.kind:Key) (.ref a);show _<=c.n+1;lia
   .rw[nB QD];by_cases c3:key=e.kind
    .subst c3;show jS ad _ _ _ (if e.kind=e.kind then some e else c.get e.kind);rw[QG rfl];show⟨a,by rw[DI,QG rfl],hE⟩
    .show jS ad _ _ _ (if key=e.kind then some e else c.get key);rw[QH c3];have:=l key;have e2:dm (putK O (.inr e.kind) (.ref a)) (.inr key)=dm O (.inr key):=by rw[DI,QH (j4 c3)]
     cases hg:c.get key with
     |none=>rw[hg]at this;show e2.trans this
     |some e'=>rw[hg]at this;show ai this λa' h1 h2=>?_;clear this;show⟨a',e2.trans h1,h2⟩
   .rw[az W.symm];show m
   .rw[nB QD];show t
  .lk;rw[QH c2]at k ⊢;lk;show dB j.obj J (G.hU _ QC) rfl ?_;have z:=C _ _ m;have U:=Paired.length t;show⟨.inl ⟨rfl,_,aj.of z⟩,aJ d _ _ ⟨rfl,rfl,z,by rw[ay,U,aQ];lia,?_⟩⟩;generalize Y:upd H d _=H1;have r1:H1 r=some (.ins ad.kq L (rD (.ref g) (.ref d) (vn c.depth) (vn 0) (vn 0))):=by rw[<-Y,az u];show j.obj
   have a1:H1 a=some (.ins ad.Entry ex (A4 (.str e.kind) (.ref la) (vn e.number) (.ref na) (.ref pa))):=by rw[<-Y,az (λq=>(nA he).2 (by simp[q]))];show F
   show dB r1 J (G.hU _ QC) rfl ?_;show dB a1 C2 (G.fL _ QC) rfl ?_;show aZ c.depth e.kind ⟨rfl,λh=>?_,?_⟩
   .unfold iq at y;dsimp only at y;rw[QH c2]at y;by_cases c5:c.depth=0
    .rw[QG ⟨h,c5⟩]at y;cases y
    .lia
   show aJ _ _ _ ⟨r1,J,G.hU _ QC,(by show 5<1000;decide),?_⟩;show k _ (upd (upd X d (.lst (Z.map V.ref++[.ref a]))) r (.ins ad.kq L (rD (.ref g) (.ref d) (vn (if e.kind="if"then c.depth+1 else if e.kind="end"then c.depth-1 else c.depth)) (vn 0) (vn 0)))) ?_ (λb N=>?_) ⟨?_,⟨O,?_,T,λkey=>?_⟩,Z++[a],?_,?_⟩
   .rw[<-Y];show wK (wK C)
   .have n1:b≠d:=λq=>N (by simp[q]);have I:b≠r:=λq=>N (by simp[q]);show⟨by rw[az I,<-Y,az n1],by rw[az I,az n1]⟩
   .rw[ar]
   .rw[az x.symm,az W];show p
   .rw[nB QD,nB QD];show l key
   .rw[az u.symm,ar,hY]
   .rw[nB QD,nB QD];show L2.Paired.snoc hE t
 .rw[QG y]at k;rw[QG (by rw[QJ QA];rfl)];show aJ _ _ _ ⟨j.obj,J,G.hU _ QC,(by show 5<1000;decide),aJ _ _ _ ⟨ar,J,G.hU _ QC,(by show 5<1000;decide),?_⟩⟩;show k _ (upd (upd X r (.ins ad.kq L (rD (.ref g) (.ref d) (vn c.depth) (vn i) (vn 0)))) r (.ins ad.kq L (rD (.ref g) (.ref d) (vn c.depth) (vn i) (vn (iq c o))))) (wK (wK C)) (λb N=>?_) ⟨ar,⟨O,?_,T,λkey=>?_⟩,Z,?_,?_⟩
  .have I:b≠r:=λq=>N (by simp[q]);show⟨by rw[az I,az I],by rw[az I,az I]⟩
  .rw[az x.symm,az x.symm];show p
  .rw[nB QD,nB QD];show l key
  .rw[az u.symm,az u.symm];show m
  .rw[nB QD,nB QD];show t
def oC:fH:=⟨λ_=>none,[],0,0⟩
def jH:Nat->fH->List (List Nat)->fH×Nat×Nat
 |i,a,[]=>if 0<a.depth then(a,i,3)else(a,0,0)
 |i,a,l::ls=>if l= []\/l.head? =some 35 then jH (i+1) a ls else if iq a (readLine l)≠0 then(a,i,iq a (readLine l))else match readLine l with
  |none=>(a,i,1)
  |some e=>jH (i+1) (hZ a e) ls
def Wd(rd:fH)(e:dZ):(hZ rd e).n<=rd.n+1:=by
 unfold hZ;split
 .show bo _
 .show nN _
def We{rd:fH}{e:dZ}(h:iq rd (some e)=0)(d:rd.parts.length<=40):(hZ rd e).parts.length<=40:=by
 unfold hZ;unfold iq at h;dsimp only at h;split
 .show d
 .rename_i c;rw[QH c]at h;show(rd.parts++[e]).length<=40;rw[aP];have:¬rd.parts.length=40:=λq=>by
   by_cases a:e.kind="end"/\rd.depth=0
   .rw[QG a]at h;cases h
   .rw[QH a]at h;by_cases b:e.kind="if"/\rd.depth=4
    .rw[QG b]at h;cases h
    .rw[QH b,QG q]at h;cases h
  show rd.parts.length+1<=40;lia
def Pk{l:List (List Nat)}{x:List Nat}(h:x∈Rt.nW l):x∈l:=by
 unfold Rt.nW at h;split at h
 .show(List.dropLast_sublist l).subset h
 .show h
def drop_len(l:List (List Nat)):(Rt.nW l).length<=l.length:=by
 unfold Rt.nW;split
 .rw[w8];lia
 .show bo _
def vK(t:List Nat):(gA t).length<=t.length+1/\∀l∈gA t,l.length<=t.length:=by rw[Rt.BJ];show⟨dE (drop_len _) (Dk 10 t),λl a=>zg (Pk a)⟩
def VU(ad:Ad):Sp:=λg H Q _=>∃(c:ab)(a:List Nat),g= [.ref c]/\L2.Row H c a/\a.length<=50000/\
 ∀r d f e b,ah H b->ko ad (nw [] H b) r d f e (jH 1 oC (gA a)).1 (jH 1 oC (gA a)).2.1 (jH 1 oC (gA a)).2.2->Q (.ref r) b
def R3(G:bh K mg ad)(T:pb P w K mg):bu P w K mg base 7 "read_template" ["text"] (VU ad):=by
 show G.ON.hsX wz λf h5 A g6 s H vs Q E hr h=>?_;show fO h λta text F f7 hz k=>?_;subst h F;have hu:=hr.units;have C1:=G.tG.cl;show⟨_,(ak (stX 1 wz.nd (Ia (RB G) (hr.mono QB)))
 (ak (stX 2 wz.nd (pqX (B0 G) hr (ae (pv 0) ag)))
 (ak (fA rfl (Qc K G.EU (ae (pv 2) ag)) (ya K rfl (nF (gnX 3 wz.nd) (nF (gnX 4 wz.nd) vV)))
 (ak (bL (ez (pqX (RR G) hr (ae (pv 4) ag)))
  (aq (dR (pqX (RX G) hr (ae (pv 1) (ae (pv 3) (ae (pqX (RZ G T) hr (ae (pv 4) ag)) ag))))))
  de)
 (aq (bL (cW (pM K hu) (ax K (pv 1)) aD QE)
  (aq (aK (pv 1)))
  de))))
 (ak (bL (cW vR (ax K (pv 1)) aD QE)
 (ak (gu K (pv 1) (cU ik (di (eK K) QE G.dN dO (ae (pv 2) ag)) aD))
 (aq (gu K (pv 1) (gi G.AM))))
 de)
 (aq (aK (pv 1))))))),?_⟩
 dsimp only[bg,bf,iU,a7,aL,aR,aY];k_in;intro r t p e3 h6;generalize e2:upd (upd H t (.own r)) r (.ins ad.kq t [])=H2;have s2:ah H H2:=by rw[<-e2];show((ah.refl H).upd e3).upd p
 have r2:H2 r=some (.ins ad.kq t []):=vN e2;show aZ r t ⟨rfl,r2,λH3 m j a5 f6 f5 h7 N M b3=>⟨rfl,?_⟩⟩;have s3:ah H H3:=b3.same s2 p;have y:=s2.free f6;have u:=s2.free f5;show aZ ta text ⟨rfl,s3 _ _ f7,QA,λlq H4 b0 D s4 Z a0 Y=>?_⟩;have g7:=s3.trans s4;generalize hL:gA text=a at *;have b7:a.length<=50001/\∀l∈a,l.length<=50000:=by rw[<-hL];have:=vK text;show⟨QA,λl hl=>by have:=this.2 l hl;lia⟩
 have R4:ko ad (nw [] H H4) r t m j oC 0 0:=by
  show⟨?_,⟨[],?_,cT _,λkey=>rfl⟩,[],?_,.nil⟩
  .rw[d9 p];show s4 _ _ a5
  .rw[d9 y];show s4 _ _ N
  .rw[d9 u];show s4 _ _ M
 have g5:∀b∈b0,b∉ [r,m,j]:=λb C R=>by
  have h:=Y b C;simp only[bG,gz,or_false]at R;rcases R with q | q | q
  .rw[q,a5]at h;cases h
  .rw[q,N]at h;cases h
  .rw[q,M]at h;cases h
 have b8:=Paired.length a0;have oH:∀{H'},ah (off [r,m,j] H4) H'->ah H H':=λ{H'} q b o e=>q b o (by
  rw[off_ne]
  .show g7 b o e
  .intro R;simp only[bG,gz,or_false]at R;rcases R with q | q | q
   .rw[q,p]at e;cases e
   .rw[q,y]at e;cases e
   .rw[q,u]at e;cases e)
 have c8:lq∉ [r,m,j]:=λR=>by
  simp only[bG,gz,or_false]at R;rcases R with q | q | q
  .rw[q,a5]at D;cases D
  .rw[q,N]at D;cases D
  .rw[q,M]at D;cases D
 have c9:off [r,m,j] H4 lq=some (.lst (b0.map V.ref)):=by rw[off_ne c8];show Z
 dsimp only[gT,Gw,aL,aR];show aZ lq _ ⟨rfl,aj.of Z,PK (xs:=b0.map V.ref) (λi σ H'=>∃u3 u4 d,σ= [some (.ref ta),some (.ref r),some (.ref lq),u3,u4]/\ah (off [r,m,j] H4) H'/\ko ad (nw [] H H') r t m j d 0 0/\d.n<=i/\d.parts.length<=40/\jH 1 oC a=jH (i+1) d (a.drop i)) ⟨none,none,oC,rfl,fX,R4,bo _,cT _,rfl⟩ (λi σ H' _ g0=>gJ g0 λ_ _ _ _ q _=>aj.of (q _ _ c9)) ?_ ?_⟩
 .rintro i x σ H' Tq hx ⟨u3,u4,d,rfl,sO,W,hn,hp,heq⟩ e1;show ai (fW hx) λla J F=>?_;subst F;show ai (Paired.get' a0 J) λl a4 c7=>?_;have e4:=(dW.mp a4).1;rw[kQ e4,show a[i]=l from(dW.mp a4).2]at heq;have e8:l∈a:=dD a4;generalize e5:upd H' Tq _=H5;have s5:=sN e5 e1;have d1:=sO.trans s5;have L:=g5 la (dD J);have X:L2.Row H5 la l:=d1 _ _ (by rw[off_ne L];show c7);have d3:ko ad (nw [] H H5) r t m j d 0 0:=W.mono (oo s5 λ_ h=>h);have hN:jH (i+1) d (l::a.drop (i+1))=if l= []\/l.head? =some 35 then jH (i+1+1) d (a.drop (i+1))else if iq d (readLine l)≠0 then(d,i+1,iq d (readLine l))else match readLine l with
   |none=>(d,i+1,1)
   |some e=>jH (i+1+1) (hZ d e) (a.drop (i+1)):=rfl
  rw[hN]at heq;k_in;show aZ la l ⟨rfl,X,λH6 s6=>?_⟩;have B:ko ad (nw [] H H6) r t m j d 0 0:=d3.mono (oo s6 λ_ h=>h);have b1:=d1.trans s6;show ?_;k_in;by_cases S:l= []\/l.head? =some 35
  .rw[QG S]at heq;rw[QH (by
    rcases S with c | c
    .rw[QI c];show dP
    .rw[QI c,Bool.or_true];show dP)]
   show dB (jt _ _ B.obj) C1 (G.hU _ QC) rfl ?_;lk;show aZ _ _ ⟨⟨rfl,rfl⟩,b1,d,B,QA,hp,heq⟩
  rw[QH S]at heq;rw[QG (by have c2:¬l= []:=λh=>S (.inl h);have c3:¬l.head? =some 35:=λh=>S (.inr h);rw[QJ c2,QJ c3];rfl)]
  show aZ la l ⟨rfl,s6 _ _ X,by have:=b7.2 l e8;lia,λv H7 s7 hv=>?_⟩;have h8:=s7;have g8:=b1.trans s7;have b5:H la=none:=s3.free (Y la (dD J));have d8:ko ad (nw [] H H7) r t m j d 0 0:=B.mono (oo s7 λ_ h=>h);have g4:∀b∈ [r,m,j],H6 b≠none:=λb C=>by
   simp only[bG,gz,or_false]at C;show ai B.sets λks h1 _=>?_;show ai B.parts λps I _=>?_;rcases C with q | q | q
   .rw[q,jt _ _ B.obj];show λz=>nomatch z
   .rw[q,jt _ _ h1];show λz=>nomatch z
   .rw[q,jt _ _ I];show λz=>nomatch z
  have f9:kY ad (off [r,m,j] (nw [] H H7)) (readLine l) v:=hv.mono λb o e=>by
   obtain⟨h1,I⟩:=my e;rcases I with I | I
   .rw[off_ne (λR=>g4 b R I),d9 ((oH b1).free I)];show h1
   .obtain rfl:b=la:=by simpa using I
    rw[off_ne L,d9 b5];show h1
  show gy r t m j d (i+1) (readLine l) v ⟨nw [] H H7,rfl,jt,d8,f9,QA,hp,λH8 g9 s8 O e0=>?_⟩;have d2:ah (off [r,m,j] H4) H8:=λb o e=>by rw[(O b (nA e).2).1];show g8 _ _ e
  have c0:∀b∈ [r,m,j],H b=none:=λb C=>by
   simp only[bG,gz,or_false]at C;rcases C with q | q | q
   .rw[q];show p
   .rw[q];show y
   .rw[q];show u
  have g:=e0.mono (H':=nw [] H H8) λb o e=>by
   by_cases C:b∈ [r,m,j]
   .rw[d9 (c0 b C)];show s8 _ _ e
   .have e2:=e;rw[(O b C).2]at e2;rcases(my e2).2 with h | h
    .rw[d9 h];show s8 _ _ e
    .show absurd h QD
  unfold u1 at g;show dB (jt _ _ g.obj) C1 (G.hU _ QC) rfl ?_;lk;by_cases U:iq d (readLine l)=0
  .rw[QH (not_not_intro U)]at g heq;rw[QH (not_not_intro U)];cases c6:readLine l with
   |none=>rw[c6]at U;show absurd (show(1:Nat)=0 from U) QB
   |some e=>rw[c6]at g heq U;show aZ _ _ ⟨⟨rfl,rfl⟩,d2,hZ d e,g,by have:=Wd d e;lia,We U hp,heq⟩
  .rw[QG U]at g heq;rw[QG U];dsimp only;rw[QG (by rw[QJ QA];rfl)];show k r t m j H8 (oH d2) ?_;rw[heq];show g
 .intro σ H' a3;show nj a3 λu3 u4 d b2 sO W hn hp heq=>?_;subst a3 b2;rw[ay,b8,rW]at heq;rw[show jH (a.length+1) d []=if 0<d.depth then(d,a.length+1,3)else(d,0,0)from rfl]at heq;k_in;have ho:=jt _ _ W.obj;show dB ho C1 (G.hU _ QC) rfl ?_;show ?_;k_in;by_cases S:0<d.depth
  .rw[QG S]at heq;show dw (QI QA) ?_;show⟨_,.inl ⟨_,aj.of (sO _ _ c9),rfl⟩,aJ _ _ _ ⟨ho,C1,G.hU _ QC,(by show 5<1000;decide),aJ _ _ _ ⟨ar,C1,G.hU _ QC,(by show 5<1000;decide),?_⟩⟩⟩;rw[ay,b8];generalize e9:upd (upd H' r _) r _=H9;have r9:H9 r=some (.ins ad.kq t (rD (.ref m) (.ref j) (vn d.depth) (vn (a.length+1)) (vn 3))):=vN e9;have n9:∀b,b≠r->H9 b=H' b:=λb C=>by rw[<-e9,az C,az C]
   have m9:ah (off [r,m,j] (nw [] H H')) (off [r,m,j] (nw [] H H9)):=λb o e=>by
    obtain⟨h1,I⟩:=nA e;obtain⟨h3,h4⟩:=my h1;rw[off_ne I];rcases h4 with h4 | h4
    .rw[d9 h4,n9 b (λq=>I (by simp[q]))];show h3
    .show absurd h4 QD
   show bA W.sets λks b4 e6 e7=>?_;show ai W.parts λps c5 f3=>?_;show k r t m j H9 (λb o e=>by rw[n9 b (eu e p)];show oH sO b o e) ?_;rw[heq];show⟨?_,⟨ks,?_,e6,λkey=>(e7 key).mono m9⟩,ps,?_,Paired.dS f3 λ_ _ q=>q.mono m9⟩
   .rw[d9 p];show r9
   .rw[d9 y,n9 m (kI b4 W.obj (λq=>nomatch q))];show(my b4).1
   .rw[d9 u,n9 j (kI c5 W.obj (λq=>nomatch q))];show(my c5).1
  .rw[QH S]at heq;show dJ (QJ QA) ?_;show k r t m j H' (oH sO) ?_;rw[heq];show W
def jq(x:Nat×Nat):Key×V:=(.inl (x.1:Int),vn x.2)
structure An(ks:List (Key×V))(tells:List (Nat×Nat)):Prop where
 ex:∃L:List (Nat×Nat),ks=L.map jq/\L.Perm tells
 nd:(tells.map (·.1)).Pairwise (·<·)
 small:∀x∈tells,x.1<60/\x.2<1000
 d6:tells.length<=60
def kr(ad:Ad)(H:Hp)(a:ab)(s:lg):Prop:=∃(d b c:ab)(ks:List (Key×V)),H a=some (.ins ad.Sent d (Dh (vn s.kind) (vn s.reader) (vn s.person) (vn s.pages) (.ref b) (.ref c)))/\L2.Row H b s.bytes/\H c=some (.dK ks)/\An ks s.tells
def kr.mono{H H':Hp}{a:ab}{t:lg}(s:ah H H'):kr ad H a t->kr ad H' a t:=λb=>kA b λc i j h d e f g=>⟨c,i,j,h,s _ _ d,s _ _ e,s _ _ f,g⟩
structure k4(ks:List (Key×V))(f:Nat->Option Nat):Prop where
 nat:∀kv∈ks,∃a v:Nat,kv=(.inl (a:Int),vn v)
 nd:(ks.map (·.1)).Nodup
 val:∀a:Nat,dm ks (.inl (a:Int))=(f a).map vn
def Th{ks:List (Key×V)}{k:Key}{v:V}(h:(ks.map (·.1)).Nodup):((putK ks k v).map (·.1)).Nodup:=by
 unfold putK;split
 .rw[gd];have:((λx:Key×V=>x.1) ∘ λd:Key×V=>if d.1=k then(d.1,v)else d)=λx=>x.1:=by funext x;show(if x.1=k then(x.1,v)else x).1=x.1;split<;>rfl
  rw[this];show h
 .rename_i c;rw[fk,w9];show⟨h,QD,λa i b j=>?_⟩;obtain rfl:b=k:=by simpa using j
  intro e;subst e;show ai (dM.mp i) λd f g=>?_;show c (zN.mpr ⟨d,f,QI g⟩)
def k4.put{ks:List (Key×V)}{f:Nat->Option Nat}(h:k4 ks f)(n v:Nat):k4 (putK ks (.inl (n:Int)) (vn v)) (λa=>if a=n then some v else f a):=by
 show⟨λg b=>?_,Th h.nd,λa=>?_⟩
 .unfold putK at b;split at b
  .show ai (dM.mp b) λx e d=>?_;subst d;by_cases c:x.1= .inl (n:Int)
   .rw[QG c,c];show aZ n v rfl
   .rw[QH c];show h.nat x e
  .rcases eA.mp b with e | e
   .show h.nat g e
   .obtain rfl:g=_:=by simpa using e
    show aZ n v rfl
 .rw[DI];by_cases c:a=n
  .subst c;rw[QG rfl,QG rfl];rfl
  .rw[QH (λq=>c (by have:=Sum.inl.inj q;lia)),QH c];show h.val a
def k4.of{ks:List (Key×V)}{f g:Nat->Option Nat}(h:k4 ks f)(e:∀a,f a=g a):k4 ks g:=⟨h.nat,h.nd,λa=>by rw[<-e a];show h.val a⟩
def find_none{L:List (Nat×Nat)}{n:Nat}(h:n∉L.map (·.1)):L.find? (λx=>x.1==n)=none:=by rw[zQ];intro x a e;show h (dM.mpr ⟨x,a,by simpa using e⟩)
def pK(L:List (Nat×Nat))(f:Nat->Option Nat)(a:Nat):Option Nat:=Rt.pJ (L.find? λx=>x.1==a) (f a)
def Ra{L:List (Nat×Nat)}{f:Nat->Option Nat}{j n v:Nat}(e:L[j]? =some (n,v))(d:(L.map (·.1)).Nodup)(a:Nat):(if a=n then some (max v ((pK (L.take j) f n).getD 0))else pK (L.take j) f a)=pK (L.take (j+1)) f a:=by
 have g:n∉(L.take j).map (·.1):=λh=>by have b:=(dW.mp e);rw[<-jQ j L,fk,w9]at d;show d.2.2 n h n ?_ rfl;rw[kQ b.1,b.2];simp
 unfold pK;rw[take_snoc e,List.find?_append];by_cases c:a=n
 .subst c;rw[QG rfl,find_none g];show some (max v ((Rt.pJ none (f a)).getD 0))=Rt.pJ ((List.find? (λx=>x.1==a) [(a,v)])) (f a);rw[show List.find? (λx:Nat×Nat=>x.1==a) [(a,v)]=some (a,v)by simp];cases k:f a with
  |none=>simp[Rt.pJ]
  |some y=>simp[Rt.pJ]
 .rw[QH c];have:List.find? (λx:Nat×Nat=>x.1==a) [(n,v)]=none:=by
   rw[zQ];intro x i;obtain rfl:x=(n,v):=by simpa using i
   simpa using λq=>c q.symm
  rw[this,Option.or_none]
def find_perm{L M:List (Nat×Nat)}(h:L.Perm M)(g:(M.map (·.1)).Nodup)(a:Nat):L.find? (λx=>x.1==a)=M.find? λx=>x.1==a:=by
 have f:(L.map (·.1)).Nodup:=(h.map (·.1)).nodup_iff.mpr g;have key:∀{A:List (Nat×Nat)},(A.map (·.1)).Nodup->∀x∈A,x.1=a->A.find? (λx=>x.1==a)=some x:=by
  intro A;induction A with
  |nil=>intro _ x b;show nomatch b
  |cons y A k=>
   intro d x b e;rw[eD,mU]at d;rw[mS];rcases bG.mp b with rfl | b
   .rw[show(x.1==a)=true by simpa using e]
   .have:¬y.1=a:=λq=>d.1 (dM.mpr ⟨x,b,by rw[e,q]⟩);rw[show(y.1==a)=false by simpa using this];show k d.2 x b e
 cases c:M.find? (λx=>x.1==a)with
 |none=>rw[zQ]at c ⊢;show λx b=>c x (h.mem_iff.mp b)
 |some x=>
  have i:=Ll c;have j:x.1=a:=by simpa using List.find?_some c
  show key f x (h.mem_iff.mpr i) j
structure D0(ad:Ad)(H:Hp)(lab:ab)(ss:List lg):Prop where
 ex:∃(dx t a sl:ab)(sas:List ab),H lab=some (.ins ad.jh dx (nv (.ref t) (.ref a) (.ref sl)))/\H sl=some (.lst (sas.map V.ref))/\Paired (kr ad H) sas ss
 d6:ss.length<=1000
def V5(ad:Ad):Sp:=λe H Q _=>∃(a:ab)(r:Nat)(d:List lg),e= [.ref a,vn r]/\D0 ad H a d/\∀q b c,H q=none->ah H b->b q=some (.dK c)->k4 c (Rt.ka d r)->Q (.ref q) b
def B3(G:bh K mg ad):bu P w K mg base 1 "told_to" ["laboratory","reader"] (V5 ad):=by
 show G.O5.hsX wD λf c7 A e7 s H vs Q E hr h=>?_;show gJ h λc3 r W l c5 k=>?_;subst h l;obtain⟨⟨dx,t,a,sl,e8,b1,b5,b7⟩,hz⟩:=c5;have hu:=hr.units;have c2:(A.deeper (envOfC "told_to" (aS CP) s.heap.objs.size f c7)).units+1<cLine:=QA;show⟨_,(ak (stX 2 wD.nd vU)
 (ak (fA rfl (fV K (ax K (pv 0))) (gnX 3 wD.nd)
 (aq (bL (cW (fz K hu) (ax K (pv 3)) (pv 1) QE)
  (aq (Te (fA rfl (SQ (ax K (pv 3))) (ya K rfl (nF (gnX 4 wD.nd) (nF (gnX 5 wD.nd) vV)))
   (aq (vZ c2 (pv 2) (pv 4) (di (Fo rfl) QE G.EV E5 (ae (pv 5) (ae (SF c2 (pv 2) (pv 4) aD ⟨rfl,rfl,rfl,rfl⟩) ag))) rfl)))))
  de)))
 (aq (aK (pv 2))))),?_⟩
 dsimp only[bg,bf,bN,aY];intro q hq;generalize e1:upd H q _=H1;have s1:=sN e1 hq;have e3:H1 q=some (.dK []):=vN e1;k_in;dsimp only[gT,iC];show aLaboratoryX G (s1 _ _ b1) ?_;show⟨sl,rfl,⟨_,aj.of (s1 _ _ b5)⟩,forL (xs:=e8.map V.ref) (λi σ O=>∃u3 X Y F,σ= [some (.ref c3),some (vn r),some (.ref q),u3,X,Y]/\ah H O/\O q=some (.dK F)/\k4 F (Rt.ka (W.take i) r)/\F.length<=64*i) ⟨none,none,none,[],rfl,s1,e3,⟨QD,QD,λa=>rfl⟩,cT _⟩ (λi σ O _ R=>kz R λ_ _ _ _ b4=>cY b4 λ_ q _=>aj.of (q _ _ b5)) ?_ ?_⟩
 .intro i x σ O hx J;show jb J λu3 X Y F m U D hT d2=>?_;subst J m;show ai (fW hx) λb d1 Z=>?_;subst Z;show ai (Paired.get' b7 d1) λth c0 hS=>?_;have e9:=(dW.mp c0).1;show kA hS λdy rl g tk g1 g2 g3 g4=>?_;clear hS;obtain⟨⟨L,rfl,c⟩,d8,f6,a4⟩:=g4;have I:(th.tells.map (·.1)).Nodup:=d8.imp λh=>eU h;have b3:(L.map (·.1)).Nodup:=(c.map (·.1)).nodup_iff.mpr I;have B:∀a,Rt.ka (W.take (i+1)) r a=if th.reader=r then pK L (Rt.ka (W.take i) r) a else Rt.ka (W.take i) r a:=λa=>by rw[take_snoc c0,Rt.WI];unfold pK;rw[find_perm c I a]
  k_in;show aSentX G (U _ _ g1) ?_;lk;rw[vp];by_cases c1:th.reader=r
  .show dw (QI c1) ?_;have e6:=U _ _ g3;have y:q≠g:=λe=>by rw[e,g3]at hq;cases hq
   show aZ g _ ⟨e6,trivial,λod=>?_⟩;generalize e2:upd O g _=H2;have c6:H2 g=some (.fe od (.dK (L.map jq))):=vN e2;have s2:ah (off [g] H) H2:=λb o e=>by obtain⟨h1,h2⟩:=nA e;rw[<-e2,az (λz=>h2 (by simp[z]))];show U _ _ h1
   have e5:H2 q=some (.dK F):=by rw[<-e2,az y];show D
   have a3:b≠g:=kI g1 g3 (λz=>nomatch z);dsimp only[gT,Gx];have c8:off [g] H b=_:=(off_ne (by simp[a3])).trans g1;show aSentX G (s2 _ _ c8) ?_;have f5:L.length<=60:=by rw[c.length_eq];show a4
   show aJ g od _ ⟨rfl,c6,PL (λj σ C=>∃X Y d,σ= [some (.ref c3),some (vn r),some (.ref q),some (.ref b),X,Y]/\ah (off [g] H) C/\C g=some (.fe od (.dK (L.map jq)))/\C q=some (.dK d)/\k4 d (pK (L.take j) (Rt.ka (W.take i) r))/\d.length<=64*i+j) ⟨X,Y,F,rfl,s2,c6,e5,hT.of λa=>rfl,QA⟩ (λj σ C _ R=>iN R λ_ _ _ _ _ z _=>z) ?_ ?_⟩
   .rintro j kk vv σ H3 T0 b0 ⟨v4,v5,d,rfl,s3,S,u,p,a5⟩ c9;rw[eP]at b0;show ai (mX.mp b0) λc4 a0 e0=>?_;obtain⟨n,v⟩:=c4;cases e0;have f3:=(dW.mp a0).1;generalize e4:upd H3 T0 _=H4;have s4:=sN e4 c9;unfold tW;lk;dsimp only[bF,aL,aR,KG];lk;exists .inl ⟨_,.inl (s4 _ _ u)⟩,_,fN.k (k:= .inl (n:Int)) (s4 _ _ u);rw[p.val n];generalize d3:pK (L.take j) (Rt.ka (W.take i) r) n=T at *;show aZ (v:Int) ((T.getD 0:Nat):Int) ⟨⟨rfl,by cases T<;>rfl⟩,?_⟩;have b2:(if((T.getD 0:Nat):Int)>(v:Int)then((T.getD 0:Nat):Int)else(v:Int))=((max v (T.getD 0):Nat):Int):=by split<;>lia
    rw[b2];exists _,lQ.k (k:= .inl (n:Int)) (s4 _ _ u) (by rw[aQ];lia);have b8:g≠q:=y.symm;show aZ _ _ ⟨⟨rfl,rfl⟩,λb' o e=>?_,?_,_,ar,(p.put n (max v (T.getD 0))).of λa=>?_,?_⟩
    .rw[az (eu (fX _ _ e) hq)];show s4 _ _ (s3 _ _ e)
    .rw[az b8];show s4 _ _ S
    .rw[<-d3];show Ra a0 b3 a
    .show dE (tK d (.inl (n:Int):Key) _) QA
   .intro σ H3 M;show nj M λv4 v5 d l s3 S u p a5=>?_;subst M l;rw[ay,gk]at p;rw[ay]at a5;show⟨S,aJ _ _ _ ⟨rfl,λb' o e=>?_,d,?_,p.of λa=>by rw[B a,QG c1],QA⟩⟩
    .by_cases hb:b'=g
     .subst hb;rw[g3]at e;rw[ar];show e
     .rw[az hb];show s3 _ _ (by rw[off_ne (by simp[hb])];show e)
    .rw[az y];show u
  .show dJ (QJ c1) ?_;show aJ _ _ _ ⟨⟨rfl,rfl,rfl⟩,U,F,D,hT.of λa=>by rw[B a,QH c1],QA⟩
 .intro σ O N;show jb N λu3 X Y F m U D hT d2=>?_;subst N m;k_in;rw[ay,Paired.length b7,gk]at hT;show k q O F hq U D hT
structure mQ(ad:Ad)(H:Hp)(lab:ab)(as:List dg)(ss:List lg):Prop where
 ex:∃(dx t a sl:ab)(aas sas:List ab),H lab=some (.ins ad.jh dx (nv (.ref t) (.ref a) (.ref sl)))/\H a=some (.lst (aas.map V.ref))/\iu ad H aas (allOf as)/\H sl=some (.lst (sas.map V.ref))/\Paired (kr ad H) sas ss
 d6:ss.length<=1000
 iO:as.length<=60
 tells:∀s∈ss,∀y∈s.tells,y.1<as.length
def mQ.mono{H H':Hp}{b:ab}{as:List dg}{e:List lg}(s:ah H H')(h:mQ ad H b as e):mQ ad H' b as e:=by obtain⟨f,t,a,m,c,d,g,i,j,k,l⟩:=h.ex;show⟨⟨f,t,a,m,c,d,s _ _ g,s _ _ i,j.mono s,s _ _ k,Paired.dS l λ_ _ q=>q.mono s⟩,h.d6,h.iO,h.tells⟩
def mQ.sent{H:Hp}{b:ab}{as:List dg}{d:List lg}(h:mQ ad H b as d):D0 ad H b d:=by obtain⟨f,t,a,k,e,c,g,l,m,i,j⟩:=h.ex;show⟨⟨f,t,a,k,c,g,i,j⟩,h.d6⟩
def Az{as:List dg}{i:Nat}{x:dg}(h:as[i]? =some x):(allOf as)[i]? =some (i,x):=by unfold allOf;rw[eP,D6,h];simp
def k4.keys{ks:List (Key×V)}{f:Nat->Option Nat}(h:k4 ks f):∃c:List Nat,ks.map (·.1)=(c.map λ(n:Nat)=>(n:Int)).map Sum.inl/\c.Nodup/\(∀a,a∈c↔(f a).isSome=true):=by
 obtain⟨c,g⟩:∃c:List Nat,ks.map (·.1)=(c.map λ(n:Nat)=>(n:Int)).map Sum.inl:=by
  have o:=h.nat;clear h;induction ks with
  |nil=>show⟨[],rfl⟩
  |cons m ks s=>obtain⟨c,e⟩:=s λx r=>o x (du _ r);show ic (o m cZ) λa v j=>?_;subst j;show⟨a::c,by rw[eD,e];rfl⟩
 show⟨c,g,?_,λa=>?_⟩
 .have:=h.nd;rw[g,gd]at this;show(qv.mp this).imp λh e=>h (by rw[e])
 .have q:=h.val a;have i:(.inl (a:Int):Key)∈ks.map (·.1)↔(dm ks (.inl (a:Int))).isSome=true:=by
   rw[<-uk,zN];constructor
   .intro l;show ai (dM.mp l) λm i k=>?_;show⟨m,i,QI k⟩
   .intro d;show ai d λm i k=>?_;clear d;show dM.mpr ⟨m,i,of_decide_eq_true k⟩
  rw[q,Ag,g,gd]at i;rw[<-i];constructor
  .intro l;show dM.mpr ⟨a,l,rfl⟩
  .intro l;show ai (dM.mp l) λb k p=>?_;have:b=a:=by have t:(b:Int)=(a:Int):=Sum.inl.inj p;lia
   show this▸k
def Gf{α:Type}(p:α->Bool):∀l:List α,l.length=(l.filter p).length+(l.filter λx=> !p x).length
 |[]=>rfl
 |x::l=>by have a:=Gf p l;cases h:p x<;>simp[kR,h]<;>lia
def yp:∀{m:Nat}{ns:List Nat},ns.Nodup->(∀n∈ns,n<m)->ns.length<=m
 |0,ns,_,h=>by
  cases ns with
  |nil=>show bo _
  |cons n r=>show absurd (h n cZ) QA
 |m+1,ns,hd,h=>by
  have q:=yp (m:=m) (ns:=ns.filter λx=>x != m) (hd.filter _) λn o=>by
   obtain⟨g,i⟩:=ki.mp o;have:=h n g;have:n≠m:=by simpa using i
   lia
  have s:(ns.filter λx=>x==m).length<=1:=by
   have c:=hd.filter (λx=>x==m);have d:∀x∈ns.filter (λx=>x==m),x=m:=λx p=>by simpa using(ki.mp p).2
   generalize ns.filter (λx=>x==m)=l at *
   match l,c,d with
   |[],_,_=>show cT _
   |[_],_,_=>show bo _
   |a::b::_,c,d=>have e:=d a cZ;have f:=d b (du _ cZ);show absurd (bG.mpr (.inl (e.trans f.symm))) (mU.mp c).1
  have j:=Gf (λx=>x==m) ns;have k:(ns.filter λx=> !(x==m))=ns.filter λx=>x != m:=rfl;rw[k]at j;lia
def Ko{b:List Int}{ns:List Nat}(j:b.Perm (ns.map λ(n:Nat)=>(n:Int)))(q:b.Pairwise (·<=·))(p:ns.Nodup):∃l:List Nat,b=l.map (λ(n:Nat)=>(n:Int))/\l.Pairwise (·<·)/\∀a,a∈l↔a∈ns:=by
 have d:∀x∈b,∃n∈ns,x=(n:Int):=λx k=>by show ai (dM.mp (j.mem_iff.mp k)) λn f g=>?_;show⟨n,f,g.symm⟩
 have e:b=(b.map Int.toNat).map λ(n:Nat)=>(n:Int):=by
  rw[gd]
  conv=>lhs;rw[<-List.map_id b]
  show oT λx k=>?_;show ai (d x k) λn _ c=>?_;subst c;simp
 have i:b.Nodup:=j.nodup_iff.mpr (qv.mpr (p.imp λh e=>h QA));have m:=Rt.Cu q i;show⟨b.map Int.toNat,e,?_,λa=>?_⟩
 .rw[e]at m;show(qv.mp m).imp λh=>QA
 .constructor
  .intro h;show ai (dM.mp h) λx f g=>?_;show ai (d x f) λn o c=>?_;subst c;have:n=a:=by simpa using g
   show this▸o
  .intro h;show dM.mpr ⟨(a:Int),j.mem_iff.mpr (dM.mpr ⟨a,h,rfl⟩),QD⟩
def K8(p:Nat->Bool):∀a:List Nat,(vr a).filterMap (λv=>match v with | .int i=>if p i.toNat=true then some v else none | _=>none)=vr (a.filter p)
 |[]=>rfl
 |n::r=>by
  have b:=K8 p r;show(vn n::vr r).filterMap _=_;rw[nK];dsimp only;rw[eN,b];cases c:p n with
  |true=>rw[QG rfl,kR,QG c];rfl
  |false=>rw[QH dP,kR,QH (by rw[c];show dP)]
def Vk(ad:Ad):Sp:=λb H Q _=>∃(a q:ab)(r:Nat)(ks:List (Key×V))(h:bz),b= [.ref a,.ref q]/\mQ ad H a h.answers h.sent/\H q=some (.dK ks)/\k4 ks (Rt.ka h.sent r)/\gH H (.lst (vr (ef h r))) Q
def BV(G:bh K mg ad):bu P w K mg base 2 "due_numbers" ["laboratory","told"] (Vk ad):=by
 show G.NS.has CY (λvs H Q E h=>?_) (λf Y A b2 s H vs Q E hr h=>?_)
 .revert h;intro z;show e5_1 z λb1 q r ks h o=>eg o λd _=>?_;clear o;subst z d;rfl
 .revert h;intro B;show jo B λb1 q r ks h d S hq hT k=>?_;subst B d;have hu:=hr.units;have b0:(A.deeper (envOfC "due_numbers" (aS CG) s.heap.objs.size f Y)).units+1<cLine:=QA;show mj S.ex λdx t a sl b5 c1 h1 h2 h3 h4 h5=>?_;show bA hT.keys λns a3 V m=>?_;have F:∀n∈ns,n<h.answers.length:=λn M=>Rt.KW _ r n h.sent S.tells ((m n).mp M);have b4:ns.length<=60:=dE (yp V F) S.iO;exists _,(aq (aK (pl (own:= [("number",2)]) rfl CY.nd (fV K (di (Ft rfl) QE G.AF AJ (ae (pv 1) ag))) (jT (by kernel_rfl)) (λ_ _ _ _ _=>(gnX 2 CY.nd)) (λ_ _ _ _ _=>(wb (cW pO (pQ b0 (pv 1) (pv 2) (λ_ _=>rfl)) (pqX (vP G) hr (ae (cz (cX K) (ax K (pv 0)) (pv 2) (λ_ _=>rfl)) ag)) QE))) (λ_ _ _ _ _=>(pv 2)))));dsimp only[bC,bP,iC,bF,aL,aR,aB,aX,aU,aV,aW,d5,d4];show aJ q ks _ ⟨rfl,.inl hq,a3,by rw[ay];lia,λc0 p J L hp=>?_⟩;show bA (Ko J L V) λN O e I=>?_;subst O;generalize e1:upd H p _=H1;have s1:=sN e1 hp;have W:H1 p=some (.lst (vr N)):=by rw[<-e1,ar,gd];rfl
  have U:∀n,n∈N↔(qF h r n).isSome=true:=λn=>by rw[I,m,Rt.wI]
  have T:=Rt.Pn h r N e U S.tells (l8 h r) λ_ _=>rfl;have b8:N.length<=60:=dE (yp (e.imp λh=>eU h) λn M=>F n ((I n).mp M)) S.iO;show⟨p,rfl,⟨_,aj.of W⟩,GP (xs:=vr N) (λv=>match v with | .int i=>if l8 h r i.toNat=true then some v else none | _=>none) (aj.of W) (by rw[dh,aQ];lia) (λD x X C hx hD b7 sc j=>?_) λD H' hD s' Z=>?_⟩
  .show ai (dM.mp hx) λn M R=>?_;subst R;have j:=j X (ah.refl _);have b3:ah H1 X:=sc.iP;have g:ah H X:=s1.trans b3;have a4:=F n ((I n).mp M);obtain⟨y,hy⟩:∃y,h.answers[n]? =some y:=⟨_,dA a4⟩;show ai (Paired.get h3 (Az hy)) λb hb hA=>?_;have a5:=(U n).mp M;obtain⟨v,hv⟩:=Er.mp a5;have u:=hT.val n;rw[<-Rt.wI,hv]at u;have a0:l8 h r n=decide (v<y.versions.length-1):=by unfold l8 gf lh;rw[hv,hy];rfl
   unfold gM;dsimp only at j;rw[eN,a0]at j;k_in;unfold rH;lk;exists vn v,by rw[<-show dm ks (.inl (n:Int))=some (vn v)from u];show fN.k (k:= .inl (n:Int)) (g _ _ hq)
   show aLaboratoryX G (g _ _ h1) ?_;show dk (v:= .ref b) (aj.of (g _ _ h2)) (at_of rfl (by rw[eP,hb];rfl)) ?_;show aJ b n y ⟨rfl,hA.mono g,?_⟩;by_cases c:v<y.versions.length-1
   .rw[QG (QI c)]at j;k_in;show dw (QI QA) ?_;show j
   .rw[QH (by rw[QJ c];show dP)]at j;k_in;show dJ (QJ QA) ?_;show j
  .show k D H' (s1.free hD) (s1.trans s') ?_;rw[Z,<-T];show congrArg (λl=>some (HO.lst l)) (K8 (l8 h r) N)
def V7(ad:Ad):Sp:=λb H Q _=>∃(a:ab)(v:iJ),b= [.ref a]/\lu ad H a v/\v.flag<=3/\v.value.length<=1000/\gH H (.lst (vr (if v.status=2 then au "withdrawn"else v.value++Vblaan.MARKS.getD v.flag []))) Q
def Hs(G:bh K mg ad):bu P w K mg base 3 "version_row" ["version"] (V7 ad):=by
 show G.O7.hsX UB λf j A e s H y Q E d h=>?_;show ja h λa v b g m r k=>?_;subst h b;have o:=d.units;show eB (id g) λt x l u=>?_;exists _,(aq (aK (pR (cW (fz K o) (ax K (pv 0)) (gi G.AO) QE) (pqX (jd G) d (ae dX ag)) (pqX (Hq G) d (ae (pv 0) ag)))));lk;show aVersionX G l ?_;lk;by_cases c:v.status=2
 .rw[QG c]at k;show dw (QI QA) ?_;show⟨_,rfl,QC,λq i n s p=>k q i n s (by rw[p,show("withdrawn":Str).cps.toList=au "withdrawn"by decide +kernel])⟩
 .rw[QH c]at k;show dJ (QJ QA) ?_;show aZ a v ⟨rfl,g,m,r,k⟩
def lz{H:Hp}{Q:VK}{a b:ab}{ns ms:List Nat}(c:L2.Row H a ns)(d:L2.Row H b ms)(hz:ns.length+ms.length<=1000000)(k:gH H (.lst (vr (ns++ms))) Q):bM (.ref a) (.ref b) H Q:=by show⟨_,c,_,d,by rw[dh,dh,aQ];lia,λz hz=>k z _ hz (ah.new hz) ?_⟩;rw[ar,iG]
def oK(v:iJ):List Nat:=if v.status=2 then au "withdrawn"else v.value++Vblaan.MARKS.getD v.flag []
def vi(x:dg)(v:iJ):List Nat:=((((((((cV x.person++au " day ")++cV x.day)++[32])++x.test)++au ": ")++oK v)++au " -> ")++oK (i4 x))
structure oQ(v:iJ):Prop where
 flag:v.flag<=3
 value:v.value.length<=12
def zy{v:iJ}(h:oQ v):(oK v).length<=14:=by
 unfold oK;split
 .decide +kernel
 .rw[aP];have a:=h.value;have b:(Vblaan.MARKS.getD v.flag []).length<=2:=by have:=h.flag;have:v.flag=0\/v.flag=1\/v.flag=2\/v.flag=3:=QA;rcases this with e | e | e | e<;>rw[e]<;>decide +kernel
  lia
def tV{H:Hp}{Q:VK}(x:Str)(l:List Nat)(h:x.cps.toList=l)(hz:x.length<=1000)(k:gH H (.lst (vr l)) Q):zf [.str x] H Q E0:=⟨x,rfl,by rw[aQ];lia,by rw[h];show k⟩
def Ve(ad:Ad):Sp:=λc H Q _=>∃(a b:ab)(i:Nat)(x:dg)(v:iJ),c= [.ref a,.ref b]/\iV ad H a i x/\lu ad H b v/\oQ v/\oQ (i4 x)/\x.person<=1000000000/\x.day<=100000/\x.test.length<=8/\gH H (.lst (vr (vi x v))) Q
def RH(G:bh K mg ad):bu P w K mg base 4 "correction_line" ["answer","told_version"] (Ve ad):=by
 show G.NL.hsX CV λf b2 A C s H vs Q E e h=>?_;show e5_1 h λa b i x v d=>e0_9 d λm V hV B z hp hd ht k=>?_;clear d;subst h m;show jo (id V.ex) λdx tl ul vl vs y h2 h3 h4 h5=>?_;have l1:=Rt.iB (n:=x.person) (k:=10) QB QA;have l2:=Rt.iB (n:=x.day) (k:=7) QB QA;have l3:=zy B;have l4:=zy z;have t1:(au " day ").length=5:=QC;have t2:(au ": ").length=2:=QC;have t3:(au " -> ").length=4:=QC;show⟨_,(ak (stX 2 CV.nd (cU gh (cU gh (pqX (nD G) e (ae (ax K (pv 0)) ag)) (pqX (jd G) e (ae dX ag))) (pqX (nD G) e (ae (ax K (pv 0)) ag))))
 (ak (stX 2 CV.nd (cU gh (cU gh (cU gh (cU gh (pv 2) (bt (ae (gi G.qI) ag))) (ax K (pv 0))) (pqX (jd G) e (ae dX ag))) (pqX (Hs G) e (ae (pv 1) ag))))
 (aq (aK (cU gh (cU gh (pv 2) (pqX (jd G) e (ae dX ag))) (pqX (Hs G) e (ae (pqX (B1 G) e (ae (pv 0) ag)) ag))))))),?_⟩
 dsimp only[bg,bf,a8,bC,aY,a7,aL,aR,aB,bw,tC,L2.start,ee,aX,aU,aV,aW,d5,d4];show aAnswerX G y ?_;show⟨x.person,rfl,QA,λq1 H1 f1 s1 v1=>?_⟩;show tV " day " (au " day ") QC QC λq2 H2 f2 X v2=>?_;show lz (X _ _ v1) v2 QA λq3 H3 f3 s3 v3=>?_;have T:=s1.trans (X.trans s3);show aAnswerX G (T _ _ y) ?_;show⟨x.day,rfl,QA,λq4 H4 f4 Y v4=>?_⟩;show lz (Y _ _ v3) v4 (by simp only[aP];lia) λq5 H5 f5 s5 v5=>?_;have S5:=T.trans (Y.trans s5);show⟨by rw[aQ];decide,λW f6=>?_⟩;generalize U:upd H5 W _=H6;have Z:=sN U f6;have v6:L2.Row H6 W [32]:=vN U;show lz (Z _ _ v5) v6 (by simp only[aP,aG,dC];lia) λq7 H7 f7 s7 v7=>?_;have t:=S5.trans (Z.trans s7);show aAnswerX G (t _ _ y) ?_;show lz v7 (t _ _ h2) (by simp only[aP,aG,dC];lia) λq8 H8 f8 s8 v8=>?_;show tV ": " (au ": ") QC QC λq9 H9 f9 s9 v9=>?_;show lz (s9 _ _ v8) v9 (by simp only[aP,aG,dC];lia) λc1 a0 b3 F v10=>?_;have l:=t.trans (s8.trans (s9.trans F));show aZ b v ⟨rfl,hV.mono l,B.flag,dE B.value QB,λc2 a3 b4 o v11=>?_⟩;show lz (o _ _ v10) v11 (by show _+(oK v).length<=_;simp only[aP,aG,dC];lia) λc3 a4 b5 I M=>?_;have r:=l.trans (o.trans I);show ?_;show tV " -> " (au " -> ") QC QC λc4 a5 b7 p N=>?_;show lz (p _ _ M) N (by show(_++oK v).length+_<=_;simp only[aP,aG,dC];lia) λc5 b0 b8 J O=>?_;have g:=r.trans (p.trans J);show aJ a i x ⟨rfl,V.mono g,λc hc=>?_⟩;show aZ c _ ⟨rfl,hc,z.flag,dE z.value QB,λc6 b1 c0 j R=>?_⟩;show lz (j _ _ O) R (by show((_++oK v)++_).length+(oK (i4 x)).length<=_;simp only[aP,aG,dC];lia) λD q u L S=>?_;show k D q ((g.trans j).free u) (g.trans (j.trans L)) S
def Ai(H:Hp)(t:ab)(x:Nat×Nat):Prop:=H t=some (.tup [vn x.1,vn x.2])
def sU(h:bz)(i:Nat):List (Nat×Nat):=(gG i).flatMap λr=>(ef h r).map λa=>(r,a)
def FZ(h:bz)(i:Nat):sU h (i+1)=sU h i++(ef h i).map λa=>(i,a):=by unfold sU;rw[xa,gc];simp
def xX{h:bz}(hz:h.answers.length<=60)(r:Nat):(ef h r).length<=60:=by unfold ef;show dE (D8 _ _) (by rw[mT];show hz)
def xY{h:bz}(hz:h.answers.length<=60):∀i,(sU h i).length<=60*i
 |0=>bo _
 |i+1=>by have:=xY hz i;have:=xX hz i;rw[FZ,aP,ay];lia
def U8(ad:Ad):Sp:=λd H Q _=>∃(a:ab)(h:bz),d= [.ref a]/\mQ ad H a h.answers h.sent/\∀q b c,H q=none->ah H b->b q=some (.lst (c.map V.ref))->Paired (Ai b) c (lj h)->Q (.ref q) b
def He(G:bh K mg ad):bu P w K mg base 3 "all_duties" ["laboratory"] (U8 ad):=by
 show G.NB.has yT (λvs H Q E h=>?_) (λf a3 A a0 s H vs Q E W h=>?_)
 .revert h;intro r;show eB r λo h b _=>?_;subst r b;rfl
 .revert h;intro t;show bp t λo h b O k=>?_;subst t b;have hu:=W.units;show⟨_,(ak (stX 1 yT.nd (bt ag))
 (ak (fA rfl (Cf rfl G.uZ (ae (gi G.Fh) ag)) (gnX 2 yT.nd)
  (aq (fA rfl (fV K (pqX (BV G) W (ae (pv 0) (ae (pqX (B3 G) W (ae (pv 0) (ae (pv 2) ag))) ag)))) (gnX 3 yT.nd)
   (aq (dR (gI K (pv 1) (pS (ae (pv 2) (ae (pv 3) ag)))))))))
 (aq (aK (pv 1))))),?_⟩
  dsimp only[bg,bf,bw,aR,aY];show⟨cT _,λq T=>?_⟩;generalize e1:upd H q _=H1;have s1:=sN e1 T;have U:H1 q=some (.lst []):=vN e1;dsimp only[gT,yd,aL,aR,tC];show⟨_,rfl,QA,QA,forR (n:=20) (λi σ g=>∃u2 D l,σ= [some (.ref o),some (.ref q),u2,D]/\ah H g/\g q=some (.lst (l.map V.ref))/\Paired (Ai (del g q)) l (sU h i)) ⟨none,none,[],rfl,s1,U,.nil⟩ ?_ ?_⟩
  .intro i σ g hi u;show iN u λu2 D l m C c d=>?_;subst u m;dsimp only[aY];show ?_;dsimp only[gT,iC,a7,aL,aR,aB,aX,aU,aV,aW,d5,d4];rw[DZ];show aJ o i h.sent ⟨rfl,(O.mono C).sent,λI H2 ks b1 s2 M hT=>?_⟩;have S2:=C.trans s2;show gD o I i ks h ⟨rfl,O.mono S2,M,hT,λp H3 hp s3 J=>?_⟩;have S3:=S2.trans s3;have N:=s2.trans s3;have S:p≠q:=λe=>by rw[e,s2 _ _ c]at hp;cases hp
   have a4:=xX O.iO i;have a5:=xY O.iO i;show⟨p,rfl,⟨_,aj.of J⟩,forL (xs:=vr (ef h i)) (λj σ g=>∃D l,σ= [some (.ref o),some (.ref q),some (vn i),D]/\ah H g/\g p=some (.lst (vr (ef h i)))/\g q=some (.lst (l.map V.ref))/\Paired (Ai (del g q)) l (sU h i++((ef h i).take j).map λa=>(i,a))) ⟨D,l,rfl,S3,J,N _ _ c,by rw[List.take_zero,nL,ee];show Paired.dS d λ_ _ z=>N.del _ _ z⟩ (λj σ g _ Z=>fO Z λ_ _ _ _ z _=>aj.of z) ?_ ?_⟩
   .intro j x σ g hx v;show ja v λD l b C L c d=>?_;subst v b;show ai (fW hx) λn hn b=>?_;subst b;have b0:=(dW.mp hn).1;lk;have Y:=Paired.length d;rw[aP,ay,ff]at Y;show⟨.inl ⟨rfl,_,aj.of c⟩,by rw[aQ];decide,λI F=>?_⟩;generalize e4:upd g I _=H4;have R:=sN e4 F;have X:H4 I=some (.tup [vn i,vn n]):=vN e4;have nq:I≠q:=λe=>by rw[e,c]at F;cases F
    show aJ q _ _ ⟨rfl,rfl,R _ _ c,by rw[ay,aQ];lia,(C.trans R).upd T,?_,l++[I],?_,?_⟩
    .rw[az S];show R _ _ L
    .rw[ar,hY]
    .rw[fU,take_snoc hn,fk,<-eZ];show L2.Paired.snoc ?_ (Paired.dS d λ_ _ z=>R.del _ _ z);show del _ _ _=_;rw[eT nq];show X
   .intro σ g y;show ja y λD l b C L c d=>?_;subst y b;rw[dh,gk,<-FZ]at d;show aJ _ _ l ⟨rfl,C,c,d⟩
  .intro σ g B;show iN B λu2 D l m C c d=>?_;subst B m;show(k q g l T C c (Paired.dS d λ_ _ z=>gB _ _ z))
def AW{h:bz}{r a v:Nat}{x:dg}{y:iJ}(c:h.answers[a]? =some x)(j:qF h r a=some v)(k:x.versions[v]? =some y)(i:x.versions≠ []):sE h r a=vi x y:=by
 have g:gf h a=x.versions.length-1:=by unfold gf lh;rw[c];rfl
 have b:x.versions.getD (x.versions.length-1) Vblaan.noVersion=i4 x:=by unfold i4;rw[D7,zU,kS]
 have d:au " day "=32::(au "day"++[32]):=QC;have e:au ": "= [58,32]:=QC;have f:au " -> "=32::(au "->"++[32]):=QC;unfold sE lh;rw[c];dsimp only;rw[j,g];unfold Vblaan.versionText;rw[b,show(some v).getD 0=v from rfl,kS,k];dsimp only[Option.getD_some];unfold vi oK lr lr lr lr lr lr lr;rw[d,e,f];simp only[eZ,nJ,zY]
structure lS(x:dg):Prop where
 rK:∀v∈x.versions,oQ v
 person:x.person<=1000000000
 day:x.day<=100000
 test:x.test.length<=8
 unit:x.unit.length<=12
 ne:x.versions≠ []
 d6:x.versions.length<=6
def lS.newest{x:dg}(h:lS x):oQ (i4 x):=by
 unfold i4;rw[D7];cases e:x.versions.getLast? with
 |none=>show absurd (Lh.mp e) h.ne
 |some v=>show h.rK v (List.mem_of_getLast? e)
def Fz{x:dg}{v:iJ}(h:lS x)(a:oQ v):(vi x v).length<=80:=by have b:=Rt.iB (n:=x.person) (k:=10) QB (by have:=h.person;lia);have c:=Rt.iB (n:=x.day) (k:=7) QB (by have:=h.day;lia);have d:=zy a;have e:=zy h.newest;have f:=h.test;have g:(au " day ").length=5:=QC;have i:(au ": ").length=2:=QC;have j:(au " -> ").length=4:=QC;unfold vi;simp only[aP,aG,dC];lia
def Ie{L:List (Nat×Nat)}{n v:Nat}(h:n∉L.map (·.1)):putK (L.map jq) (.inl (n:Int)) (vn v)=(L++[(n,v)]).map jq:=by
 unfold putK;rw[QH,fk]
 .rfl
 .intro q;show ai (zN.mp q) λf b c=>?_;show ai (dM.mp b) λx d a=>?_;subst a;have e:(x.1:Int)=(n:Int):=Sum.inl.inj (of_decide_eq_true c);show h (dM.mpr ⟨x,d,QA⟩)
def FY(h:bz)(r:Nat):(ef h r).Pairwise (·<·):=by unfold ef;show List.Pairwise.filter _ Ef
def vq{h:bz}{r n:Nat}(a:n∈ef h r):n<h.answers.length/\l8 h r n=true:=by unfold ef at a;obtain⟨b,c⟩:=ki.mp a;show⟨r8.mp b,c⟩
def tL(h:bz)(r:Nat):lg:={kind:=1,reader:=r,person:=0,bytes:=EG h r,pages:=1,tells:=(ef h r).map λa=>(a,gf h a)}
def VC(ad:Ad):Sp:=λd H Q _=>∃(a:ab)(r:Nat)(h:bz),d= [.ref a,vn r]/\mQ ad H a h.answers h.sent/\(∀x∈h.answers,lS x)/\∀b c,ah H c->H b=none->kr ad (nw [] H c) b (tL h r)->Q (.ref b) c
def RP(G:bh K mg ad):bu P w K mg base 5 "make_letter" ["laboratory","reader"] (VC ad):=by
 show G.Oo.has t7 (λvs H Q E h=>?_) (λf d3 A h6 s H vs Q E hr h=>?_)
 .revert h;intro b2;show nX b2 λZ r h g _=>?_;subst b2 g;rfl
 .revert h;intro b3;show iN b3 λZ r h g hL hG k=>?_;subst b3 g;have hu:=hr.units;have c7:(A.deeper (envOfC "make_letter" (aS CI) s.heap.objs.size f d3)).units+1<cLine:=QA;show mj hL.ex λdx t aa sl h9 i3 g1 g2 g3 g4 g5=>?_;show⟨_,(ak (stX 2 t7.nd (pqX (B3 G) hr (ae (pv 0) (ae (pv 1) ag))))
 (ak (stX 3 t7.nd (bt (ae (pqX (jd G) hr (ae dX ag)) ag)))
 (ak (stX 4 t7.nd vU)
 (ak (fA rfl (fV K (pqX (BV G) hr (ae (pv 0) (ae (pv 2) ag)))) (gnX 5 t7.nd)
  (ak (stX 6 t7.nd (cz (cX K) (ax K (pv 0)) (pv 5) (λ_ _=>rfl)))
  (ak (dR (gI K (pv 3) (pqX (RH G) hr (ae (pv 6) (ae (cz (cX K) (ax K (pv 6)) (pQ c7 (pv 2) (pv 5) (λ_ _=>rfl)) (λ_ _=>rfl)) ag)))))
  (aq (vZ c7 (pv 4) (pv 5) (pqX (vP G) hr (ae (pv 6) ag)) rfl)))))
 (aq (aK (kJ (Hb G) (hr.mono QB) (ae (gi G.Mq) (ae (pv 1) (ae aD (ae aD (ae (pqX (BW G) hr (ae (pv 3) ag)) (ae (pv 4) ag))))))))))))),?_⟩
  dsimp only[bg,bf,bw,aR,aL,a7,bN,aY,aB,tC,aX,aU,aV,aW,d5,d4];show aJ Z r h.sent ⟨rfl,hL.sent,λtq H1 ks i2 s1 L hT=>?_⟩;show tV "corrections" (au "corrections") QC QC λq1 H2 f1 s2 v1=>?_;show⟨by rw[aQ,aG,dC];decide,λu M=>?_⟩;generalize e3:upd H2 u _=H3;have s3:=sN e3 M;have c1:H3 u=some (.lst ([q1].map V.ref)):=vN e3;intro B F;generalize e4:upd H3 B _=H4;have s4:=sN e4 F;have d2:H4 B=some (.dK []):=vN e4;have S1:ah H H1:=s1;have c2:=s2.trans (s3.trans s4);have S4:=S1.trans c2;have c3:H u=none:=(S1.trans s2).free M;have b8:H B=none:=(S1.trans (s2.trans s3)).free F;have d8:H q1=none:=S1.free f1;have c9:u≠B:=λe=>by rw[<-e,c1]at F;cases F
  have h5:tq≠u:=λe=>by rw[<-e,s2 _ _ L]at M;cases M
  have d1:tq≠B:=λe=>by rw[<-e,(s2.trans s3) _ _ L]at F;cases F
  have g9:q1≠u:=λe=>by rw[<-e,v1]at M;cases M
  have h4:q1≠B:=λe=>by rw[<-e,s3 _ _ v1]at F;cases F
  dsimp only[gT,iC,a7,aL,aR,aB,aX,aU,aV,aW,d5,d4];show gD Z tq r ks h ⟨rfl,hL.mono S4,c2 _ _ L,hT,λdq H5 U s5 a0=>?_⟩;have S5:=S4.trans s5;have g7:dq≠u:=λe=>by rw[e,s4 _ _ c1]at U;cases U
  have g8:dq≠B:=λe=>by rw[e,d2]at U;cases U
  have e2:=xX hL.iO r;have keep:∀{H':Hp}{b o},ah H H'->H b=some o->b≠u/\b≠B:=λ_ e=>⟨eu e c3,eu e b8⟩;show⟨dq,rfl,⟨_,aj.of a0⟩,forL (xs:=vr (ef h r)) (λj σ H'=>∃u5 u6 J,σ= [some (.ref Z),some (vn r),some (.ref tq),some (.ref u),some (.ref B),u5,u6]/\ah H H'/\H' tq=some (.dK ks)/\H' dq=some (.lst (vr (ef h r)))/\H' u=some (.lst (J.map V.ref))/\b9 (nw [] H (off [u,B] H')) J (au "corrections"::((ef h r).take j).map (sE h r))/\H' B=some (.dK ((((ef h r).take j).map λa=>(a,gf h a)).map jq))) ⟨none,none,[q1],rfl,S5,(c2.trans s5) _ _ L,a0,(s4.trans s5) _ _ c1,.cons ?_ .nil,s5 _ _ d2⟩ (λj σ H' _ g0=>jE g0 λ_ _ _ _ _ _ z _=>aj.of z) ?_ ?_⟩
  .show nw _ _ _ _=_;rw[d9 d8,off_ne (by simp[g9,h4])];show(s3.trans (s4.trans s5)) _ _ v1
  .intro j x σ H' hx b4;show vw b4 λu5 u6 J g sH R b0 D i I=>?_;subst b4 g;show ai (fW hx) λn Y C=>?_;subst C;have e9:=(dW.mp Y).1;have f3:n∈ef h r:=dD Y;obtain⟨O,d⟩:=vq f3;obtain⟨y,S⟩:∃y,h.answers[n]? =some y:=⟨_,dA O⟩;have p:=hG y (dD S);show ai (Paired.get g3 (Az S)) λb hb hA=>?_;have X:gf h n=y.versions.length-1:=by unfold gf lh;rw[S];rfl
   obtain⟨v,c6,f7⟩:∃v,qF h r n=some v/\v<y.versions.length-1:=by
    unfold l8 at d;rw[X]at d;cases e:qF h r n with
    |none=>rw[e]at d;cases d
    |some v=>rw[e]at d;show⟨v,rfl,of_decide_eq_true d⟩
   have b1:=hT.val n;rw[<-Rt.wI,c6]at b1;obtain⟨ve,N⟩:∃ve,y.versions[v]? =some ve:=⟨_,dA QA⟩;have e6:=p.rK ve (dD N);have c0:=AW S c6 N p.ne;have c4:=hA.mono sH;show jo (id c4.ex) λex tl ul vl vs a1 a2 a3 a4 a5=>?_;show ai (Paired.get a5 N) λvb f5 e0=>?_;have c5:=Paired.length i;rw[aG,ay,ff]at c5;dsimp only[aY,bg,bf,a8,aB,bK,bH,aL,aR,a7,tW,rH,ee,aX,aU,aV,aW,d5,d4];show aLaboratoryX G (sH _ _ g1) ?_;show(.inl ⟨aa,_,_,.ref b,rfl,rfl,aj.of (sH _ _ g2),at_of rfl (by rw[eP,hb];rfl),?_⟩);exists .inl ⟨rfl,_,aj.of D⟩;show aAnswerX G a1 ?_;show aZ tq (vn v) ⟨rfl,by rw[<-show dm ks (.inl (n:Int))=some (vn v)from b1];show fN.k (k:= .inl (n:Int)) R,?_⟩;show dk (v:= .ref vb) (aj.of a4) (at_of rfl (by rw[eP,f5];rfl)) ?_;show gD b vb n y ve ⟨rfl,c4,e0,e6,p.newest,p.person,p.day,p.test,λq6 H6 f6 s6 v6=>?_⟩;have S6:=sH.trans s6;have n6:q6≠u:=λe=>by rw[e,D]at f6;cases f6
   have c8:q6≠B:=λe=>by rw[e,I]at f6;cases f6
   show aJ u _ _ ⟨rfl,rfl,s6 _ _ D,by rw[ay,aQ];lia,?_⟩;generalize e7:upd H6 u _=T;have k7:∀b,b≠u->T b=H6 b:=λb hb=>by rw[<-e7,az hb]
   have g6:T u=some (.lst ((J++[q6]).map V.ref)):=by rw[<-e7,ar,hY]
   have S7:ah H T:=λb o e=>by rw[k7 b (eu e c3)];show S6 b o e
   show aJ b n y ⟨rfl,hA.mono S7,?_⟩;have h7:T B=some (.dK ((((ef h r).take j).map λa=>(a,gf h a)).map jq)):=by rw[k7 B c9.symm];show s6 _ _ I
   show aZ B _ ⟨rfl,lQ.k (k:= .inl (n:Int)) h7 (by rw[ay,ay,ff,aQ];lia),?_⟩;rw[<-X,Ie (by
    rw[gd];intro q;show ai (dM.mp q) λm h1 h2=>?_;have hm:m=n:=h2;subst hm;have hp:=FY h r;rw[<-jQ j (ef h r),List.pairwise_append]at hp;have h3:m∈(ef h r).drop j:=by rw[kQ e9,(dW.mp Y).2];show cZ
    show absurd (hp.2.2 m h1 m h3) QA)]
   generalize e8:upd T B _=H8;have k8:∀b,b≠B->H8 b=T b:=λb hb=>by rw[<-e8,az hb]
   have m8:ah (nw [] H (off [u,B] H')) (nw [] H (off [u,B] H8)):=oo (λb o e=>by obtain⟨h1,h2⟩:=nA e;rw[off_ne h2,k8 b (λq=>h2 (by simp[q])),k7 b (λq=>h2 (by simp[q]))];show s6 _ _ h1) λ_ z=>z
   show aJ _ _ (J++[q6]) ⟨rfl,λb o e=>by rw[k8 b (eu e b8)];show S7 b o e,?_,?_,?_,?_,?_⟩
   .rw[k8 tq d1,k7 tq h5];show s6 _ _ R
   .rw[k8 dq g8,k7 dq g7];show s6 _ _ b0
   .rw[k8 u c9];show g6
   .rw[take_snoc Y,fk,<-nJ];show L2.Paired.snoc ?_ (b9.mono m8 i);show nw _ _ _ _=_;rw[d9 (sH.free f6),off_ne (by simp[n6,c8]),k8 q6 c8,k7 q6 n6,c0];show v6
   .rw[<-e8,ar,take_snoc Y];simp only[fk];rfl
  .intro σ H' b5;show vw b5 λu5 u6 J g sH R b0 D i I=>?_;subst b5 g;rw[dh,gk]at i I;dsimp only[bC,iU,aL,aR,aB,tC,a7,aX,aU,aV,aW,d5,d4];have W:∀l∈(au "corrections"::(ef h r).map (sE h r)),l.length<=80:=λl hl=>by
    rcases bG.mp hl with rfl | hl
    .decide +kernel
    .show ai (dM.mp hl) λn Y C=>?_;subst C;obtain⟨O,d⟩:=vq Y;obtain⟨y,S⟩:∃y,h.answers[n]? =some y:=⟨_,dA O⟩;have p:=hG y (dD S);have X:gf h n=y.versions.length-1:=by unfold gf lh;rw[S];rfl
     unfold l8 at d;rw[X]at d;cases e:qF h r n with
     |none=>rw[e]at d;cases d
     |some v=>rw[e]at d;have f7:v<y.versions.length-1:=of_decide_eq_true d;obtain⟨ve,N⟩:∃ve,y.versions[v]? =some ve:=⟨_,dA QA⟩;rw[AW S e N p.ne];show Fz p (p.rK ve (dD N))
   have e1:((au "corrections"::(ef h r).map (sE h r)).flatMap λl=>l++[10]).length<=1000000:=by
    have h1:=kD (f:=λl:List Nat=>l++[10]) (c:=81) (au "corrections"::(ef h r).map (sE h r)) λl hl=>by have:=W l hl;rw[aP,aG,dC];lia
    rw[aG,ay]at h1;show dE h1 QA
   show aZ u _ ⟨rfl,⟨J,D,i.mono (jt.trans fX)⟩,e1,λrq H6 f6 s6 v6=>?_⟩;show(λx dx hx e5 i1=>?_);have S6:=sH.trans s6;show gy x dx _ _ _ _ _ _ ⟨rfl,ar,λT f9 b7=>⟨rfl,?_⟩⟩;have s7:ah H6 T:=b7.same (((ah.refl H6).upd e5).upd hx) hx;show k x T (S6.trans s7) (S6.free hx) ⟨dx,rq,B,_,?_,?_,?_,⟨⟨_,rfl,.refl _⟩,?_,λy S=>?_,?_⟩⟩
   .rw[d9 (S6.free hx)];show f9
   .show nw _ _ _ _=_;rw[d9 (sH.free f6)];show s7 _ _ v6
   .rw[d9 b8];show(s6.trans s7) _ _ I
   .show(((ef h r).map λa=>(a,gf h a)).map (·.1)).Pairwise _;rw[gd];show qv.mpr (FY h r)
   .show ai (dM.mp (show y∈(ef h r).map λa=>(a,gf h a)from S)) λn Y C=>?_;subst C;obtain⟨O,_⟩:=vq Y;have h8:=hL.iO;obtain⟨z,hz⟩:∃y,h.answers[n]? =some y:=⟨_,dA O⟩;have i0:=(hG z (dD hz)).d6;exists by show n<60;lia
    show gf h n<1000;unfold gf lh;rw[hz];show z.versions.length-1<1000;lia
   .show((ef h r).map λa=>(a,gf h a)).length<=60;rw[ay];show e2
def LL(ad:Ad)(H:Hp)(b:ab)(r p n:Nat)(a:List Nat)(L:List (Nat×Nat)):Prop:=∃e c d:ab,H b=some (.ins ad.Sent e (Dh (vn 0) (vn r) (vn p) (vn n) (.ref c) (.ref d)))/\L2.Row H c a/\H d=some (.dK (eI L))
def VD(ad:Ad):Sp:=λg H Q _=>∃(a e:ab)(p d r:Nat)(as:List dg)(f:List lg)(t:eS)(ps:List ab),g= [.ref a,.ref e,vn p,vn d,vn r]/\mQ ad H a as f/\jj ad H e t ps/\p<=1000000000/\d<=100000/\zL (dH as p d) p d t/\
 ∀b c,ah H c->H b=none->LL ad (nw [] H c) b r p (dG (dH as p d) p d t) (je (dH as p d) p d t (dG (dH as p d) p d t)) (ip (dH as p d) t (dG (dH as p d) p d t))->Q (.ref b) c
def RQ(G:bh K mg ad):bu P w K mg base 9 "make_report" ["laboratory","template","person","day","reader"] (VD ad):=by
 show G.Oq.hsX Kd λf J A o s H vs Q E D h=>?_;show kB h λS X p d r as ss t T a=>e0_7 a λc C L R hd O k=>?_;clear a;subst h c;show mj C.ex λi tt F sl g V g1 g2 g3 Z g5=>?_;show⟨_,(ak (stX 5 Kd.nd (pqX (Hm G) D (ae (pv 1) (ae (ax K (pv 0)) (ae (pv 2) (ae (pv 3) ag))))))
 (aq (aK (kJ (Hb G) (D.mono QB) (ae (gi G.MF) (ae (pv 4) (ae (pv 2) (ae (ax K (pv 5)) (ae (ax K (pv 5)) (ae (ax K (pv 5)) ag)))))))))),?_⟩
 dsimp only[bg,bf,bC,iU,aY];k_in;show aLaboratoryX G g1 ?_;show gy X F p d as t T g ⟨rfl,L,g2,g3,by have:=C.iO;lia,R,hd,O,λla dl Y U W z M u b l m q y=>?_⟩;k_in;show aLayoutX G b ?_;show aLayoutX G b ?_;show aLayoutX G b ?_;intro x i e j N;show gy x i _ _ _ _ _ _ ⟨rfl,ar,λB n I=>⟨rfl,?_⟩⟩;have v:ah z B:=I.same (((ah.refl z).upd j).upd e) e;show k x B (u.trans v) (u.free e) ⟨i,U,W,?_,?_,?_⟩
 .rw[d9 (u.free e)];show n
 .show nw _ _ _ _=_;rw[d9 l];show v _ _ q
 .rw[d9 m];show v _ _ y
def qh(ad:Ad)(H:Hp)(a:ab)(ns:List Nat):Prop:=∃(d c:ab)(b:List (Str×V)),H a=some (.ins ad.Entry d b)/\b.lookup ("line":Str)=some (V.ref c)/\L2.Row H c ns
def qy(ad:Ad)(H:Hp)(o:Option (List Nat))(v:V):Prop:=match o with
 |none=>v= .a9
 |some b=>∃a,v= .ref a/\qh ad H a b
def qh.mono{H H':Hp}{a:ab}{ns:List Nat}(s:ah H H'):qh ad H a ns->qh ad H' a ns:=λb=>gJ b λc h d e f g=>⟨c,h,d,s _ _ e,f,s _ _ g⟩
def qy.mono{H H':Hp}{o:Option (List Nat)}{v:V}(s:ah H H')(h:qy ad H o v):qy ad H' o v:=by
 cases o with
 |none=>show h
 |some d=>obtain⟨a,b,c⟩:=h;show⟨a,b,c.mono s⟩
structure uK(ad:Ad)(H:Hp)(a:ab)(wd ls:Nat)(hd ft:Option (List Nat))(pls:List (List Nat)):Prop where
 ex:∃(dx pl:ab)(hv fv:V)(ps:List ab),H a=some (.ins ad.Template dx (Dy (vn wd) (vn ls) hv fv (.ref pl)))/\qy ad H hd hv/\qy ad H ft fv/\H pl=some (.lst (ps.map V.ref))/\Paired (qh ad H) ps pls
def uK.mono{H H':Hp}{a:ab}{f e:Nat}{d c:Option (List Nat)}{b:List (List Nat)}(s:ah H H')(h:uK ad H a f e d c b):uK ad H' a f e d c b:=by obtain⟨g,p,o,i,r,j,k,l,m,n⟩:=h.ex;show⟨g,p,o,i,r,s _ _ j,k.mono s,l.mono s,s _ _ m,Paired.dS n λ_ _ q=>q.mono s⟩
def rm(e d:Nat)(c b:Option (List Nat))(a:List (List Nat)):List (List Nat):=([au "width "++cV e,au "lines "++cV d]++(c.toList++b.toList))++a
def G0{H:Hp}:∀{zs:List (List Nat)}{d:List V},Made (λz y=>∃b,y=some (V.ref b)/\L2.Row H b z) zs d->∃a:List ab,d=a.map V.ref/\b9 H a zs
 |_,_,.nil=>⟨[],rfl,.nil⟩
 |_,_,.put q t=>by obtain⟨a,e,f⟩:=G0 t;obtain⟨b,c,g⟩:=q;cases c;show⟨b::a,by rw[e];rfl,.cons g f⟩
 |_,_,.out q t=>by obtain⟨b,c,_⟩:=q;cases c
def VN(ad:Ad):Sp:=λi H Q _=>∃(a:ab)(e d:Nat)(h g:Option (List Nat))(b:List (List Nat)),i= [.ref a]/\uK ad H a e d h g b/\e<=1000/\d<=1000/\b.length<=1000/\∀q c f,H q=none->ah H c->c q=some (.lst (f.map V.ref))->b9 c f (rm e d h g b)->Q (.ref q) c
def RV(G:bh K mg ad):bu P w K mg base 3 "printed_lines" ["template"] (VN ad):=by
 show G.OE.hsX wy λf c7 A c5 s H vs Q E hr h=>?_;show e6_1 h λa wd ls hd I c6 c=>fK c λU b8 hw hl d3 k=>?_;clear c;subst h U;obtain⟨dx,pa,hv,X,ps,Y,h2,h3,h4,h5⟩:=b8;have C:=G.js.cl;have d1:=Rt.iB (n:=wd) (k:=5) QB QA;have d2:=Rt.iB (n:=ls) (k:=5) QB QA;have t1:(au "width ").length=6:=QC;have t2:(au "lines ").length=6:=QC;show⟨_,(ak (stX 1 wy.nd (bt (ae (cU gh (pqX (jd G) hr (ae dX ag)) (pqX (nD G) hr (ae (ax K (pv 0)) ag))) (ae (cU gh (pqX (jd G) hr (ae dX ag)) (pqX (nD G) hr (ae (ax K (pv 0)) ag))) ag))))
 (ak (fA rfl (Qj K (pS (ae (ax K (pv 0)) (ae (ax K (pv 0)) ag)))) (gnX 2 wy.nd)
 (aq (bL (cW tN (pv 2) gp QE)
  (aq (dR (gI K (pv 1) (ax K (pv 2)))))
  de)))
 (aq (aK (cU gh (pv 1) (pl (own:= [("part",3)]) rfl wy.nd (fV K (ax K (pv 0))) (jT (by kernel_rfl)) (λ_ _ _ _ _=>(gnX 3 wy.nd)) (λ_ _ _ _ _=>oy) (λ_ _ _ _ _=>(ax K (pv 3))))))))),?_⟩
 dsimp only[bg,bf,bw,a8,aR,aL,a7,aY,aB,tC,L2.start,ee,aX,aU,aV,aW,d5,d4];show tV "width " (au "width ") QC QC λq1 H1 f1 s1 v1=>?_;show dB (s1 _ _ Y) C (G.gL _ QC) rfl ?_;show⟨wd,rfl,QA,λq2 H2 f2 s2 v2=>?_⟩;show lz (s2 _ _ v1) v2 QA λq3 H3 f3 s3 v3=>?_;have S3:=s1.trans (s2.trans s3);show tV "lines " (au "lines ") QC QC λq4 H4 f4 s4 v4=>?_;show dB ((S3.trans s4) _ _ Y) C (G.gL _ QC) rfl ?_;show⟨ls,rfl,QA,λq5 H5 f5 s5 v5=>?_⟩;show lz (s5 _ _ v4) v5 QA λq6 H6 f6 s6 v6=>?_;have S6:=S3.trans (s4.trans (s5.trans s6));show⟨by rw[aQ];simp,λF q=>?_⟩;generalize e7:upd H6 F _=H7;have s7:=sN e7 q;have b7:H7 F=some (.lst (([q3,q6]:List ab).map V.ref)):=vN e7;have S7:=S6.trans s7;dsimp only[gT,Bz,b6,aL,aR];show dB (S7 _ _ Y) C (G.gL _ QC) rfl ?_;show dB (S7 _ _ Y) C (G.gL _ QC) rfl ?_;show⟨by rw[aQ];simp,λtp S=>?_⟩;generalize e8:upd H7 tp _=H8;have s8:=sN e8 S;have c0:H8 tp=some (.tup [hv,X]):=vN e8;have S8:=S7.trans s8;have W:H F=none:=S6.free q;have c4:tp≠F:=λe=>by rw[e,b7]at S;cases S
 have n3:q3≠F:=λe=>by rw[<-e,(s4.trans (s5.trans s6)) _ _ v3]at q;cases q
 have n6:q6≠F:=λe=>by rw[<-e,v6]at q;cases q
 have c3:∀(i:Nat)(v:V),[hv,X][i]? =some v->∃o,[hd,I][i]? =some o/\qy ad H o v:=λi v e=>by
  cases i with
  |zero=>cases e;show⟨hd,rfl,h2⟩
  |succ i=>
   cases i with
   |zero=>cases e;show⟨I,rfl,h3⟩
   |succ i=>cases e
 show⟨tp,rfl,⟨_,eV.of c0⟩,Gj (xs:= [hv,X]) (λi σ N=>∃u2 g,σ= [some (.ref a),some (.ref F),u2,none]/\ah H N/\N tp=some (.tup [hv,X])/\N F=some (.lst (g.map V.ref))/\g.length<=2+i/\b9 (del N F) g ([au "width "++cV wd,au "lines "++cV ls]++([hd,I].take i).flatMap sm)) ⟨none,[q3,q6],rfl,S8,c0,s8 _ _ b7,bo _,.cons ?_ (.cons ?_ .nil)⟩ (λi σ N _ T=>fO T λ_ _ _ _ z _=>eV.of z) ?_ ?_⟩
 .show del _ _ _=_;rw[eT n3];show(s4.trans (s5.trans (s6.trans (s7.trans s8)))) _ _ v3
 .show del _ _ _=_;rw[eT n6];show(s7.trans s8) _ _ v6
 .intro i x σ N hx J;show ic J λu2 g c=>fK c λj t B p R d=>?_;clear c;subst J j;show ai (c3 i x hx) λo ho hO=>?_;have e1:([hd,I].take (i+1)).flatMap sm=([hd,I].take i).flatMap sm++o.toList:=by rw[take_snoc ho,gc];simp
  rw[e1];cases o with
  |none=>have hO:x= .a9:=hO;subst hO;lk;exists t,B,g,p,QA;rw[Option.toList_none,ee];show d
  |some l=>
   show ai hO λb u L=>gJ L λdy la fs b1 b2 b3=>?_;clear L;subst hO u;lk;exists .inl ⟨rfl,_,aj.of p⟩;show dB (t _ _ b1) G.ij.cl (G.fL _ QC) b2 ?_;have c9:i<2:=(dW.mp hx).1;show aJ F _ _ ⟨rfl,rfl,p,by rw[ay,aQ];lia,t.upd W,?_,g++[la],?_,?_,?_⟩
   .rw[az c4];show B
   .rw[ar,hY]
   .rw[aP,aG,dC];lia
   .rw[fU];show L2.Paired.snoc (m:= [au "width "++cV wd,au "lines "++cV ls]++([hd,I].take i).flatMap sm) (b:=l) ?_ d;show del _ _ _=_;rw[eT (eu b3 W)];show t _ _ b3
 .intro σ N M;show ic M λu2 g c=>fK c λj t B p R d=>?_;clear c;subst M j;have R:g.length<=4:=R;have e2:([hd,I].take [hv,X].length).flatMap sm=hd.toList++I.toList:=by show([hd,I]).flatMap sm=_;simp
  rw[e2]at d;dsimp only[bC,a8,aB,bP,iC,aX,aU,aV,aW,d5,d4];show ?_;show dB (t _ _ Y) C (G.gL _ QC) rfl ?_;have b4:=Paired.length h5;show⟨pa,rfl,⟨_,aj.of (t _ _ h4)⟩,tJ (xs:=ps.map V.ref) (zs:=c6) (by rw[ay,b4]) (λHc z y=>∃b,y=some (.ref b)/\L2.Row Hc b z) (λs T=>ai T λb e r=>⟨b,e,s _ _ r⟩) (by rw[ay,b4,aQ];lia) (vG (aj.of (t _ _ h4))) (λD i x z Hc C' Z O a0 a3 a4 c1=>?_) λD H9 ys Z O a0 a3=>?_⟩
  .show ai (fW Z) λb c2 j=>?_;subst j;show ai (Paired.get' h5 c2) λz' b5 a5=>?_;rw[O]at b5;cases b5;show gJ a5 λdy la fs b1 b2 b3=>?_;clear a5;have sc:ah H Hc:=t.trans a4.iP;unfold gM;lk;show dB (sc _ _ b1) G.ij.cl (G.fL _ QC) b2 ?_;show c1 _ Hc rfl (ah.refl _) ⟨la,rfl,?_⟩;show(t.trans a4) _ _ b3
  .show ai (G0 a3) λbs u b0=>?_;subst u;have s9:=O;have c8:=Paired.length b0;show⟨_,s9 _ _ p,_,a0,by rw[ay,ay,aQ];lia,λz hz=>?_⟩;have sz:=ah.new (o:= .lst (g.map V.ref++bs.map V.ref)) hz;show k z _ (g++bs) ((t.trans s9).free hz) ((t.trans s9).trans sz) (by rw[ar,fk]) ?_;show Paired.app (b9.mono (gB.trans (s9.trans sz)) d) (b9.mono sz b0)
def ia(x:Nat):List Nat->List Nat->List Nat
 |[],_=> [0]
 |y::ys,bel=>(if y=x then bel.getD 1 0+1 else max (bel.getD 0 0) ((ia x ys (bel.drop 1)).getD 0 0))::ia x ys (bel.drop 1)
def Ax(x:Nat):∀(b a:List Nat),(ia x b a).length=b.length+1
 |[],_=>rfl
 |y::b,a=>by show(ia x b (a.drop 1)).length+1=_;rw[Ax x b];rfl
def EK(x:Nat):∀(b a:List Nat)(k:Nat),k<b.length->(ia x b a).getD k 0=if b.getD k 0=x then a.getD (k+1) 0+1 else max (a.getD k 0) ((ia x b a).getD (k+1) 0)
 |[],_,_,h=>absurd h QD
 |y::b,a,0,_=>by show(if y=x then a.getD 1 0+1 else max (a.getD 0 0) ((ia x b (a.drop 1)).getD 0 0))=if y=x then _ else max _ ((ia x b (a.drop 1)).getD 0 0);rfl
 |y::b,a,k+1,h=>by have c:=EK x b (a.drop 1) k (by simpa using h);show(ia x b (a.drop 1)).getD k 0=if b.getD k 0=x then _ else max _ ((ia x b (a.drop 1)).getD (k+1) 0);rw[c];simp only[kS,w6,Ej 1]
def Aw(x:Nat):∀(b a:List Nat),(ia x b a).getD b.length 0=0
 |[],_=>rfl
 |y::b,a=>Aw x b (a.drop 1)
def getD_at{l:List Nat}{k:Nat}(h:k<l.length):l[k]? =some (l.getD k 0):=by rw[kS,dA h];rfl
def PB{R:List Nat}{m:Nat}(h:m<R.length):(fc (m+1) 0++R.drop (m+1)).set m (R.getD m 0)=fc m 0++R.drop m:=by
 have hd:R.drop m=R.getD m 0::R.drop (m+1):=by rw[kQ h,kS,dA h];rfl
 rw[hd,List.replicate_succ',eZ];rw[List.set_append_right _ _ (by rw[oS];lia),oS,mV];rfl
def zeros:∀n:Nat,(fc n [V.int 0]).flatten=vr (fc n 0)
 |0=>rfl
 |n+1=>by rw[qw,rX,zeros n];rfl
def Xa(l:List Nat)(j v:Nat):(vr l).set j (vn v)=vr (l.set j v):=(List.map_set ..).symm
def Vg:Sp:=λe H Q _=>∃(x:Nat)(d c:ab)(b a:List Nat),e= [vn x,.ref d,.ref c]/\L2.Row H d b/\L2.Row H c a/\a.length=b.length+1/\b.length<=1000000/\gH H (.lst (vr (ia x b a))) Q
def RJ(G:bh K mg ad):bu P w K mg base 1 "counts_above" ["line","second","below"] Vg:=by
 show G.NO.hsX tY λf N A Z s H vs Q E hr h=>?_;show e5_1 h λx J u b a o=>fK o λy W hb a3 Y k=>?_;clear o;subst h y;have hu:=hr.units;have a4:(A.deeper (envOfC "counts_above" (aS CD) s.heap.objs.size f N)).units+1<cLine:=QA;show⟨_,(ak (stX 3 tY.nd (cU B6 (bt (ae aD ag)) (cU ik (di (eK K) QE G.dN dO (ae (pv 1) ag)) aD)))
 (ak (stX 4 tY.nd aD)
 (ak (fA rfl (HV rfl G.uZ (ae (cU lF (di (eK K) QE G.dN dO (ae (pv 1) ag)) aD) (ae (tQ uj aD) (ae (tQ uj aD) ag)))) (gnX 5 tY.nd)
 (ak (bL (cW (fz K hu) (cz (cX K) (pv 1) (pv 5) (λ_ _=>rfl)) (pv 0) QE)
  (aq (stX 4 tY.nd (cU ik (cz (cX K) (pv 2) (cU ik (pv 5) aD) (λ_ _=>rfl)) aD)))
  (aq (bL (cW vR (cz (cX K) (pv 2) (pv 5) (λ_ _=>rfl)) (pv 4) QE)
   (aq (stX 4 tY.nd (cz (cX K) (pv 2) (pv 5) (λ_ _=>rfl))))
   de)))
 (aq (Tf (pv 3) (pv 5) (pv 4) rfl))))
 (aq (aK (pv 3)))))),?_⟩
 lk;show⟨by rw[aQ];decide,λq0 T=>?_⟩;generalize e0:upd H q0 _=H0;have s0:=sN e0 T;have v0:H0 q0=some (.lst [.int 0]):=vN e0;show⟨_,.inl ⟨_,aj.of (s0 _ _ W),rfl⟩,_,v0,by rw[dh];lia,by rw[dh];lia,?_,λd D=>?_⟩
 .rw[dh,aQ,aG,dC];lia
 rw[dh,show((b.length:Int)+1).toNat=b.length+1 by lia];generalize e1:upd H0 d _=H1;have s1:=sN e1 D;have v1:L2.Row H1 d (fc (b.length+1) 0):=by rw[<-e1];show upd _ _ _ _=_;rw[ar,zeros]
 have S1:=s0.trans s1;have B:H d=none:=s0.free D;generalize C:ia x b a=R at *;have a0:R.length=b.length+1:=by rw[<-C];show Ax x b a
 have O:R.drop b.length= [0]:=by rw[kQ QA,uB QA];congr 1;have:=getD_at (l:=R) (k:=b.length) QA;rw[<-C,Aw,C]at this;show(dW.mp this).2
 dsimp only[gT,Gz,aL,aR,a8,bQ,bF,aB,tC,bE,rU,bJ,aX,aU,aV,aW,d5,d4];exists _,.inl ⟨_,aj.of (S1 _ _ W),rfl⟩;rw[dh];have hn:((b.length:Int)-1 - -1).toNat=b.length:=QA;have U:o8 ((b.length:Int)-1) (-1) (-1) b.length:=by have:=o8.neg (i:=(b.length:Int)-1) (j:=-1) QA QA QA QA;rw[hn]at this;show this
 show eY _ _ _ _ ⟨rfl,U,Gi (n:=b.length) (λi σ c=>∃t,σ= [some (vn x),some (.ref J),some (.ref u),some (.ref d),some (vn (R.getD (b.length-i) 0)),t]/\ah H c/\L2.Row c d (fc (b.length-i) 0++R.drop (b.length-i))) ⟨none,?_,S1,?_⟩ ?_ ?_⟩
 .rw[xm,<-C,Aw];rfl
 .rw[xm,O,<-List.replicate_succ'];show v1
 .intro i σ c hi p;show bA p λt e I g=>?_;subst p e;obtain⟨m,hm⟩:∃m,b.length-i=m+1:=⟨b.length-i-1,QA⟩;have S:b.length-(i+1)=m:=QA;have F:((b.length:Int)-1+(i:Nat)*-1)=(m:Int):=QA;rw[F,S,hm];rw[hm]at g;have M:=EK x b a m QA;rw[C]at M;have X:L2.Row c J b:=I _ _ W;have r:L2.Row c u a:=I _ _ hb;have fin:∀z:Nat,z=R.getD m 0->IB (aB 3) (aB 5) (aB 4) {nx:=λσ c=>∃t,σ= [some (vn x),some (.ref J),some (.ref u),some (.ref d),some (vn (R.getD m 0)),t]/\ah H c/\L2.Row c d (fc m 0++R.drop m),rt:=Q,bk:=bC (aB 3) {nx:=λx c=>Q V.a9 c,rt:=Q},ct:=λσ c=>∃t,σ= [some (vn x),some (.ref J),some (.ref u),some (.ref d),some (vn (R.getD m 0)),t]/\ah H c/\L2.Row c d (fc m 0++R.drop m)} [some (vn x),some (.ref J),some (.ref u),some (.ref d),some (vn z),some (vn m)] c:=λz Y=>by show aJ d _ m ⟨rfl,rfl,g,by rw[dh,aP,oS];lia,_,by rw[Y],I.upd B,?_⟩;show upd _ _ _ _=_;rw[ar,Y,Xa,PB QA]
  lk;show dk (v:=vn (b.getD m 0)) (aj.of X) (at_of rfl (oJ (getD_at QA))) ?_;lk;rw[vp];have b0:=getD_at (l:=a) (k:=m) QA;have b1:=getD_at (l:=a) (k:=m+1) QA;by_cases L:b.getD m 0=x
  .rw[QG L]at M;show dw (QI L) ?_;show dk (v:=vn (a.getD (m+1) 0)) (aj.of r) (at_of (show(m:Int)+1=((m+1:Nat):Int)by lia) (oJ b1)) ?_;lk;show fin (a.getD (m+1) 0+1) M.symm
  .rw[QH L]at M;show dJ (QJ L) ?_;show dk (v:=vn (a.getD m 0)) (aj.of r) (at_of rfl (oJ b0)) ?_;lk;by_cases c2:R.getD (m+1) 0<a.getD m 0
   .show dw (QI QA) ?_;show dk (v:=vn (a.getD m 0)) (aj.of r) (at_of rfl (oJ b0)) ?_;lk;show fin (a.getD m 0) QA
   .show dJ (QJ QA) ?_;show fin (R.getD (m+1) 0) QA
 .intro σ c q;show bA q λt e I g=>?_;subst q e;rw[mV]at g;show(k d c B I g)
def PM{K:aw}{a:ab}{xs:List V}{g:TG}{j:TS}{D:Ends}{σ:L2.St}{H:Hp}(b:Nat->L2.St->Hp->Prop)(l:b 0 σ H)(r:∀i σ H,i<=xs.length->b i σ H->aj K H a xs)
  (s:∀i x σ H,i<xs.length->xs[xs.length-1-i]? =some x->b i σ H->g x σ H λσ2 k=>j {D with nx:=b (i+1),ct:=b (i+1),bk:=D.nx} σ2 k) (n:∀σ H,b xs.length σ H->D.nx σ H):oa (zK K a xs.length) g j D σ H:=by
 exists λi m σ H=>m=xs.length-i/\i<=xs.length/\b i σ H,⟨xs.length,QD,cT _,l⟩;intro i m σ H c;show cY c λf o p=>?_;subst c f;have q:=r i σ H o p;by_cases d:i<xs.length
 .have t:xs[xs.length-1-i]? =some (xs[xs.length-1-i]'QA):=dA QA;show .inr ⟨⟨d,xs,_,q,t⟩,b (i+1),λσ' h u=>⟨xs.length-(i+1),QA,rfl,d,u⟩,λv h ⟨e,y⟩=>?_⟩;subst e;show s i v σ h d (y xs q) p
 .have e:i=xs.length:=QA;subst e;show .inl ⟨bo _,n σ H p⟩
def HB{α β:Type}{F:α->β->Prop}:∀{l:List α}{m:List β},Paired F l m->Paired F l.reverse m.reverse
 |_,_,.nil=> .nil
 |_,_,.cons r t=>by rw[xb,xb];show L2.Paired.snoc r (HB t)
def jL(a:List Nat):List Nat->List (List Nat)
 |[]=> [fc (a.length+1) 0]
 |x::xs=>ia x a ((jL a xs).headD [])::jL a xs
def Wm(a:List Nat):∀b:List Nat,((jL a b).headD []).length=a.length+1
 |[]=>oS
 |x::b=>Ax x a _
def KO(b:List Nat):∀a:List Nat,(jL b a).length=a.length+1
 |[]=>rfl
 |x::a=>by show(jL b a).length+1=_;rw[KO b a];rfl
def Vd:Sp:=λd H Q _=>∃(b c:ab)(xs a:List Nat),d= [.ref b,.ref c]/\L2.Row H b xs/\L2.Row H c a/\xs.length<=1000000/\a.length<=1000000/\qx H (jL a xs) Q
def RG(G:bh K mg ad):bu P w K mg base 2 "common_counts" ["first","second"] Vd:=by
 show G.NI.hsX wm λf a4 A a3 s H vs Q E hr h=>?_;show qM h λfa sb xs l C hf hs hx hy k=>?_;subst h C;have hu:=hr.units;show⟨_,(ak (stX 2 wm.nd (cU B6 (bt (ae aD ag)) (cU ik (di (eK K) QE G.dN dO (ae (pv 1) ag)) aD)))
 (ak (stX 3 wm.nd (bt (ae (pv 2) ag)))
 (ak (fA rfl (SR rfl G.L3 (ae (pv 0) ag)) (gnX 4 wm.nd)
 (ak (stX 2 wm.nd (pqX (RJ G) hr (ae (pv 4) (ae (pv 1) (ae (pv 2) ag)))))
 (aq (dR (gI K (pv 3) (pv 2))))))
 (ak (dR (Cc kZ PySem.F.slot_list_reverse PySem.F.type_list_reverse Rc (pv 3)))
 (aq (aK (pv 3))))))),?_⟩
 lk;show⟨by rw[aQ];decide,λq0 U=>?_⟩;generalize e0:upd H q0 _=H0;have s0:=sN e0 U;have v0:H0 q0=some (.lst [.int 0]):=vN e0;show⟨_,.inl ⟨_,aj.of (s0 _ _ hs),rfl⟩,_,v0,by rw[dh];lia,by rw[dh];lia,?_,λq I=>?_⟩
 .rw[dh,aQ,aG,dC];lia
 rw[dh,show((l.length:Int)+1).toNat=l.length+1 by lia];generalize e1:upd H0 q _=H1;have s1:=sN e1 I;have v1:L2.Row H1 q (fc (l.length+1) 0):=by rw[<-e1];show upd _ _ _ _=_;rw[ar,zeros]
 show⟨by rw[aQ];decide,λg n=>?_⟩;generalize e2:upd H1 g _=H2;have s2:=sN e2 n;have c2:H2 g=some (.lst (([q]:List ab).map V.ref)):=vN e2;have S1:=s0.trans s1;have S2:=S1.trans s2;have u:H g=none:=S1.free n;have R:H q=none:=s0.free I;have nb:q≠g:=λe=>by rw[<-e,v1]at n;cases n
 have J:(vr xs).length=xs.length:=dh xs;dsimp only[gT,Gy,aL,aR,aB,aX,aU,aV,aW,d5,d4];show aZ fa _ ⟨rfl,aj.of (S2 _ _ hf),?_⟩;show PM (xs:=vr xs) (λi σ p=>∃b u4 d,σ= [some (.ref fa),some (.ref sb),some (.ref b),some (.ref g),u4]/\ah H p/\L2.Row (del p g) b ((jL l (xs.drop (xs.length-i))).headD [])/\p g=some (.lst (d.map V.ref))/\b9 (del p g) d (jL l (xs.drop (xs.length-i))).reverse/\∀a∈d,H a=none) ⟨q,none,[q],rfl,S2,?_,c2,?_,λa S=>?_⟩ (λi σ p _ Z=>gJ Z λ_ _ _ _ z _=>aj.of (z _ _ hf)) ?_ ?_
 .rw[xm,rW];show del _ _ _=_;rw[eT nb];show s2 _ _ v1
 .rw[xm,rW];show .cons ?_ .nil;show del _ _ _=_;rw[eT nb];show s2 _ _ v1
 .obtain rfl:a=q:=by simpa using S
  show R
 .intro i x σ p hi L r;show nj r λb u4 d m M hb j c v=>?_;subst r m;rw[J]at hi L;show ai (fW L) λx Y B=>?_;subst B;have T:xs.drop (xs.length-(i+1))=x::xs.drop (xs.length-i):=by rw[show xs.length-(i+1)=xs.length-1-i by lia,kQ QA,(dW.mp Y).2,show xs.length-1-i+1=xs.length-i by lia]
  lk;show gD x sb b l _ ⟨rfl,M _ _ hs,gB _ _ hb,Wm l _,hy,λN H3 y O X=>?_⟩;have a0:N≠g:=λe=>by rw[e,j]at y;cases y
  have W:=Paired.length c;rw[zV,KO,iI]at W;show⟨.inl ⟨rfl,_,aj.of (O _ _ j)⟩,aJ g _ _ ⟨rfl,rfl,O _ _ j,by rw[ay,aQ];lia,?_⟩⟩;have hT:jL l (xs.drop (xs.length-(i+1)))=ia x l ((jL l (xs.drop (xs.length-i))).headD [])::jL l (xs.drop (xs.length-i)):=by rw[T];rfl
  have v3:del H3 g N=some (.lst (vr (ia x l ((jL l (xs.drop (xs.length-i))).headD [])))):=by rw[eT a0];show X
  show aZ N _ ⟨⟨rfl,rfl⟩,(M.trans O).upd u,?_,d++[N],?_,?_,pE v (M.free y)⟩
  .rw[fU,hT];show v3
  .rw[ar,hY]
  .rw[fU,hT,xb];show L2.Paired.snoc (F:=λa (ns:List Nat)=>L2.Row (del H3 g) a ns) v3 (b9.mono O.del c)
 .intro σ p t;show nj t λb u4 d m M hb j c v=>?_;subst t m;rw[J,mV,D2]at c;lk;show⟨.inl ⟨rfl,_,aj.of j⟩,aZ g _ ⟨rfl,rfl,j,?_⟩⟩;show k g _ d.reverse u (M.upd u) (by rw[ar,List.map_reverse]) ?_ λa S=>v a (List.mem_reverse.mp S);have:=HB c;rw[List.reverse_reverse]at this;rw[<-fU (H:=p) (D:=g) (o:= .lst (d.map V.ref).reverse)]at this;show(show b9 _ _ _ from this).mono gB
def kG(l:List Nat):List Key:=l.map λ(n:Nat)=>(.inl (n:Int):Key)
def jF(L:List (List Nat)):List (List Key×V):=L.zipIdx.map λx=>(kG x.1,vn x.2)
def Qv{a b:List Nat}(h:kG a=kG b):a=b:=by unfold kG at h;show(Ea (λx y e=>by have:=Sum.inl.inj e;lia)).mp h
def Qw(l:List Nat):(kG l).map kV=vr l:=by unfold kG;rw[gd];rfl
def QO(L:List (List Nat))(l:List Nat):jF (L++[l])=jF L++[(kG l,vn L.length)]:=by unfold jF;rw[List.zipIdx_append,fk];simp
def GL(L:List (List Nat)):(jF L).length=L.length:=by unfold jF;rw[ay,D9]
def BD(l:List Nat):∀L:List (List Nat),dm (jF L) (kG l)=if l∈L then some (vn (L.idxOf l))else none:=by
 intro L;unfold jF;suffices h:∀(L:List (List Nat))(k:Nat),dm ((L.zipIdx k).map λx=>(kG x.1,vn x.2)) (kG l)=if l∈L then some (vn (k+L.idxOf l))else none by have:=h L 0;rw[Em]at this;show this
 intro L;induction L with
 |nil=>intro k;rfl
 |cons x L a=>
  intro k;rw[List.zipIdx_cons,eD];by_cases c:x=l
  .subst c;rw[lK,QG cZ,List.idxOf_cons_self,xf]
  .rw[jM (λe=>c (Qv e)),a (k+1),List.idxOf_cons,show(x==l)=false by simpa using c];by_cases d:l∈L
   .rw[QG d,QG (du _ d)];rw[show k+1+L.idxOf l=k+(L.idxOf l+1)by lia];rfl
   .rw[QH d,QH (λh=>(bG.mp h).elim (λe=>c e.symm) d)]
def QN(L:List (List Nat))(l:List Nat)(h:l∉L):putK (jF L) (kG l) (vn L.length)=jF (L++[l]):=by have a:=BD l L;rw[QH h]at a;unfold putK;rw[uk,a,QH QD,QO]
def gK(L:List (List Nat))(l:List Nat):List (List Nat):=if l∈L then L else L++[l]
def ie(L:List (List Nat))(a:List (List Nat)):List (List Nat):=a.foldl gK L
def F4(L:List (List Nat))(l:List Nat):∀x∈L,x∈gK L l/\(gK L l).idxOf x=L.idxOf x:=λx a=>by
 unfold gK;split
 .show⟨a,rfl⟩
 .show⟨Eb _ a,by rw[List.idxOf_append,QG a]⟩
def x3:∀(a L:List (List Nat)),∀x∈L,x∈ie L a/\(ie L a).idxOf x=L.idxOf x
 |[],L,x,b=>⟨b,rfl⟩
 |l::a,L,x,b=>by have c:=F4 L l x b;have d:=x3 a (gK L l) x c.1;show⟨d.1,d.2.trans c.2⟩
def F6(L:List (List Nat))(l:List Nat):l∈gK L l:=by
 unfold gK;split
 .assumption
 .simp
def F5(L:List (List Nat))(l:List Nat):(gK L l).length<=L.length+1:=by
 unfold gK;split
 .show nN _
 .simp
def vA:∀(a L:List (List Nat)),∀x∈a,x∈ie L a
 |l::a,L,x,b=>by
  rcases bG.mp b with rfl | b
  .show(x3 a (gK L x) x (F6 L x)).1
  .show vA a (gK L l) x b
def VI:Sp:=λe H Q _=>∃(d c:ab)(a L:List (List Nat)),e= [.ref d,.ref c]/\Rows H d a/\H c=some (.dT (jF L))/\L.length<=2000000/\a.length<=1000000/\∀q b,H q=none->aO c H b->b c=some (.dT (jF (ie L a)))->L2.Row b q (a.map (ie L a).idxOf)->Q (.ref q) b
def Hn(G:bh K mg ad):bu P w K mg base 1 "numbered" ["lines","known"] VI:=by
 show G.Oy.hsX yY λf a0 A b8 s H vs Q E hr h=>?_;show qM h λY g m L N v o c0 c3 k=>?_;subst h N;show ai v λas B R=>?_;clear v;have hu:=hr.units;have F:(A.deeper (envOfC "numbered" (aS CJ) s.heap.objs.size f a0)).units+1<cLine:=QA;show⟨_,(ak (stX 2 yY.nd (bt ag))
 (ak (fA rfl (fV K (pv 0)) (gnX 3 yY.nd)
 (ak (stX 4 yY.nd (yK (tupK K) QE G.L6 Md (ae (pv 3) ag)))
 (ak (bL (tR (HK F (pv 4) (pv 1)))
  (aq (vZ F (pv 1) (pv 4) (di Ni QE G.dN dO (ae (pv 1) ag)) rfl))
  de)
 (aq (dR (gI K (pv 2) (pQ F (pv 1) (pv 4) (λ_ _=>rfl))))))))
 (aq (aK (pv 2))))),?_⟩
 k_in;show⟨cT _,λq W=>?_⟩;generalize e1:upd H q _=H1;have s1:=sN e1 W;have v1:L2.Row H1 q []:=vN e1;have S:g≠q:=eu o W;have b5:Y≠g:=kI B o (λz=>nomatch z);have b0:=Paired.length R;dsimp only[gT,iC];show⟨Y,rfl,⟨_,aj.of (s1 _ _ B)⟩,forL (xs:=as.map V.ref) (λi σ n=>∃T U,σ= [some (.ref Y),some (.ref g),some (.ref q),T,U]/\aO g H n/\n g=some (.dT (jF (ie L (m.take i))))/\L2.Row n q ((m.take i).map (ie L (m.take i)).idxOf)/\(ie L (m.take i)).length<=L.length+i) ⟨none,none,rfl,fh s1,s1 _ _ o,v1,bo _⟩ (λi σ n _ b4=>bp b4 λ_ _ _ z _=>aj.of (z.at B b5)) ?_ ?_⟩
 .intro i x σ n hx r;show ja r λT U b J j p b2=>?_;subst r b;show ai (fW hx) λa a5 b=>?_;subst b;show ai (Paired.get' R a5) λl C d=>?_;have c2:=(dW.mp C).1;have d:H a=some (.lst (vr l)):=d;have a4:L2.Row n a l:=J.at d (kI d o (λz=>nomatch z));generalize hM:ie L (m.take i)=M at *;have a3:ie L (m.take (i+1))=gK M l:=by rw[take_snoc C];unfold ie at hM ⊢;rw[ql,hM];rfl
  have O:(m.take (i+1)).map (gK M l).idxOf=(m.take i).map M.idxOf++[(gK M l).idxOf l]:=by rw[take_snoc C,fk];congr 1;show oT λx hx=>?_;show(F4 M l x (hM▸vA (m.take i) L x hx)).2
  have c1:=F5 M l;rw[a3,O];lk;show⟨_,.inl ⟨aj.of a4,λI D=>?_⟩⟩;generalize e2:upd n I _=H2;have Z:=sN e2 D;have t2:H2 I=some (.tup ((kG l).map kV)):=by rw[<-e2,ar,Qw]
  have X:=Z _ _ j;have fin:∀y:Hp,aO g H y->y g=some (.dT (jF (gK M l)))->L2.Row y q ((m.take i).map M.idxOf)->y I=some (.tup ((kG l).map kV))->pY K "list" (V.ref q) y/\rH (aB 1) (aB 4) [some (.ref Y),some (.ref g),some (.ref q),some (.ref a),some (.ref I)] y λx H1=>tT (V.ref q) [x] H1 λx H4=>∃T U,(some (V.ref a)=T/\some (V.ref I)=U)/\aO g H H4/\H4 g=some (.dT (jF (gK M l)))/\L2.Row H4 q ((m.take i).map M.idxOf++[(gK M l).idxOf l])/\(gK M l).length<=L.length+(i+1):=λy b3 k3 q3 t3=>by
   have hv:=BD l (gK M l);rw[QG (F6 M l)]at hv;show⟨.inl ⟨rfl,_,aj.of q3⟩,aZ g _ ⟨rfl,by rw[<-hv];show fN.t k3 t3,aJ q _ _ ⟨rfl,rfl,q3,by rw[dh,ay,ff,aQ];lia,aZ _ _ ⟨⟨rfl,rfl⟩,qH b3 W,?_,?_,QA⟩⟩⟩⟩
   .rw[az S];show k3
   .show upd _ _ _ _=_;rw[ar];show _=some (HO.lst (vr _));rw[<-iG];rfl
  have q2:=Z _ _ p;have b7:I≠g:=λe=>by rw[e,j]at D;cases D
  show aZ g _ ⟨rfl,fN.t X t2,?_⟩;k_in;rw[BD l M];by_cases c:l∈M
  .rw[QG c];have e3:gK M l=M:=QG c;rw[QH (by show dP)];show fin H2 (gP J (fh Z)) (by rw[e3];show X) q2 t2
  .rw[QH c];have e3:gK M l=M++[l]:=QH c;rw[QG (show(!(none:Option V).isSome)=true from rfl)];unfold tW;lk;show aZ g _ ⟨rfl,X,?_⟩;rw[GL];exists _,lQ.t X t2 (by rw[GL,aQ];lia);rw[QN M l c,<-e3];show fin _ (aO.put (gP J (fh Z))) ar ?_ ?_
   .show upd _ _ _ _=_;rw[az S.symm];show q2
   .rw[az b7];show t2
 .intro σ n u;show ja u λT U b J j p b2=>?_;subst u b;rw[ay,b0,gk]at j p;k_in;show k q n W J j p
def Ds(b:List (List Nat)):∀(as:List (List Nat))(i:Nat),i<=as.length->(Rt.tab b as)[i]? =some (Rt.rowOf (as.drop i) b)
 |[],i,h=>by
  obtain rfl:i=0:=by simpa using h
  rfl
 |a::as,0,_=>rfl
 |a::as,i+1,h=>Ds b as i (by simpa using h)
def Cy(as:List (List Nat)):∀(a:List (List Nat))(j:Nat),j<=a.length->(Rt.rowOf as a)[j]? =some (Rt.lcs as (a.drop j))
 |[],j,h=>by
  obtain rfl:j=0:=by simpa using h
  rfl
 |b::a,0,_=>rfl
 |b::a,j+1,h=>Cy as a j (by simpa using h)
def EL(id:List Nat->Nat)(c:List Nat)(as:List (List Nat)):∀a:List (List Nat),(∀b∈a,id b=id c↔b=c)->ia (id c) (a.map id) (Rt.rowOf as a)=Rt.rowOf (c::as) a
 |[],_=>by show[0]= [Rt.lcs (c::as) []];rw[Rt.BH]
 |b::a,h=>by
  have k:=EL id c as a λx j=>h x (du _ j);have f:=h b cZ;show(if id b=id c then(Rt.rowOf as a).getD 0 0+1 else max (Rt.lcs as (b::a)) ((ia (id c) (a.map id) (Rt.rowOf as a)).getD 0 0))::ia (id c) (a.map id) (Rt.rowOf as a)=Rt.lcs (c::as) (b::a)::Rt.rowOf (c::as) a;rw[k,Rt.GR];congr 1;have g:(Rt.rowOf as a).getD 0 0=Rt.lcs as a:=by obtain⟨r,e⟩:=Rt.wg as a;rw[e];rfl
  have i:(Rt.rowOf (c::as) a).getD 0 0=Rt.lcs (c::as) a:=by obtain⟨r,e⟩:=Rt.wg (c::as) a;rw[e];rfl
  rw[g,i];by_cases d:b=c
  .rw[QG (f.mpr d),QG d.symm]
  .rw[QH (λz=>d (f.mp z)),QH (λz=>d z.symm)]
def KP(id:List Nat->Nat)(c:List (List Nat)):∀d:List (List Nat),(∀a∈d,∀b∈c,id b=id a↔b=a)->jL (c.map id) (d.map id)=Rt.tab c d
 |[],_=>by show[fc ((c.map id).length+1) 0]= [Rt.rowOf [] c];rw[Rt.Cw,ay]
 |a::d,h=>by have g:=KP id c d λx f=>h x (du _ f);show ia (id a) (c.map id) ((jL (c.map id) (d.map id)).headD [])::jL (c.map id) (d.map id)=Rt.rowOf (a::d) c::Rt.tab c d;rw[g];obtain⟨r,e⟩:=Rt.Dt c d;rw[show(Rt.tab c d).headD []=Rt.rowOf d c by rw[e];rfl,EL id a d c (h a cZ)]
def Qb{L:List (List Nat)}{a b:List Nat}(f:a∈L)(g:b∈L):L.idxOf b=L.idxOf a↔b=a:=by
 constructor
 .intro e;have c:=List.getElem_idxOf (Li f);have d:=List.getElem_idxOf (Li g);rw[<-c,<-d];congr 1
 .intro e;rw[e]
def wk(as a:List (List Nat)):List Nat:=Rt.jN (as.length+a.length+1) as a
def Xh(as a:List (List Nat)):qD as a=wk as a:=Rt.Hy as a
def Xf(a:List (List Nat)):wk [] a=fc a.length 2:=by show a.map (λ_=>2)=_;rw[List.map_const']
def Xg(as:List (List Nat)):wk as []=fc as.length 1:=by
 cases as with
 |nil=>rfl
 |cons a as=>show(a::as).map (λ_=>1)=_;rw[List.map_const']
def Xe(a b:List Nat)(as c:List (List Nat)):wk (a::as) (b::c)=if a=b then 0::wk as c else if Rt.lcs (a::as) c<=Rt.lcs as (b::c)then 1::wk as (b::c)else 2::wk (a::as) c:=by show(if a=b then 0::Rt.jN _ as c else if Rt.lcs (a::as) c<=Rt.lcs as (b::c)then 1::Rt.jN _ as (b::c)else 2::Rt.jN _ (a::as) c)=_;unfold wk;rw[Rt.uo _ (as.length+c.length+1) as c (by simp only[aG];lia) QA,Rt.uo _ (as.length+(b::c).length+1) as (b::c) (by simp only[aG];lia) QA,Rt.uo _ ((a::as).length+c.length+1) (a::as) c (by simp only[aG];lia) QA]
def Cs(v:Nat):∀n:Nat,(fc n [V.int (v:Int)]).flatten=vr (fc n v)
 |0=>rfl
 |n+1=>by rw[qw,rX,Cs v n];rfl
def BP(n m:Nat)(σ:List (Option V)):Nat:=match(σ[7]? :Option (Option V)),(σ[8]? :Option (Option V))with
 |some (some (.int i)),some (some (.int j))=>(n-i.toNat)+(m-j.toNat)
 |_,_=>0
def F7:∀(a L:List (List Nat)),(ie L a).length<=L.length+a.length
 |[],L=>bo _
 |l::a,L=>by have b:=F7 a (gK L l);have c:=F5 L l;show(ie (gK L l) a).length<=_;rw[aG];lia
def PW(H:Hp)(h k g e f d c:ab)(b:List ab)(as a L:List (List Nat))(σ:L2.St)(H':Hp):Prop:=∃(i j:Nat)(acc:List Nat),σ= [some (.ref h),some (.ref k),some (.ref g),some (.ref e),some (.ref f),some (.ref d),some (.ref c),some (vn i),some (vn j)]/\ah H H'/\L2.Row H' e (as.map L.idxOf)/\L2.Row H' f (a.map L.idxOf)/\H' d=some (.lst (b.map V.ref))/\b9 (del H' c) b (Rt.tab a as)/\L2.Row H' c acc/\i<=as.length/\j<=a.length/\acc.length<=i+j/\wk as a=acc++wk (as.drop i) (a.drop j)
def Vp:Sp:=λd H Q _=>∃(b c:ab)(as a:List (List Nat)),d= [.ref b,.ref c]/\Rows H b as/\Rows H c a/\as.length<=400000/\a.length<=400000/\gH H (.lst (vr (qD as a))) Q
def RN(G:bh K mg ad):bu P w K mg base 3 "hold_against" ["first_lines","second_lines"] Vp:=by
 show G.N3.hsX lI λf i0 A g5 s H vs Q E hr h=>?_;show qM h λla lb as c b4 e7 e8 j2 j3 k=>?_;subst h b4;have hu:=hr.units;show⟨_,(ak (stX 2 lI.nd SH)
 (ak (stX 3 lI.nd (pqX (Hn G) hr (ae (pv 0) (ae (pv 2) ag))))
 (ak (stX 4 lI.nd (pqX (Hn G) hr (ae (pv 1) (ae (pv 2) ag))))
 (ak (stX 5 lI.nd (pqX (RG G) hr (ae (pv 3) (ae (pv 4) ag))))
 (ak (stX 6 lI.nd (bt ag))
 (ak (stX 7 lI.nd aD)
 (ak (stX 8 lI.nd aD)
 (ak (Ck PassesOwn.never (PW.pt (gS (cW pO (pv 7) (di (eK K) QE G.dN dO (ae (pv 3) ag)) QE) (ju (cW pO (pv 8) (di (eK K) QE G.dN dO (ae (pv 4) ag)) QE))))
 (aq (bL (cW (fz K hu) (cz (cX K) (pv 3) (pv 7) (λ_ _=>rfl)) (cz (cX K) (pv 4) (pv 8) (λ_ _=>rfl)) QE)
  (ak (dR (gI K (pv 6) (gi G.Mh)))
  (ak (ro (i:=7) lI.nd rfl (Or.inl rfl) aD yg)
  (aq (ro (i:=8) lI.nd rfl (Or.inl rfl) aD yg))))
  (aq (bL (cW Hv (cz (cX K) (cz (cX K) (pv 5) (cU ik (pv 7) aD) (λ_ _=>rfl)) (pv 8) (λ_ _=>rfl)) (cz (cX K) (cz (cX K) (pv 5) (pv 7) (λ_ _=>rfl)) (cU ik (pv 8) aD) (λ_ _=>rfl)) QE)
   (ak (dR (gI K (pv 6) (gi G.Fc)))
   (aq (ro (i:=7) lI.nd rfl (Or.inl rfl) aD yg)))
   (ak (dR (gI K (pv 6) (gi G.Fi)))
   (aq (ro (i:=8) lI.nd rfl (Or.inl rfl) aD yg))))))))
 (aq (aK (cU gh (cU gh (pv 6) (cU BS (bt (ae (gi G.Fc) ag)) (cU lF (di (eK K) QE G.dN dO (ae (pv 3) ag)) (pv 7)))) (cU BS (bt (ae (gi G.Fi) ag)) (cU lF (di (eK K) QE G.dN dO (ae (pv 4) ag)) (pv 8)))))))))))))),?_⟩
 dsimp only[bg,bf,KI,a7,aL,aR,aB,aY,L2.start,ee,aX,aU,aV,aW,d5,d4];intro t a3;generalize e1:upd H t _=H1;have s1:=sN e1 a3;have k1:H1 t=some (.dT (jF [])):=vN e1;show eY la t as [] ⟨rfl,e7.mono s1,k1,QD,QA,λp H2 e3 b2 k2 v2=>?_⟩;have s2:ah H H2:=b2.same s1 a3;show eY lb t c (ie [] as) ⟨rfl,e8.mono s2,k2,?_,QA,λJ H3 g4 b3 k3 v3=>?_⟩
 .have:=F7 as [];rw[dC]at this;lia
 have s3:ah H H3:=λb o e=>b3.at (s2 b o e) (eu e a3);generalize hL:ie (ie [] as) c=L at *;have F:as.map (ie [] as).idxOf=as.map L.idxOf:=oT λx hx=>by rw[<-hL];show((x3 c (ie [] as) x (vA as [] x hx)).2).symm
 rw[F]at v2;have e9:∀a∈as,a∈L:=λa U=>hL▸(x3 c (ie [] as) a (vA as [] a U)).1;have f3:∀b∈c,b∈L:=λb W=>hL▸vA c (ie [] as) b W;have O:∀a∈as,∀b∈c,L.idxOf b=L.idxOf a↔b=a:=λa U b W=>Qb (e9 a U) (f3 b W);have c7:=KP L.idxOf c as O;have a5:L2.Row H3 p (as.map L.idxOf):=b3.at v2 (kI v2 k2 (λz=>nomatch z));have i1:H p=none:=s1.free e3;have i2:H J=none:=s2.free g4;show eY p J _ _ ⟨rfl,a5,v3,by rw[ay];lia,by rw[ay];lia,λT H4 B j1 s4 M N h9=>?_⟩;rw[c7]at N;dsimp only[bw,aR,tC];show⟨cT _,λg d=>?_⟩;generalize e5:upd H4 g _=H5;have s5:=sN e5 d;have v5:L2.Row H5 g []:=vN e5;have S4:=s3.trans s4;have d8:H g=none:=S4.free d;have n1:p≠g:=λe=>by rw[<-e,s4 _ _ a5]at d;cases d
 have n2:J≠g:=λe=>by rw[<-e,s4 _ _ v3]at d;cases d
 have n3:T≠g:=λe=>by rw[<-e,M]at d;cases d
 have b8:b9 (del H5 g) B (Rt.tab c as):=by rw[<-e5,fU,FP d];show N
 generalize e0:bC _ _=NX;show DK (PW H la lb t p J T g B as c L) (λσ _=>BP as.length c.length σ) ⟨0,0,[],rfl,S4.trans s5,(s4.trans s5) _ _ a5,(s4.trans s5) _ _ v3,s5 _ _ M,b8,v5,cT _,cT _,cT _,rfl⟩ ?_;intro σ u S;show jD S λi j y R=>e0_11 R λb1 sH D I Y Z a4 hi hj i3 heq=>?_;clear R;subst S b1;lk;exists _,.inl ⟨_,aj.of D,rfl⟩;rw[dh,ay];have fin:∀(X:List Nat),wk as c=y++X->X=fc (as.length-i) 1++fc (c.length-j) 2->NX [some (.ref la),some (.ref lb),some (.ref t),some (.ref p),some (.ref J),some (.ref T),some (.ref g),some (vn i),some (vn j)] u:=λX e1 e2=>by
  rw[<-e0];dsimp only[bC,a8,aB,bw,aL,aR,tC,bF,bE,bJ,aX,aU,aV,aW,d5,d4];show⟨by rw[aQ];simp,λq6 f5=>?_⟩;generalize g6:upd u q6 _=H6;have s6:=sN g6 f5;have v6:H6 q6=some (.lst [.int 1]):=vN g6;exists _,.inl ⟨_,aj.of (s6 _ _ D),rfl⟩;rw[dh,ay];show⟨_,v6,QA,QA,?_,λq7 f6=>?_⟩
  .rw[aQ,aG,dC];lia
  rw[show((as.length:Int)-(i:Int)).toNat=as.length-i by lia];generalize g7:upd H6 q7 _=H7;have s7:=sN g7 f6;have v7:L2.Row H7 q7 (fc (as.length-i) 1):=by rw[<-g7];show upd _ _ _ _=_;rw[ar];show congrArg (λl=>some (HO.lst l)) (Cs 1 _)
  show lz ((s6.trans s7) _ _ a4) v7 (by rw[oS];lia) λq8 H8 f8 s8 v8=>?_;have S8:=s6.trans (s7.trans s8);show⟨by rw[aQ];simp,λq9 f7=>?_⟩;generalize g9:upd H8 q9 _=H9;have s9:=sN g9 f7;have v9:H9 q9=some (.lst [.int 2]):=vN g9;exists _,.inl ⟨_,aj.of ((S8.trans s9) _ _ I),rfl⟩;rw[dh,ay];show⟨_,v9,QA,QA,?_,λc8 c6=>?_⟩
  .rw[aQ,aG,dC];lia
  rw[show((c.length:Int)-(j:Int)).toNat=c.length-j by lia];generalize b5:upd H9 c8 _=d1;have c9:=sN b5 c6;have v10:L2.Row d1 c8 (fc (c.length-j) 2):=by rw[<-b5];show upd _ _ _ _=_;rw[ar];show congrArg (λl=>some (HO.lst l)) (Cs 2 _)
  show lz ((s9.trans c9) _ _ v8) v10 (by rw[aP,oS,oS];lia) λg8 d2 d3 h8 v11=>?_;have b0:=sH.trans (S8.trans (s9.trans c9));show k g8 d2 (b0.free d3) (b0.trans h8) ?_;rw[v11,Xh,e1,e2,eZ]
 by_cases c1:i<as.length
 .show dw (QI QA) ?_;exists _,.inl ⟨_,aj.of I,rfl⟩;rw[dh,ay];by_cases c2:j<c.length
  .show dw (QI QA) ?_;obtain⟨a,U⟩:∃a,as[i]? =some a:=⟨_,dA c1⟩;obtain⟨b,W⟩:∃b,c[j]? =some b:=⟨_,dA c2⟩;have C:as.drop i=a::as.drop (i+1):=by rw[kQ c1,(dW.mp U).2]
   have a0:c.drop j=b::c.drop (j+1):=by rw[kQ c2,(dW.mp W).2]
   rw[C,a0,Xe]at heq;exists λσ' u=>BP as.length c.length σ'<(as.length-i)+(c.length-j)/\PW H la lb t p J T g B as c L σ' u,λσ' u h=>⟨_,h.1,rfl,h.2⟩;have app:∀(v q r:Nat),q<=as.length->r<=c.length->i+j<q+r->wk as c=(y++[v])++wk (as.drop q) (c.drop r)->y.length+1<=q+r->i<=q->j<=r->pY K "list" (V.ref g) u/\tT (V.ref g) [vn v] u λx H1=>BP as.length c.length [some (.ref la),some (.ref lb),some (.ref t),some (.ref p),some (.ref J),some (.ref T),some (.ref g),some (vn q),some (vn r)]<(as.length-i)+(c.length-j)/\PW H la lb t p J T g B as c L [some (.ref la),some (.ref lb),some (.ref t),some (.ref p),some (.ref J),some (.ref T),some (.ref g),some (vn q),some (vn r)] H1:=λv q r h1 h2 h3 h4 h5 h6 h7=>by
    show⟨.inl ⟨rfl,_,aj.of a4⟩,aJ g _ _ ⟨rfl,rfl,a4,by rw[dh,aQ];lia,?_,aJ q r (y++[v]) ⟨rfl,sH.upd d8,?_,?_,?_,?_,?_,h1,h2,?_,h4⟩⟩⟩
    .show(as.length-((q:Int)).toNat)+(c.length-((r:Int)).toNat)<_;rw[eN,eN];lia
    .show upd _ _ _ _=_;rw[az n1];show D
    .show upd _ _ _ _=_;rw[az n2];show I
    .rw[az n3];show Y
    .rw[fU];show Z
    .show upd _ _ _ _=_;rw[ar];show _=some (HO.lst (vr _));rw[<-iG];rfl
    .rw[aP,aG,dC];lia
   show dk (v:=vn (L.idxOf a)) (aj.of D) (at_of rfl (oJ (by rw[eP,U];rfl))) ?_;show dk (v:=vn (L.idxOf b)) (aj.of I) (at_of rfl (oJ (by rw[eP,W];rfl))) ?_;lk;rw[vp];have b7:=O a (dD U) b (dD W);by_cases c3:a=b
   .rw[QG c3]at heq;show dw (QI (b7.mpr c3.symm).symm) ?_;show app 0 (i+1) (j+1) QA QA QA (by rw[heq];simp) QA QA QA
   rw[QH c3]at heq;show dJ (QJ (λz=>c3 (b7.mp z.symm).symm)) ?_;show ai (Paired.get Z (Ds c as (i+1) QA)) λr1 g0 n=>?_;show ai (Paired.get Z (Ds c as i QA)) λr0 f9 m=>?_;have c5:=Cy (as.drop (i+1)) c j QA;have c0:=Cy (as.drop i) c (j+1) QA;rw[a0]at c5;rw[C]at c0;have n:L2.Row u r1 (Rt.rowOf (as.drop (i+1)) c):=gB _ _ n;have m:L2.Row u r0 (Rt.rowOf (as.drop i) c):=gB _ _ m;rw[C]at m;show dk (v:= .ref r1) (aj.of Y) (at_of (show(i:Int)+1=((i+1:Nat):Int)by lia) (by rw[eP,g0];rfl)) ?_;show dk (aj.of n) (at_of rfl (oJ c5)) ?_;show dk (v:= .ref r0) (aj.of Y) (at_of rfl (by rw[eP,f9];rfl)) ?_;show dk (aj.of m) (at_of (show(j:Int)+1=((j+1:Nat):Int)by lia) (oJ c0)) ?_;k_in;by_cases c4:Rt.lcs (a::as.drop (i+1)) (c.drop (j+1))<=Rt.lcs (as.drop (i+1)) (b::c.drop (j+1))
   .rw[QG c4]at heq;show dw (QI QA) ?_;show app 1 (i+1) j QA QA QA (by rw[heq,a0];simp) QA QA QA
   .rw[QH c4]at heq;show dJ (QJ QA) ?_;show app 2 i (j+1) QA QA QA (by rw[heq,C];simp) QA QA QA
  .show dJ (QJ QA) ?_;have e6:j=c.length:=QA;show fin _ heq ?_;rw[e6,rW,Xg,iI,mV];simp
 .show dJ (QJ QA) ?_;have e4:i=as.length:=QA;show fin _ heq ?_;rw[e4,rW,Xf,iI,mV];simp
def oR(o:Option (List (Str×List Nat)))(w:Option (List Nat)):Prop:=match w with
 |none=>o=none
 |some b=>∃a,ir b=some a/\o=some a
def mZ(p:eh)(q:jA):Prop:=match q with
 |.para b=>p.kind="text"/\ir b=some p.aF
 |.row t=>p.kind="row"/\p.names= [t]/\eQ t=true
 |.table a=>p.kind="table"/\p.names=a/\a.all eQ=true/\a≠ []/\a.length<=6
 |.blank=>p.kind="blank"
 |.opens t=>p.kind="if"/\p.names= [t]/\eQ t=true
 |.closes=>p.kind="end"
def ib:Nat->List jA->Option Nat
 |n,[]=>some n
 |n,.opens _::r=>if 4<=n then none else ib (n+1) r
 |n,.closes::r=>if n=0 then none else ib (n-1) r
 |n,_::r=>ib n r
structure lZ(T:eS)(t:iZ):Prop where
 width:T.width=t.width
 lines:T.lines=t.lines
 head:oR T.head t.head
 foot:oR T.foot t.foot
 parts:Paired mZ T.parts t.parts
 w1:20<=t.width/\t.width<=100
 l1:5<=t.lines/\t.lines<=60
 d6:t.parts.length<=40
 deep:ib 0 t.parts=some 0
 ok:∀x∈T.parts,uI x
def l7(ad:Ad)(H:Hp)(a:ab)(t:iZ):Prop:=∃(T:eS)(ps:List ab),jj ad H a T ps/\lZ T t/\uK ad H a t.width t.lines (t.head.map λb=>au "head "++b) (t.foot.map λb=>au "foot "++b) (t.parts.map ll)
def l7.mono{H H':Hp}{a:ab}{t:iZ}(s:ah H H'):l7 ad H a t->l7 ad H' a t:=λb=>bp b λT f c d e=>⟨T,f,c.mono s,d,e.mono s⟩
structure LM(s:lg):Prop where
 bytes:s.bytes.length<=130000
 pages:s.pages<=20000
structure kP(h:bz):Prop where
 Py:h.templates.length<=8
 iO:h.answers.length<=60
 Bp:h.sent.length<=40
 good:∀x∈h.answers,lS x
 tells:∀s∈h.sent,∀y∈s.tells,y.1<h.answers.length
 ue:∀s∈h.sent,LM s
def lM(ad:Ad)(H:Hp)(M:List ab)(a vl:ab)(i:Nat)(x:dg):Prop:=∃(d b c:ab)(vs:List ab),off M H a=some (.ins ad.Answer d (AA (vn i) (vn x.person) (vn x.day) (.ref b) (.ref c) (.ref vl)))/\L2.Row (off M H) b x.test/\L2.Row (off M H) c x.unit/\H vl=some (.lst (vs.map V.ref))/\Paired (lu ad (off M H)) vs x.versions
structure eO(ad:Ad)(H:Hp)(lab:ab)(h:bz):Prop where
 ex:∃(dx T A S:ab)(tas aas sas vls:List ab),(T::A::S::vls).Nodup/\off (T::A::S::vls) H lab=some (.ins ad.jh dx (nv (.ref T) (.ref A) (.ref S)))/\H T=some (.lst (tas.map V.ref))/\Paired (l7 ad (off (T::A::S::vls) H)) tas h.templates/\H A=some (.lst (aas.map V.ref))/\H S=some (.lst (sas.map V.ref))/\Paired (kr ad (off (T::A::S::vls) H)) sas h.sent/\aas.length=h.answers.length/\vls.length=h.answers.length/\∀(i:Nat)(x:dg),h.answers[i]? =some x->∃a vl,aas[i]? =some a/\vls[i]? =some vl/\lM ad H (T::A::S::vls) a vl i x
 ok:kP h
def lM.mono{H H':Hp}{M:List ab}{a vl:ab}{i:Nat}{x:dg}(s:ah H H'):lM ad H M a vl i x->lM ad H' M a vl i x:=λb=>jb b λc j ul k d e f g h=>⟨c,j,ul,k,ou s _ _ d,ou s _ _ e,ou s _ _ f,s _ _ g,Paired.dS h λ_ _ q=>q.mono (ou s)⟩
def eO.mono{H H':Hp}{b:ab}{h:bz}(s:ah H H')(q:eO ad H b h):eO ad H' b h:=by obtain⟨j,T,A,S,f,c,e,g,n,o,p,r,t,u,v,y,z,d⟩:=q.ex;show⟨⟨j,T,A,S,f,c,e,g,n,ou s _ _ o,s _ _ p,Paired.dS r λ_ _ q=>q.mono (ou s),s _ _ t,s _ _ u,Paired.dS v λ_ _ q=>q.mono (ou s),y,z,λi x B=>?_⟩,q.ok⟩;obtain⟨a,C,k,l,m⟩:=d i x B;show⟨a,C,k,l,m.mono s⟩
def HC{α β:Type}{F:α->β->Prop}:∀{l:List α}{m:List β},l.length=m.length->(∀(i:Nat)(b:β),m[i]? =some b->∃a,l[i]? =some a/\F a b)->Paired F l m
 |[],[],_,_=> .nil
 |a::l,b::m,hl,h=>by obtain⟨d,e,r⟩:=h 0 b rfl;obtain rfl:a=d:=df.inj e;show .cons r (HC (by simpa using hl) λi c f=>h (i+1) c f)
def lM.at_{H:Hp}{M:List ab}{a vl:ab}{i:Nat}{x:dg}(g:lS x):lM ad H M a vl i x->iV ad H a i x:=λ⟨b,j,ul,k,c,d,e,f,h⟩=>⟨⟨b,j,ul,vl,k,fX _ _ c,fX _ _ d,fX _ _ e,f,Paired.dS h λ_ _ q=>q.mono fX⟩,g.ne,by have:=g.d6;lia⟩
def xI(as:List dg):(allOf as).length=as.length:=by unfold allOf;rw[ay,D9]
def eO.mH{H:Hp}{d:ab}{h:bz}(q:eO ad H d h):mQ ad H d h.answers h.sent:=by
 show ml q.ex λl T A S u f j v z o B C p r s t D g=>?_;show⟨⟨l,T,A,S,f,j,fX _ _ o,p,HC (by rw[t,xI]) λi b c=>?_,r,Paired.dS s λ_ _ q=>q.mono fX⟩,by have:=q.ok.Bp;lia,q.ok.iO,q.ok.tells⟩;obtain⟨x,k,rfl⟩:∃x,h.answers[i]? =some x/\b=(i,x):=by
  unfold allOf at c;rw[eP,D6]at c;cases e:h.answers[i]? with
  |none=>rw[e]at c;cases c
  |some x=>rw[e]at c;exists x,rfl;have:=df.inj c;rw[<-this];simp
 show bp (g i x k) λa E m y n=>?_;show⟨a,m,n.at_ (q.ok.good x (dD k))⟩
structure Fr(R:List ab)(H0 H H0' H':Hp):Prop where
 sub:ah H0' H'
 keep:∀b,H b≠none->H0 b=none->b∉R->H' b=H b/\H0' b=none
def Fr.then{R:List ab}{c H a d H':Hp}(f:Fr R c H a d)(s:ah d H'):Fr R c H a H':=⟨f.sub.trans s,λb h i k=>by
 obtain⟨g,j⟩:=f.keep b h i k;cases e:H b with
 |none=>show absurd e h
 |some o=>rw[e]at g;show⟨s _ _ g,j⟩⟩
def Fr.of{R:List ab}{a H H':Hp}(f:ah a H)(s:ah H H'):Fr R a H a H':=⟨f.trans s,λb d c _=>by
 cases e:H b with
 |none=>show absurd e d
 |some o=>show⟨s _ _ e,c⟩⟩
def zB(ad:Ad)(H:Hp)(c:ab)(kind:Nat)(a:List Int)(d:List ab)(b:Nat):Prop:=∃g e f:ab,H c=some (.ins ad.Call g (Fm (vn kind) (.ref e) (.ref f) (vn b)))/\H e=some (.lst (a.map V.int))/\H f=some (.lst (d.map V.ref))
def iF(ad:Ad)(f:bz->List Int->List (List Nat)->Option (bz×List Int)):Sp:=λm H Q _=>∃(i c:ab)(h h':bz)(kind j:Nat)(e:List Int)(d:List ab)(b:List (List Nat))(ans:List Int)(k:Hp),m= [.ref i,.ref c]/\eO ad k i h/\ah k H/\zB ad H c kind e d j/\(b9 H d b/\∀a∈d,k a=none)/\(∀r∈b,r.length<=2500)/\f h e b=some (h',ans)/\
 ∀q l g,Fr d k H g l->eO ad g i h'->H q=none->g q=none->l q=some (.lst (ans.map V.int))->Q (.ref q) l
def Vo:Sp:=λb H Q _=>∃(a:ab)(xs:List V)(i:Int),b= [.ref a,.int i]/\H a=some (.lst xs)/\Q (.bl (dQ i 0 ((xs.length:Int)-1))) H
def mz(G:bh K mg ad):bu P w K mg base 1 "has_place" ["things","number"] Vo:=by
 show G.N2.hsX Ul λf d A c s H j Q E g h=>?_;show gJ h λa l i b e k=>?_;subst h b;exists _,(aq (aK (mF fF pO aD (pv 1) (di (eK K) QE G.dN dO (ae (pv 0) ag)))));lk;split
 .exists _,.inl ⟨_,aj.of e,rfl⟩;show iL k ?_;unfold dQ;walk_at"bend"
 .show iL k ?_;unfold dQ;walk_at"bend"
def Ku:Sp:=λb H Q _=>∃(a:ab)(xs:List Int),b= [.ref a]/\H a=some (.lst (xs.map V.int))/\xs.length<=1000000/\gH H (.lst (((xs.length:Int)::xs).map V.int)) Q
def ow(G:bh K mg ad):bu P w K mg base 1 "with_count" ["row"] Ku:=by show G.O8.hsX UC λf i A d s H n Q E m h=>?_;show fO h λa l b g c k=>?_;subst h b;exists _,(aq (aK (cU mC (bt (ae (di (eK K) QE G.dN dO (ae (pv 0) ag)) ag)) (pv 0))));lk;show⟨_,.inl ⟨_,aj.of g,rfl⟩,by rw[aQ];decide,λq j=>?_⟩;have e:ah H (upd H q (.lst [.int (((l.map V.int).length:Nat):Int)])):=ah.new j;show⟨_,ar,_,e _ _ g,by rw[ay,aQ];simp;lia,λz c=>k z _ (e.free c) (e.trans (ah.new c)) ?_⟩;rw[ar,ay];rfl
def reads{R:List ab}{d H:Hp}{c:ab}{h:bz}{ans:List Int}{Q:VK}(f:ah d H)(g:eO ad d c h)(k:∀q b a,Fr R d H a b->eO ad a c h->H q=none->a q=none->b q=some (.lst (ans.map V.int))->Q (.ref q) b):gH H (.lst (ans.map V.int)) Q:=λq b e s i=>k q b d (Fr.of f s) g e (f.free e) i
def eF{R:List ab}{d H:Hp}{b:ab}{h h':bz}{e ans:List Int}{Q:VK}(g:(h,e)=(h',ans))(i:ah d H)(f:eO ad d b h)(k:∀q c a,Fr R d H a c->eO ad a b h'->H q=none->a q=none->c q=some (.lst (ans.map V.int))->Q (.ref q) c):gH H (.lst (e.map V.int)) Q:=by cases g;show reads i f k
def kE{R:List ab}{d H:Hp}{c:ab}{f h':bz}{e ans:List Int}{Q:VK}(g:(f,e)=(h',ans))(k:∀q b a,Fr R d H a b->eO ad a c h'->H q=none->a q=none->b q=some (.lst (ans.map V.int))->Q (.ref q) b):∀q b a,Fr R d H a b->eO ad a c f->H q=none->a q=none->b q=some (.lst (e.map V.int))->Q (.ref q) b:=by cases g;show k
def iD{H a:Hp}{Q:VK}{o:HO}(s:ah H a)(k:gH H o Q):gH a o Q:=λq b c e d=>k q b (s.free c) (s.trans e) d
def BQ(l:List Nat):(eW l).map V.int=vr l:=by unfold eW;rw[gd];rfl
def kL{i:Int}{n:Nat}(h:dQ i 0 ((n:Int)-1)=true):∃j:Nat,i=(j:Int)/\j<n:=by unfold dQ at h;rw[eC,QK,QK]at h;show⟨i.toNat,QA,QA⟩
def eG{H:Hp}{Q:VK}{v:Int}(k:gH H (.lst ([v].map V.int)) Q):1<=dc/\∀p,H p=none->Q (.ref p) (upd H p (.lst [.int v])):=⟨by rw[aQ];decide,λp a=>k p _ a (ah.new a) ar⟩
def AD{i j n:Nat}{f g:Str}{σ:L2.St}{H:Hp}{Q:VK}{a C o l b k e:ab}{m d:List (Str×V)}{xs:List V}{v:V}(h:H a=some (.ins C o m))(c:ke K C)(y:gZ K C f)(u:m.lookup f=some (.ref l))(s:H l=some (.lst xs))(t:xs[n]? =some (.ref b))(h':H b=some (.ins k e d))(p:ke K k)(z:gZ K k g)(x:d.lookup g=some v)(q:Q v H)(hi:σ[i]? =some (some (.ref a)):=by rfl)(r:σ[j]? =some (some (vn n)):=by rfl):gb K (a8 (we K) (gb K (aB i) f) (aB j)) g σ H Q:=
 onS.mk hi ⟨a,C,o,m,_,rfl,h,c,y,u,onS.mk r (.inl ⟨l,_,_,.ref b,rfl,rfl,aj.of s,at_of rfl t,b,k,e,d,v,rfl,h',p,z,x,q⟩)⟩
def lH{as:List ab}{j:Nat}{b:ab}(h:as[j]? =some b):(as.map V.ref)[j]? =some (.ref b):=by rw[eP,h];rfl
def xP{H:Hp}{Q:VK}{a b:ab}{ns ms:List Int}(c:H a=some (.lst (ns.map V.int)))(d:H b=some (.lst (ms.map V.int)))(hz:ns.length+ms.length<=1000000)(k:gH H (.lst ((ns++ms).map V.int)) Q):bM (.ref a) (.ref b) H Q:=
 ⟨_,c,_,d,by rw[ay,ay,aQ];lia,λz hz=>k z _ hz (ah.new hz) (by rw[ar,fk])⟩
def jm{α β:Type}(l:List α)(k:Option β):Option β:=match l with
 |[]=>k
 |_=>none
def lx{α β:Type}(l:List α)(k:α->Option β):Option β:=match l with
 |[a]=>k a
 |_=>none
def uY{α β:Type}(l:List α)(k:α->α->Option β):Option β:=match l with
 |[a,b]=>k a b
 |_=>none
def xK{α β:Type}(l:List α)(k:α->α->α->Option β):Option β:=match l with
 |[a,b,c]=>k a b c
 |_=>none
def EO{α β:Type}(l:List α)(k:α->α->α->α->Option β):Option β:=match l with
 |[a,b,c,d]=>k a b c d
 |_=>none
def fE{α β:Type}{l:List α}{k:Option β}{y:β}(h:jm l k=some y):l= []/\k=some y:=by
 match l,h with
 |[],h=>show⟨rfl,h⟩
def gO{α β:Type}{l:List α}{k:α->Option β}{y:β}(h:lx l k=some y):∃a,l= [a]/\k a=some y:=by
 match l,h with
 |[_],h=>show⟨_,rfl,h⟩
def pz{α β:Type}{l:List α}{k:α->α->Option β}{y:β}(h:uY l k=some y):∃a b,l= [a,b]/\k a b=some y:=by
 match l,h with
 |[_,_],h=>show⟨_,_,rfl,h⟩
def sJ{α β:Type}{l:List α}{k:α->α->α->Option β}{y:β}(h:xK l k=some y):∃a b c,l= [a,b,c]/\k a b c=some y:=by
 match l,h with
 |[_,_,_],h=>show⟨_,_,_,rfl,h⟩
def ER{α β:Type}{l:List α}{k:α->α->α->α->Option β}{y:β}(h:EO l k=some y):∃a b c d,l= [a,b,c,d]/\k a b c d=some y:=by
 match l,h with
 |[_,_,_,_],h=>show⟨_,_,_,_,rfl,h⟩
def Bj(h:bz)(a:List Int)(b:List (List Nat)):Option (bz×List Int):=lx a λs=>jm b (some (dF h (.show_ s)))
def XE(G:bh K mg ad):bu P w K mg base 2 "show_sent" ["laboratory","call"] (iF ad Bj):=by
 show G.OU.has Kg (λvs H Q E h=>?_) (λf a3 A O s H vs Q E X h=>?_)
 .revert h;intro e;show iM e λN c h D kind stop nums R rows m H0 a _=>?_;subst e a;rfl
 .revert h;intro g;show i9 g λN c h D kind stop nums R rows m H0 a u S n J b5 d k=>?_;subst g a;obtain⟨cx,na,ra,hc,F,b0⟩:=n;obtain⟨i,rfl,rfl,L⟩:∃i,nums= [i]/\rows= []/\dF h (.show_ i)=(D,m):=by obtain⟨_,B,d⟩:=gO d;obtain⟨C,d⟩:=fE d;show⟨_,B,C,df.inj d⟩
  show mj ((u.mH.mono S).ex) λdx t aa sl a0 b7 g1 g2 g3 U W=>?_;have p:=Paired.length W;show⟨_,(ak (stX 2 Kg.nd (cz (cX K) (ax K (pv 1)) aD (λ_ _=>rfl)))
 (ak (bL (fZ (ez (pqX (mz G) X (ae (ax K (pv 0)) (ae (pv 2) ag)))))
  (aq (aK (bt (ae (gi G.jW) ag))))
  de)
 (aq (aK (cU mC (bt (ae aD ag)) (pqX (ow G) X (ae (ax K (cz (cX K) (ax K (pv 0)) (pv 2) (λ_ _=>rfl))) ag))))))),?_⟩
  dsimp only[bg,bf,a8,aB,tC,aY,L2.start,aX,aU,aV,aW,d5,d4];show aCallX G hc ?_;show dk (v:= .int i) (aj.of F) (fu rfl) ?_;lk;show aLaboratoryX G g1 ?_;show aJ sl _ i ⟨rfl,U,?_⟩;rw[ay,p];show ?_;lk;clear d;have d:pw h i (λx=>(h,0::ei x.bytes))=(D,m):=L;unfold pw at d;cases y:dQ i 0 ((h.sent.length:Int)-1)with
  |false=>rw[QG y]at d;cases d;show eG (reads S u k)
  |true=>rw[QH (by rw[y];show λz=>nomatch z)]at d;show ai (kL y) λj o hj=>?_;subst o;obtain⟨x,M⟩:∃x,h.sent[j]? =some x:=⟨_,dA hj⟩;rw[eN,M]at d;cases d;show ai (Paired.get W M) λb hb l=>kA l λdy rl td ks b1 b2 b3 b4=>?_;clear l;rw[QH QB];show⟨by rw[aQ];decide,λY I=>?_⟩;generalize T:upd H Y _=H1;have r:=sN T I;have v1:H1 Y=some (.lst ([(0:Int)].map V.int)):=vN T;show AD (r _ _ g1) G.tF.cl (G.qN _ QC) rfl (r _ _ U) (lH hb) (r _ _ b1) G.tH.cl (G.nt _ QC) rfl ?_;have a4:=(u.ok.ue x (dD M)).bytes;have q:(eW x.bytes).length=x.bytes.length:=ay ..;show aZ rl (eW x.bytes) ⟨rfl,by rw[BQ];show r _ _ b2,QA,λq2 H2 a5 Z v2=>?_⟩;show xP (Z _ _ v1) v2 (by rw[aG,aG,dC,q];lia) (iD (r.trans Z) ?_);have:=reads S u k;rw[q];show this
def Bd(h:bz)(a:List Int)(b:List (List Nat)):Option (bz×List Int):=jm a (jm b (some (dF h .duties)))
def Bb(h:bz)(a:List Int)(b:List (List Nat)):Option (bz×List Int):=jm a (jm b (some (dF h .counts)))
def mE(l:List (Nat×Nat)):List Int:=l.flatMap λx=>eW [x.1,x.2]
def HG(l:List (Nat×Nat))(x:Nat×Nat):mE (l++[x])=mE l++[(x.1:Int),(x.2:Int)]:=by unfold mE;rw[gc];simp[eW]
def HF(l:List (Nat×Nat)):(mE l).length=2*l.length:=by
 unfold mE;induction l with
 |nil=>rfl
 |cons x l a=>rw[kg,aP,a,aG];show 2+_=_;lia
def Xw(G:bh K mg ad):bu P w K mg base 4 "count_all" ["laboratory","call"] (iF ad Bb):=by
 show G.NM.has Ka (λvs H Q E h=>?_) (λf a3 A B s H vs Q E hr h=>?_)
 .revert h;intro b;show iM b λl c h O kind stop nums F rows i Y a _=>?_;subst b a;rfl
 .revert h;intro d;show i9 d λl c h O kind stop nums F rows i Y a p I g x b2 q k=>?_;subst d a;obtain⟨cx,na,ra,hc,b0,b1⟩:=g;obtain⟨rfl,rfl⟩:h=O/\i=0::eW [h.templates.length,h.answers.length,h.sent.length,(lj h).length]:=by have q:=(fE (fE q).2).2;have:=df.inj q;show⟨(Prod.mk.inj this).1,(Prod.mk.inj this).2.symm⟩
  show ml ((p.mono I).ex) λdx T A S b4 a0 b3 b5 h1 h2 h3 h4 h5 h6 h7 h8 h9 a4=>?_;have g1:=fX _ _ h2;have l1:=Paired.length h4;have l2:=Paired.length h7;show⟨_,(ak (stX 2 Ka.nd (bt (ae (di (eK K) QE G.dN dO (ae (ax K (pv 0)) ag)) (ae (di (eK K) QE G.dN dO (ae (ax K (pv 0)) ag)) (ae (di (eK K) QE G.dN dO (ae (ax K (pv 0)) ag)) ag)))))
 (aq (aK (cU mC (cU mC (bt (ae aD ag)) (pv 2)) (bt (ae (di (eK K) QE G.dN dO (ae (pqX (He G) hr (ae (pv 0) ag)) ag)) ag)))))),?_⟩
  lk;show aLaboratoryX G g1 ?_;exists _,.inl ⟨_,aj.of h3,rfl⟩;show aLaboratoryX G g1 ?_;exists _,.inl ⟨_,aj.of h5,rfl⟩;show aLaboratoryX G g1 ?_;exists _,.inl ⟨_,aj.of h6,rfl⟩;rw[ay,ay,ay,l1,h8,l2];show⟨by rw[aQ];decide,λC t=>⟨by rw[aQ];decide,λD e=>?_⟩⟩;generalize o:upd (upd H C _) D _=m;have z:C≠D:=λr=>by rw[<-r,ar]at e;cases e
  have s2:ah H m:=by rw[<-o];show(ah.new t).trans (ah.new e)
  have v1:m C=some (.lst ([(h.templates.length:Int),(h.answers.length:Int),(h.sent.length:Int)].map V.int)):=by rw[<-o,az z,ar];rfl
  have v2:m D=some (.lst ([(0:Int)].map V.int)):=vN o;show⟨_,v2,_,v1,by rw[aQ];simp,λR u=>?_⟩;generalize M:upd m R _=Z;have s3:=sN M u;have v3:Z R=some (.lst ([(0:Int),(h.templates.length:Int),(h.answers.length:Int),(h.sent.length:Int)].map V.int)):=vN M;have J:=s2.trans s3;show aZ l h ⟨rfl,(p.mH.mono I).mono J,λdq H4 ts a5 W n y=>?_⟩;show⟨_,.inl ⟨_,aj.of n,rfl⟩,by rw[aQ];decide,λU v=>?_⟩;rw[ay,Paired.length y];generalize N:upd H4 U _=H5;have X:=sN N v;have v5:H5 U=some (.lst ([((lj h).length:Int)].map V.int)):=vN N;show⟨_,(W.trans X) _ _ v3,_,v5,by rw[aQ];simp,λp6 j=>?_⟩;have L:=J.trans (W.trans X);show reads I p k p6 _ (L.free j) (L.trans (ah.new j)) (by rw[ar];rfl)
def Xz(G:bh K mg ad):bu P w K mg base 4 "list_duties" ["laboratory","call"] (iF ad Bd):=by
 show G.Ol.has wu (λvs H Q E h=>?_) (λf a3 A Y s H vs Q E hr h=>?_)
 .revert h;intro l;show iM l λv c h h' kind stop nums a0 rows B H0 b _=>?_;subst l b;rfl
 .revert h;intro m;show i9 m λv c h h' kind stop nums a0 rows B H0 b M s0 y T b3 R k=>?_;subst m b;obtain⟨cx,na,ra,hc,b1,b2⟩:=y;obtain⟨rfl,rfl⟩:h=h'/\B=0::((lj h).length:Int)::mE (lj h):=by have R:=(fE (fE R).2).2;have:=df.inj R;show⟨(Prod.mk.inj this).1,(Prod.mk.inj this).2.symm⟩
  have O:=xY M.ok.iO 20;show⟨_,(ak (stX 2 wu.nd (pqX (He G) hr (ae (pv 0) ag)))
 (ak (stX 3 wu.nd (bt (ae aD (ae (di (eK K) QE G.dN dO (ae (pv 2) ag)) ag))))
 (ak (fA rfl (fV K (pv 2)) (ya K rfl (nF (gnX 4 wu.nd) (nF (gnX 5 wu.nd) vV)))
  (aq (dR (kC K (pv 3) (bt (ae (pv 4) (ae (pv 5) ag)))))))
 (aq (aK (pv 3)))))),?_⟩
  dsimp only[bg,bf,a7,aL,aR,aB,tC,bw,bF,aY,L2.start,ee,aX,aU,aV,aW,d5,d4];show aZ v h ⟨rfl,M.mH.mono s0,λJ I ts a5 s1 j u=>?_⟩;show⟨_,.inl ⟨_,aj.of j,rfl⟩,by rw[aQ];simp,λq g=>?_⟩;rw[ay,Paired.length u];generalize e2:upd I q _=H2;have s2:=sN e2 g;have v2:H2 q=some (.lst (((0:Int)::((lj h).length:Int)::mE []).map V.int)):=vN e2;have S2:=s1.trans s2;have L:H q=none:=s1.free g;have b4:J≠q:=λe=>by rw[<-e,j]at g;cases g
  have a4:(lj h).length<=1200:=O;have W:=Paired.length u;dsimp only[gT,iC];show⟨J,rfl,⟨_,aj.of (s2 _ _ j)⟩,forL (xs:=ts.map V.ref) (λi σ t=>∃u4 u5,σ= [some (.ref v),some (.ref c),some (.ref J),some (.ref q),u4,u5]/\ah I t/\t q=some (.lst (((0:Int)::((lj h).length:Int)::mE ((lj h).take i)).map V.int))) ⟨none,none,rfl,s2,v2⟩ (λi σ t _ X=>bp X λ_ _ _ z _=>aj.of (z _ _ j)) ?_ ?_⟩
  .intro i x σ t hx o;show bp o λu4 u5 a F d=>?_;subst o a;show ai (fW hx) λtq U a=>?_;subst a;show ai (Paired.get' u U) λD C N=>?_;obtain⟨r,n⟩:=D;have b0:=(dW.mp C).1;have N:I tq=some (.tup [vn r,vn n]):=N;show aZ tq _ ⟨rfl,eV.of (F _ _ N),rfl,aZ _ _ ⟨rfl,aZ _ _ ⟨rfl,rfl,?_⟩⟩⟩;k_in;show⟨.inl ⟨rfl,_,aj.of d⟩,by rw[aQ];decide,λZ S=>?_⟩;generalize e4:upd t Z _=H4;have s4:=sN e4 S;have v4:H4 Z=some (.lst [vn r,vn n]):=vN e4;show eY q Z _ _ ⟨rfl,rfl,s4 _ _ d,v4,?_,aZ _ _ ⟨rfl,(F.trans s4).upd g,?_⟩⟩
   .rw[ay,aG,aG,HF,ff,aQ,aG,aG,dC];lia
   .rw[ar,take_snoc C,HG];simp
  .intro σ t p;show bp p λu4 u5 a F d=>?_;subst p a;rw[ay,W,gk]at d;show(reads s0 M k q t L (s1.trans F) d)
def A8(h:bz)(a:List Int)(b:List (List Nat)):Option (bz×List Int):=lx a λs=>jm b (some (dF h (.about s)))
def Bl(h:bz)(b:List Int)(c:List (List Nat)):Option (bz×List Int):=uY b λr a=>jm c (some (dF h (.told r a)))
def UW{L c:List (Nat×Nat)}{e:List Int}(m:L.Perm c)(l:(c.map (·.1)).Pairwise (·<·))(i:e.Perm ((L.map (·.1)).map λ(n:Nat)=>(n:Int)))(j:e.Pairwise (·<=·)):e=(c.map (·.1)).map λ(n:Nat)=>(n:Int):=by have d:(c.map (·.1)).Nodup:=l.imp λh=>eU h;have g:(L.map (·.1)).Nodup:=(m.map (·.1)).nodup_iff.mpr d;show bA (Ko i j g) λp f k o=>?_;subst f;congr 1;show List.Perm.eq_of_pairwise (λa b _ _ i j=>absurd i (Nat.lt_asymm j)) k l ?_;show(Ln (k.imp λh=>eU h) d).mpr λa=>?_;rw[o];show(m.map (·.1)).mem_iff
def W8{L:List (Nat×Nat)}(a:(L.map (·.1)).Nodup):∀x∈L,dm (L.map jq) (.inl (x.1:Int))=some (vn x.2):=by
 induction L with
 |nil=>intro x b;show nomatch b
 |cons y L c=>
  intro x b;rw[eD,mU]at a;rw[eD];rcases bG.mp b with rfl | b
  .show lK
  .have:¬y.1=x.1:=λq=>a.1 (dM.mpr ⟨x,b,q.symm⟩);rw[show jq y=((.inl (y.1:Int):Key),vn y.2)from rfl,jM (λq=>this (by have h:(y.1:Int)=(x.1:Int):=Sum.inl.inj q;lia))];show c a.2 x b
def XF(G:bh K mg ad):bu P w K mg base 2 "tell_about" ["laboratory","call"] (iF ad A8):=by
 show G.O2.has wC (λvs H Q E h=>?_) (λf a3 A c5 s H vs Q E hr h=>?_)
 .revert h;intro r;show iM r λZ c h h' kind stop nums c6 rows F H0 g _=>?_;subst r g;rfl
 .revert h;intro u;show i9 u λZ c h h' kind stop nums c6 rows F H0 g hL s0 o c0 d2 l k=>?_;subst u g;show gJ o λcx na ra hc b4 d1=>?_;clear o;obtain⟨i,rfl,rfl,c1⟩:∃i,nums= [i]/\rows= []/\dF h (.about i)=(h',F):=by obtain⟨_,a4,l⟩:=gO l;obtain⟨a5,l⟩:=fE l;show⟨_,a4,a5,df.inj l⟩
  have hu:=hr.units;have c2:(A.deeper (envOfC "tell_about" (aS CN) s.heap.objs.size f a3)).units+1<cLine:=QA;show mj ((hL.mH.mono s0).ex) λdx t aa sl c8 e0 g1 g2 g3 g4 g5=>?_;have S:=Paired.length g5;show⟨_,(ak (stX 2 wC.nd (cz (cX K) (ax K (pv 1)) aD (λ_ _=>rfl)))
 (ak (bL (fZ (ez (pqX (mz G) hr (ae (ax K (pv 0)) (ae (pv 2) ag)))))
  (aq (aK (bt (ae (gi G.jW) ag))))
  de)
 (ak (stX 3 wC.nd (cz (cX K) (ax K (pv 0)) (pv 2) (λ_ _=>rfl)))
 (ak (stX 4 wC.nd (bt (ae aD (ae (ax K (pv 3)) (ae (ax K (pv 3)) (ae (ax K (pv 3)) (ae (ax K (pv 3)) (ae (di Fn QE G.dN dO (ae (ax K (pv 3)) ag)) ag))))))))
 (ak (fA rfl (fV K (di (Ft rfl) QE G.AF AJ (ae (ax K (pv 3)) ag))) (gnX 5 wC.nd)
  (aq (dR (kC K (pv 4) (bt (ae (pv 5) (ae (pQ c2 (ax K (pv 3)) (pv 5) (λ_ _=>rfl)) ag)))))))
 (aq (aK (pv 4)))))))),?_⟩
  dsimp only[bg,bf,a8,aB,tC,aY,L2.start,aX,aU,aV,aW,d5,d4];show aCallX G hc ?_;show dk (v:= .int i) (aj.of b4) (fu rfl) ?_;lk;show aLaboratoryX G g1 ?_;show aJ sl _ i ⟨rfl,g4,?_⟩;rw[ay,S];show ?_;lk;clear l;have l:pw h i (λx=>(h,0::eW [x.kind,x.reader,x.person,x.pages]++(x.tells.length:Int)::mE x.tells))=(h',F):=c1;unfold pw at l;cases cw:dQ i 0 ((h.sent.length:Int)-1)with
  |false=>rw[QG cw]at l;show eG (eF l s0 hL k)
  |true=>
   rw[QH (by rw[cw];show λz=>nomatch z)]at l;show ai (kL cw) λj d hj=>?_;subst d;obtain⟨x,hx⟩:∃x,h.sent[j]? =some x:=⟨_,dA hj⟩;rw[eN,hx]at l;replace k:=kE l k;show ai (Paired.get g5 hx) λb hb B=>kA B λdy rl td ks I b2 b3 a0=>?_;clear B;obtain⟨⟨L,rfl,a⟩,T,d3,c7⟩:=a0;rw[QH QB];show aLaboratoryX G g1 ?_;show dk (v:= .ref b) (aj.of g4) (at_of rfl (lH hb)) ?_;show aSentX G I ?_;show aSentX G I ?_;show aSentX G I ?_;show aSentX G I ?_;show aSentX G I ?_;have W:(x.tells.map (·.1)).Nodup:=T.imp λh=>eU h;have U:(L.map (·.1)).Nodup:=(a.map (·.1)).nodup_iff.mpr W;have b0:L.length=x.tells.length:=a.length_eq;show⟨td,rfl,_,b3,by rw[aQ];decide,λO M=>?_⟩;rw[ay,b0];generalize e2:upd H O _=H2;have s2:=sN e2 M;have v2:H2 O=some (.lst ((((0:Int)::eW [x.kind,x.reader,x.person,x.pages])++(x.tells.length:Int)::mE []).map V.int)):=vN e2;dsimp only[gT,iC,bF,aL,aR];show aSentX G (s2 _ _ I) ?_;show aJ td _ ((L.map (·.1)).map (λ(n:Nat)=>(n:Int))) ⟨rfl,.inl (s2 _ _ b3),?_,by rw[ay,ay];lia,λd8 p b5 b7 hp=>?_⟩
   .rw[gd,gd,gd];rfl
   have e5:=UW a T b5 b7;subst e5;generalize e3:upd H2 p _=H3;have s3:=sN e3 hp;have v3:H3 p=some (.lst (vr (x.tells.map (·.1)))):=by rw[<-e3,ar,gd];rfl
   have c4:p≠O:=λe=>by rw[e,v2]at hp;cases hp
   have S3:=s2.trans s3;show⟨p,rfl,⟨_,aj.of v3⟩,forL (xs:=vr (x.tells.map (·.1))) (λi σ q=>∃u5,σ= [some (.ref Z),some (.ref c),some (.int (j:Int)),some (.ref b),some (.ref O),u5]/\ah H q/\q p=some (.lst (vr (x.tells.map (·.1))))/\q O=some (.lst ((((0:Int)::eW [x.kind,x.reader,x.person,x.pages])++(x.tells.length:Int)::mE (x.tells.take i)).map V.int))) ⟨none,rfl,S3,v3,s3 _ _ v2⟩ (λi σ q _ c3=>sV c3 λ_ _ _ z _=>aj.of z) ?_ ?_⟩
   .intro i y σ q hy C;show sV C λu5 d sH X m=>?_;subst C d;show ai (fW hy) λn hn R=>?_;subst R;obtain⟨⟨n',v⟩,N,J⟩:∃z,x.tells[i]? =some z/\z.1=n:=by rw[eP]at hn;show mX.mp hn
    have J:n'=n:=J;subst J;have c9:=(dW.mp N).1;have Y:=W8 U (n',v) (a.mem_iff.mpr (dD N));lk;exists .inl ⟨rfl,_,aj.of m⟩;unfold rH;show aSentX G (sH _ _ I) ?_;show aZ td (vn v) ⟨rfl,by rw[<-show dm (L.map jq) (.inl (n':Int))=some (vn v)from Y];show fN.k (k:= .inl (n':Int)) (sH _ _ b3),?_⟩;show⟨by rw[aQ];decide,λq3 b8=>?_⟩;generalize e4:upd q q3 _=H4;have s4:=sN e4 b8;have v4:H4 q3=some (.lst [vn n',vn v]):=vN e4;show eY O q3 _ _ ⟨rfl,rfl,s4 _ _ m,v4,?_,(sH.trans s4).upd M,?_,?_⟩
    .rw[ay,aP,aG,aG,HF,ff,aQ,aG,aG,dC];have:(eW [x.kind,x.reader,x.person,x.pages]).length=4:=rfl;lia
    .rw[az c4];show s4 _ _ X
    .rw[ar,take_snoc N,HG];simp
   .intro σ q D;show sV D λu5 d sH X m=>?_;subst D d;rw[dh,ay,gk]at m;show(reads s0 hL k O q M sH m)
def PF(n:Nat)(l:List Nat):ig (vn n) (vr l)=decide (n∈l):=GA n l
def mG{H:Hp}{Q:VK}{xs:List V}{ans:List Int}{n:Nat}(e:xs=ans.map V.int)(b:n<=1000000)(k:gH H (.lst (ans.map V.int)) Q):n<=dc/\∀p,H p=none->Q (.ref p) (upd H p (.lst xs)):=⟨by rw[aQ];lia,λp a=>k p _ a (ah.new a) (by rw[ar,e])⟩
def XG(G:bh K mg ad):bu P w K mg base 3 "tell_told" ["laboratory","call"] (iF ad Bl):=by
 show G.O3.has zb (λvs H Q E h=>?_) (λf O A Z s H vs Q E I h=>?_)
 .revert h;intro o;show iM o λq c h U kind stop nums a0 rows ans H0 d _=>?_;subst o d;rfl
 .revert h;intro p;show i9 p λq c h U kind stop nums a0 rows ans H0 d D L u X b1 b k=>?_;subst p d;obtain⟨cx,na,ra,hc,F,a5⟩:=u;obtain⟨r,i,rfl,rfl,Y⟩:∃r i,nums= [r,i]/\rows= []/\dF h (.told r i)=(U,ans):=by obtain⟨_,_,S,b⟩:=pz b;obtain⟨T,b⟩:=fE b;show aZ _ _ ⟨S,T,df.inj b⟩
  clear b;have hu:=I.units;have J:(A.deeper (envOfC "tell_told" (aS CO) s.heap.objs.size f O)).units+1<cLine:=QA;have W:=D.mH.mono L;show mj W.ex λdx t aa sl a3 b3 g1 g2 g3 g4 g5=>?_;have l:=Paired.length g3;rw[xI]at l;show⟨_,(ak (stX 2 zb.nd (cz (cX K) (ax K (pv 1)) aD (λ_ _=>rfl)))
 (ak (stX 3 zb.nd (cz (cX K) (ax K (pv 1)) aD (λ_ _=>rfl)))
 (ak (bL (fZ (PW.pt (gS (ez (pqX (BY G) I (ae (pv 2) ag))) (ju (ez (pqX (mz G) I (ae (ax K (pv 0)) (ae (pv 3) ag))))))))
  (aq (aK (bt (ae (gi G.jW) ag))))
  de)
 (ak (stX 4 zb.nd (pqX (B3 G) I (ae (pv 0) (ae (pv 2) ag))))
 (ak (bL (tR (HK J (pv 3) (pv 4)))
  (aq (aK (bt (ae aD (ae aD ag)))))
  de)
 (aq (aK (bt (ae aD (ae aD (ae (pQ J (pv 4) (pv 3) (λ_ _=>rfl)) (ae (pR (cW (tm K) (pv 3) (pqX (BV G) I (ae (pv 0) (ae (pv 4) ag))) QE) aD aD) ag)))))))))))),?_⟩
  dsimp only[bg,bf,a8,aB,tC,aY,L2.start,aX,aU,aV,aW,d5,d4];show aCallX G hc ?_;show dk (v:= .int r) (aj.of F) (fu rfl) ?_;show aCallX G hc ?_;show dk (v:= .int i) (aj.of F) (at_of (j:=1) rfl rfl) ?_;lk;exists r,rfl;have b:(if dQ r 0 19=false then jl h (-1)else nR h i λa _=>(h,match qF h r.toNat a with
   |some v=> [0,1,(v:Int),if l8 h r.toNat a=true then 1 else 0]
   |none=> [0,0]))=(U,ans):=Y
  show mi (λcr=>?_) (λcr=>?_)
  .rw[QG cr]at b;show eG (eF b L D k)
  rw[QH (by rw[cr];show λz=>nomatch z)]at b;lk;show aLaboratoryX G g1 ?_;show aJ aa _ i ⟨rfl,g2,?_⟩;rw[ay,l];show ?_;lk;unfold nR at b;show ky (λM=>?_) (λM=>?_)
  .rw[QG M]at b;show eG (eF b L D k)
  rw[QH (by rw[M];show λz=>nomatch z)]at b;show ai (kL M) λj C hj=>?_;subst C;obtain⟨g,rfl,b0⟩:=kL (n:=20) cr;obtain⟨x,hx⟩:∃x,h.answers[j]? =some x:=⟨_,dA hj⟩;rw[eN,eN,show lh h j=some x from hx]at b;dsimp only at b;show aJ q g h.sent ⟨rfl,W.sent,λtq H1 ks b2 s1 y hT=>?_⟩;have e:=hT.val j;rw[<-Rt.wI]at e;unfold KJ;lk;exists _,fN.k (k:= .inl (j:Int)) y;rw[e];cases ht:qF h g j with
  |none=>rw[ht]at b;rw[QG QE];show mG (ans:= [0,0]) rfl QB (iD s1 (eF b L D k))
  |some v=>
   rw[ht]at b e;replace k:=kE b k;rw[QH (by show dP)];unfold rH;show aZ tq (vn v) ⟨rfl,by rw[<-show dm ks (.inl (j:Int))=some (vn v)from e];show fN.k (k:= .inl (j:Int)) y,?_⟩;show gD q tq g ks h ⟨rfl,W.mono s1,y,hT,λdq H2 a4 s2 R=>?_⟩;show aZ dq _ ⟨rfl,.inl (aj.of R),rfl,Ge _,?_⟩;rw[show(if false=true then !ig (V.int (j:Int)) (vr (ef h g))else ig (V.int (j:Int)) (vr (ef h g)))=decide (j∈ef h g)from PF j _];have m:j∈ef h g↔l8 h g j=true:=by unfold ef;rw[ki,r8];show⟨λz=>z.2,λz=>⟨hj,z⟩⟩
   have N:=iD (s1.trans s2) (reads L D k);cases B:l8 h g j with
   |true=>rw[B,QG rfl]at N;lk;show dw (QI (m.mpr B)) ?_;show mG (ans:= [0,1,(v:Int),1]) rfl QB N
   |false=>rw[B,QH dP]at N;lk;show dJ (QJ (λz=>by rw[m.mp z]at B;cases B)) ?_;show mG (ans:= [0,1,(v:Int),0]) rfl QB N
def Bm(h:bz)(b:List Int)(c:List (List Nat)):Option (bz×List Int):=lx b λa=>jm c (some (dF h (.versions a)))
def Bo(h:bz)(a:List Int)(b:List (List Nat)):Option (bz×List Int):=lx a λk=>lx b λw=>some (dF h (.wrap k w))
def pT(l:List Nat):ei l=(l.length:Int)::eW l:=rfl
def jG(l:List Nat):(eW l).length=l.length:=ay ..
def rL{H:Hp}{Q:VK}{a:ab}{l:List Nat}(b:L2.Row H a l)(hz:l.length<=1000000)(k:gH H (.lst ((ei l).map V.int)) Q):Ku [.ref a] H Q E0:=⟨a,eW l,rfl,by rw[BQ];show b,by rw[jG];show hz,by rw[jG];show k⟩
def p0(v:iJ):List Int:= [(v.status:Int),(v.flag:Int)]++ei v.value
def W9{v:iJ}(h:oQ v):(p0 v).length<=15:=by unfold p0;have:=h.value;have a:=jG v.value;rw[pT,aP];simp only[aG,dC];lia
def Bv{α:Type}{f:α->List Int}{c:Nat}:∀l:List α,(∀x∈l,(f x).length<=c)->(l.flatMap f).length<=c*l.length
 |[],_=>cT _
 |x::l,h=>by have b:=h x cZ;have d:=Bv l λy a=>h y (du _ a);rw[kg,aP,aG,Nat.mul_succ];lia
def XA(G:bh K mg ad):bu P w K mg base 2 "list_versions" ["laboratory","call"] (iF ad Bm):=by
 show G.Om.has wx (λvs H Q E h=>?_) (λf c7 A c4 s H vs Q E U h=>?_)
 .revert h;intro p;show iM p λR c h h' kind stop nums c5 rows F H0 d _=>?_;subst p d;rfl
 .revert h;intro q;show i9 q λR c h h' kind stop nums c5 rows F H0 d T s0 J b8 c9 e k=>?_;subst q d;obtain⟨cx,na,ra,hc,a5,c8⟩:=J;obtain⟨i,rfl,rfl,c0⟩:∃i,nums= [i]/\rows= []/\dF h (.versions i)=(h',F):=by obtain⟨_,a0,e⟩:=gO e;obtain⟨a3,e⟩:=fE e;show⟨_,a0,a3,df.inj e⟩
  clear e;show mj ((T.mH.mono s0).ex) λdx t aa sl c6 d1 g1 g2 g3 g4 g5=>?_;have o:=Paired.length g3;rw[xI]at o;show⟨_,(ak (stX 2 wx.nd (cz (cX K) (ax K (pv 1)) aD (λ_ _=>rfl)))
 (ak (bL (fZ (ez (pqX (mz G) U (ae (ax K (pv 0)) (ae (pv 2) ag)))))
  (aq (aK (bt (ae (gi G.jW) ag))))
  de)
 (ak (stX 3 wx.nd (cz (cX K) (ax K (pv 0)) (pv 2) (λ_ _=>rfl)))
 (ak (stX 4 wx.nd (cU gh (cU gh (bt (ae aD (ae (ax K (pv 3)) (ae (ax K (pv 3)) ag)))) (pqX (ow G) U (ae (ax K (pv 3)) ag))) (pqX (ow G) U (ae (ax K (pv 3)) ag))))
 (ak (dR (gI K (pv 4) (di (eK K) QE G.dN dO (ae (ax K (pv 3)) ag))))
 (ak (fA rfl (fV K (ax K (pv 3))) (gnX 5 wx.nd)
  (aq (dR (kC K (pv 4) (cU gh (bt (ae (ax K (pv 5)) (ae (ax K (pv 5)) ag))) (pqX (ow G) U (ae (ax K (pv 5)) ag)))))))
 (aq (aK (pv 4))))))))),?_⟩
  dsimp only[bg,bf,a8,aB,tC,aY,L2.start,aX,aU,aV,aW,d5,d4];show aCallX G hc ?_;show dk (v:= .int i) (aj.of a5) (fu rfl) ?_;dsimp only[bX,bZ,bI,tB,a7,aL,aR,aB,List.set_cons_succ,List.set_cons_zero,aX,aU,aV,aW,d5,d4];show aLaboratoryX G g1 ?_;show aJ aa _ i ⟨rfl,g2,?_⟩;rw[ay,o];show ?_;lk;have e:nR h i (λ_ x=>(h,0::(x.person:Int)::(x.day:Int)::(ei x.test++(ei x.unit++((x.versions.length:Int)::x.versions.flatMap p0)))))=(h',F):=c0;unfold nR at e;show ky (λS=>?_) (λS=>?_)
  .rw[QG S]at e;show eG (eF e s0 T k)
  rw[QH (by rw[S];show λz=>nomatch z)]at e;show ai (kL S) λj a hj=>?_;subst a;obtain⟨x,hx⟩:∃x,h.answers[j]? =some x:=⟨_,dA hj⟩;rw[eN,show lh h j=some x from hx]at e;replace k:=kE e k;have g:=T.ok.good x (dD hx);show ai (Paired.get g3 (Az hx)) λb hb hA=>?_;show jo (id hA.ex) λdy tl ul vl vs L b2 b3 b4 b5=>?_
  try dsimp only[bY,bg,bf,a8,aB,tC,bw,aL,aR,a7,aY,bK,bH,bF,ee,aX,aU,aV,aW,d5,d4]
  show aLaboratoryX G g1 ?_;show(.inl ⟨aa,_,_,.ref b,rfl,rfl,aj.of g2,at_of rfl (lH hb),?_⟩);show aAnswerX G L ?_;show aAnswerX G L ?_;show⟨by rw[aQ];simp,λq1 b0=>?_⟩;generalize e1:upd H q1 _=H1;have s1:=sN e1 b0;have v1:H1 q1=some (.lst ([(0:Int),(x.person:Int),(x.day:Int)].map V.int)):=vN e1;show aAnswerX G (s1 _ _ L) ?_;have z1:=g.test;have z2:=g.unit;have z3:=g.d6;have y1:=jG x.test;have y2:=jG x.unit;have r1:(ei x.test).length=x.test.length+1:=by rw[pT,aG,y1]
  have r2:(ei x.unit).length=x.unit.length+1:=by rw[pT,aG,y2]
  show rL (s1 _ _ b2) (by show x.test.length<=_;lia) λq2 H2 f2 s2 v2=>?_;show⟨_,s2 _ _ v1,_,v2,?_,λq3 f3=>?_⟩
  .rw[ay,ay,aQ];show _+(ei x.test).length<=_;simp only[aG,dC];lia
  generalize u:upd H2 q3 _=H3;have s3:=sN u f3;have v3:H3 q3=some (.lst (([0,(x.person:Int),(x.day:Int)]++ei x.test).map V.int)):=by rw[<-u,ar,fk]
  have Z:=s1.trans (s2.trans s3);show aAnswerX G (Z _ _ L) ?_;show rL (Z _ _ b3) (by show x.unit.length<=_;lia) λq4 H4 f4 s4 v4=>?_;show⟨_,s4 _ _ v3,_,v4,?_,λn f5=>?_⟩
  .rw[ay,ay,aQ];show(_++ei x.test).length+(ei x.unit).length<=_;simp only[aP,aG,dC];lia
  generalize C:upd H4 n _=Y;have s5:=sN C f5;have X:Y n=some (.lst (([0,(x.person:Int),(x.day:Int)]++ei x.test++ei x.unit).map V.int)):=by rw[<-C,ar,fk,fk,fk]
  have S4:=Z.trans s4;have S5:=S4.trans s5;have I:H n=none:=S4.free f5;have X:Y n=some (.lst ((([(0:Int),(x.person:Int),(x.day:Int)]++ei x.test)++ei x.unit).map V.int)):=X;exists .inl ⟨rfl,_,aj.of X⟩;show aAnswerX G (S5 _ _ L) ?_;show⟨_,.inl ⟨_,aj.of (S5 _ _ b4),rfl⟩,aJ n _ _ ⟨rfl,rfl,X,?_,?_⟩⟩
  .rw[ay,aQ];simp only[aP,aG,dC];lia
  have O:=Paired.length b5;rw[ay,O];generalize e6:upd Y n _=H6;have S6:ah H H6:=by rw[<-e6];show S5.upd I
  have v6:H6 n=some (.lst (((([(0:Int),(x.person:Int),(x.day:Int)]++ei x.test)++ei x.unit)++((x.versions.length:Int)::([]:List iJ).flatMap p0)).map V.int)):=by rw[<-e6,ar];simp
  dsimp only[gT,iC];show aAnswerX G (S6 _ _ L) ?_;have c1:∀i,((x.versions.take i).flatMap p0).length<=15*6:=λi=>by
   have h1:=Bv (f:=p0) (c:=15) (x.versions.take i) λv M=>W9 (g.rK v (oV M));have h2:(x.versions.take i).length<=6:=by rw[ff];lia
   show dE h1 (xk 15 h2)
  show⟨vl,rfl,⟨_,aj.of (S6 _ _ b4)⟩,forL (xs:=vs.map V.ref) (λi σ D=>∃u5,σ= [some (.ref R),some (.ref c),some (.int (j:Int)),some (.ref b),some (.ref n),u5]/\ah H D/\D n=some (.lst (((([(0:Int),(x.person:Int),(x.day:Int)]++ei x.test)++ei x.unit)++((x.versions.length:Int)::(x.versions.take i).flatMap p0)).map V.int))) ⟨none,rfl,S6,v6⟩ (λi σ D _ c3=>bA c3 λ_ _ z _=>aj.of (z _ _ b4)) ?_ ?_⟩
  .intro i y σ D hy r;show bA r λu5 a W l=>?_;subst r a;show ai (fW hy) λva c2 N=>?_;subst N;show ai (Paired.get' b5 c2) λv M hV=>?_;have M:x.versions[i]? =some v:=M;show eB (hV.mono W) λdv la w1 w2=>?_;have a4:=g.rK v (dD M);have z4:=a4.value;have y3:=jG v.value;have r3:(ei v.value).length=v.value.length+1:=by rw[pT,aG,y3]
   dsimp only[aY,bK,bH,aL,aR,a8,bw,aB,a7,ee,aX,aU,aV,aW,d5,d4];exists .inl ⟨rfl,_,aj.of l⟩;show aVersionX G w1 ?_;show aVersionX G w1 ?_;show⟨by rw[aQ];simp,λq7 b7=>?_⟩;generalize e7:upd D q7 _=H7;have s7:=sN e7 b7;have v7:H7 q7=some (.lst ([(v.status:Int),(v.flag:Int)].map V.int)):=vN e7;show aVersionX G (s7 _ _ w1) ?_;show rL (s7 _ _ w2) QA λq8 H8 f8 s8 v8=>?_;show⟨_,s8 _ _ v7,_,v8,?_,λq9 f9=>?_⟩
   .rw[ay,ay,aQ];simp only[aG,dC];lia
   generalize B:upd H8 q9 _=H9;have s9:=sN B f9;have v9:H9 q9=some (.lst (([(v.status:Int),(v.flag:Int)]++ei v.value).map V.int)):=by rw[<-B,ar,fk]
   have S9:=s7.trans (s8.trans s9);show eY n q9 _ _ ⟨rfl,rfl,S9 _ _ l,v9,?_,?_⟩
   .rw[ay,ay,aQ];have:=c1 i;simp only[aP,aG,dC];lia
   .exists _,rfl,(W.trans S9).upd I;rw[ar,take_snoc M,gc];simp[p0]
  .intro σ D m;show bA m λu5 a W l=>?_;subst m a;rw[ay,O,gk]at l;show(reads s0 T k n D I W ?_);rw[l];simp
def Xj{k:Nat}{b:List Nat}(a:1<=k)(f:b.length<=2500):(mh k b).length<=5003/\∀l∈mh k b,l.length<=k:=by obtain⟨m,c,d⟩:=Rt.zz a b;have e:m*2<=m*(k+1):=xk m QA;show⟨QA,Rt.DS a b⟩
def XI(G:bh K mg ad):bu P w K mg base 6 "wrap_text" ["laboratory","call"] (iF ad Bo):=by
 show G.Pb.has ub (λvs H Q E h=>?_) (λf c6 A c2 s H vs Q E hr h=>?_)
 .revert h;intro x;show iM x λZ c h h' kind stop nums c3 rows I H0 g _=>?_;subst x g;rfl
 .revert h;intro B;show i9 B λZ c h h' kind stop nums c3 rows I H0 g hL s0 J j b3 m k=>?_;subst B g;obtain⟨cx,na,ra,hc,b1,b2⟩:=J;obtain⟨o,d,rfl,rfl,b4⟩:∃i w,nums= [i]/\rows= [w]/\dF h (.wrap i w)=(h',I):=by obtain⟨_,a0,m⟩:=gO m;obtain⟨_,a3,m⟩:=gO m;show aZ _ _ ⟨a0,a3,df.inj m⟩
  clear m;have b7:=b3 d cZ;obtain⟨j,c4⟩:=j;cases j with
  |@cons ta _ c5 _ b5 c9=>
  have u:L2.Row H ta d:=b5;show⟨_,(ak (stX 2 ub.nd (cz (cX K) (ax K (pv 1)) aD (λ_ _=>rfl)))
 (ak (stX 3 ub.nd (cz (cX K) (ax K (pv 1)) aD (λ_ _=>rfl)))
 (ak (bL (fZ (wa fF fF aD (pv 2) (gi G.Mo)))
  (aq (aK (bt (ae (gi G.jW) ag))))
  de)
 (ak (bL (fZ (ez (pqX (Hk G) hr (ae (pv 3) ag))))
  (aq (aK (bt (ae (gi G.xN) ag))))
  de)
 (ak (stX 4 ub.nd (pqX (Ho G) hr (ae (pv 3) (ae (pv 2) ag))))
 (ak (stX 5 ub.nd (bt (ae aD (ae (di (eK K) QE G.dN dO (ae (pv 4) ag)) ag))))
 (ak (fA rfl (fV K (pv 4)) (gnX 6 ub.nd)
  (aq (dR (kC K (pv 5) (pqX (ow G) hr (ae (pv 6) ag))))))
 (aq (aK (pv 5)))))))))),?_⟩
  dsimp only[bg,bf,a8,aB,tC,aY,L2.start,aX,aU,aV,aW,d5,d4];show aCallX G hc ?_;show dk (v:= .int o) (aj.of b1) (fu rfl) ?_;show aCallX G hc ?_;show dk (v:= .ref ta) (aj.of b2) (fu rfl) ?_;k_in;have m:(if dQ o 1 100=false then jl h (-1)else if d.all me=false then jl h (-2)else(h,0::((mh o.toNat d).length:Int)::(mh o.toNat d).flatMap ei))=(h',I):=b4;have hw:∀{P1 P2:Prop},(dQ o 1 100=false->P1)->(dQ o 1 100=true->P2)->(if decide (1<=o)=true then if(!decide (o<=100))=true then P1 else P2 else P1):=λ{P1 P2} p1 p2=>by
   unfold dQ at p1 p2;by_cases d1:1<=o
   .show dw (QI d1) ?_;by_cases d2:o<=100
    .rw[QH (by rw[QI d2];show dP)];show p2 (by rw[QI d1,QI d2];rfl)
    .rw[QG (by rw[QJ d2];rfl)];show p1 (by rw[QJ d2,DV])
   .show dJ (QJ d1) ?_;show p1 (by rw[QJ d1];rfl)
  show hw (λM=>?_) (λM=>?_)
  .rw[QG M]at m;show eG (eF m s0 hL k)
  rw[QH (by rw[M];show λz=>nomatch z)]at m;show aZ ta d ⟨rfl,u,by rw[aQ];lia,λH1 s1=>?_⟩;k_in;show ky (λcp=>?_) (λcp=>?_)
  .rw[QG cp]at m;show eG (iD s1 (eF m s0 hL k))
  rw[QH (by rw[cp];show λz=>nomatch z)]at m;replace k:=kE m k;obtain⟨wn,rfl,X,d3⟩:∃n:Nat,o=(n:Int)/\1<=n/\n<=100:=by unfold dQ at M;rw[eC,QK,QK]at M;show⟨o.toNat,QA,QA,QA⟩
  rw[eN]at k;obtain⟨d8,Y⟩:=Xj X b7;show aJ ta d wn ⟨rfl,s1 _ _ u,QA,X,QA,λlq H2 c1 c8 s2 t T c7=>?_⟩;generalize mh wn d=b at *;have R:=Paired.length T;show⟨_,.inl ⟨_,aj.of t,rfl⟩,by rw[aQ];decide,λF r=>?_⟩;rw[ay,R];generalize e3:upd H2 F _=H3;have s3:=sN e3 r;have v3:H3 F=some (.lst (((0:Int)::(b.length:Int)::([]:List (List Nat)).flatMap ei).map V.int)):=vN e3;have S2:=s1.trans s2;have a4:H F=none:=S2.free r;have e0:lq≠F:=λe=>by rw[<-e,t]at r;cases r
  have U:∀l∈b,(ei l).length<=101:=λl hl=>by have h1:=Y l hl;have h2:=jG l;have h3:(ei l).length=(eW l).length+1:=rfl;have h4:uC l<=100:=QA;lia
  have b8:∀i,((b.take i).flatMap ei).length<=101*5003:=λi=>by
   have h1:=Bv (f:=ei) (c:=101) (b.take i) λv hv=>U v (oV hv);have h2:(b.take i).length<=5003:=by rw[ff];lia
   show dE h1 (xk 101 h2)
  dsimp only[gT,iC];show⟨lq,rfl,⟨_,aj.of (s3 _ _ t)⟩,forL (xs:=c1.map V.ref) (λi σ L=>∃u6,σ= [some (.ref Z),some (.ref c),some (.int (wn:Int)),some (.ref ta),some (.ref lq),some (.ref F),u6]/\ah H2 L/\L F=some (.lst (((0:Int)::(b.length:Int)::(b.take i).flatMap ei).map V.int))) ⟨none,rfl,s3,v3⟩ (λi σ L _ c0=>bA c0 λ_ _ z _=>aj.of (z _ _ t)) ?_ ?_⟩
  .intro i y σ L hy C;show bA C λu6 p sH q=>?_;subst C p;show ai (fW hy) λa a5 N=>?_;subst N;show ai (Paired.get' T a5) λl O W=>?_;have S:l∈b:=dD O;have b0:l.length<=100:=by have:uC l<=wn:=Y l S;lia
   lk;exists .inl ⟨rfl,_,aj.of q⟩;show rL (sH _ _ W) QA λq4 H4 f4 s4 v4=>?_;show eY F q4 _ _ ⟨rfl,rfl,s4 _ _ q,v4,?_,(sH.trans s4).upd r,?_⟩
   .rw[ay,ay,aQ];have h1:=b8 i;have h2:=U l S;simp only[aG];lia
   .rw[ar,take_snoc O,gc];simp
  .intro σ L D;show bA D λu6 p sH q=>?_;subst D p;rw[ay,R,gk]at q;show(reads s0 hL k F L a4 (S2.trans sH) q)
def Bc(h:bz)(a:List Int)(b:List (List Nat)):Option (bz×List Int):=uY a λs u=>jm b (some (dF h (.diff s u)))
def Bg(h:bz)(a:List Int)(b:List (List Nat)):Option (bz×List Int):=uY a λp d=>lx b λt=>some (dF h (.newest p d t))
def Hx(as c:List (List Nat)):(qD as c).length<=as.length+c.length:=by
 rw[Rt.Hy];suffices h:∀(f:Nat)(as c:List (List Nat)),(Rt.jN f as c).length<=as.length+c.length from h _ as c;intro f;induction f with
 |zero=>intro as c;show cT _
 |succ f d=>
  intro as c
  match as,c with
  |[],c=>show(c.map λ_=>2).length<=_;rw[ay];lia
  |a::as,[]=>show((a::as).map λ_=>1).length<=_;rw[ay];lia
  |a::as,b::c=>
   have e:=d as c;have g:=d as (b::c);have i:=d (a::as) c;rw[Rt.jN];simp only[aG]at *;split
   .rw[aG];lia
   .split
    .rw[aG];lia
    .rw[aG];lia
def Xu(G:bh K mg ad):bu P w K mg base 4 "compare_sent" ["laboratory","call"] (iF ad Bc):=by
 show G.NJ.has CU (λvs H Q E h=>?_) (λf d2 A c3 s H vs Q E D h=>?_)
 .revert h;intro n;show iM n λb5 c h Z kind stop nums c4 rows r H0 d _=>?_;subst n d;rfl
 .revert h;intro o;show i9 o λb5 c h Z kind stop nums c4 rows r H0 d C O B a5 e4 a k=>?_;subst o d;obtain⟨cx,na,ra,hc,J,e3⟩:=B;obtain⟨i,u,rfl,rfl,b0⟩:∃i u,nums= [i,u]/\rows= []/\dF h (.diff i u)=(Z,r):=by obtain⟨_,_,W,a⟩:=pz a;obtain⟨X,a⟩:=fE a;show aZ _ _ ⟨W,X,df.inj a⟩
  clear a;show mj ((C.mH.mono O).ex) λdx t aa sl c8 e6 g1 g2 g3 N Y=>?_;have l:=Paired.length Y;show⟨_,(ak (stX 2 CU.nd (cz (cX K) (ax K (pv 1)) aD (λ_ _=>rfl)))
 (ak (stX 3 CU.nd (cz (cX K) (ax K (pv 1)) aD (λ_ _=>rfl)))
 (ak (bL (fZ (PW.pt (gS (ez (pqX (mz G) D (ae (ax K (pv 0)) (ae (pv 2) ag)))) (ju (ez (pqX (mz G) D (ae (ax K (pv 0)) (ae (pv 3) ag))))))))
  (aq (aK (bt (ae (gi G.jW) ag))))
  de)
 (aq (aK (cU mC (bt (ae aD ag)) (pqX (ow G) D (ae (pqX (RN G) D (ae (pqX (B0 G) D (ae (ax K (cz (cX K) (ax K (pv 0)) (pv 2) (λ_ _=>rfl))) ag)) (ae (pqX (B0 G) D (ae (ax K (cz (cX K) (ax K (pv 0)) (pv 3) (λ_ _=>rfl))) ag)) ag))) ag)))))))),?_⟩
  dsimp only[bg,bf,a8,aB,tC,aY,L2.start,aX,aU,aV,aW,d5,d4];show aCallX G hc ?_;show dk (v:= .int i) (aj.of J) (fu rfl) ?_;show aCallX G hc ?_;show dk (v:= .int u) (aj.of J) (at_of (j:=1) rfl rfl) ?_;k_in;show aLaboratoryX G g1 ?_;show aJ sl _ i ⟨rfl,N,?_⟩;rw[ay,l];show ?_;k_in;have a:pw h i (λx=>pw h u λy=>(h,0::((qD (gA x.bytes) (gA y.bytes)).length:Int)::eW (qD (gA x.bytes) (gA y.bytes))))=(Z,r):=b0;unfold pw at a;cases U:dQ i 0 ((h.sent.length:Int)-1)with
  |false=>rw[QG U]at a;show eG (eF a O C k)
  |true=>
  rw[QH (by rw[U];show λz=>nomatch z)]at a;rw[QG rfl];show ai (kL U) λj e hj=>?_;subst e;obtain⟨x,hx⟩:∃x,h.sent[j]? =some x:=⟨_,dA hj⟩;rw[eN,hx]at a;dsimp only at a;show aLaboratoryX G g1 ?_;show aJ sl _ u ⟨rfl,N,?_⟩;rw[ay,l];show ?_;k_in;show ky (λg=>?_) (λg=>?_)
  .rw[QG g]at a;show eG (eF a O C k)
  rw[QH (by rw[g];show λz=>nomatch z)]at a;show ai (kL g) λm e hm=>?_;subst e;obtain⟨y,hy⟩:∃x,h.sent[m]? =some x:=⟨_,dA hm⟩;rw[eN,hy]at a;replace k:=kE a k;show ai (Paired.get Y hx) λb hb p=>kA p λdy rl td ks b1 b2 b3 b4=>?_;clear p;show ai (Paired.get Y hy) λb' a0 q=>kA q λd3 c5 e7 e5 S T c9 d1=>?_;clear q;have z1:=(C.ok.ue x (dD hx)).bytes;have z2:=(C.ok.ue y (dD hy)).bytes;have y1:=(vK x.bytes).1;have y2:=(vK y.bytes).1;show⟨by rw[aQ];decide,λq0 a4=>?_⟩;generalize e1:upd H q0 _=H1;have M:=sN e1 a4;have v1:H1 q0=some (.lst ([(0:Int)].map V.int)):=vN e1;show AD (M _ _ g1) G.tF.cl (G.qN _ QC) rfl (M _ _ N) (lH hb) (M _ _ b1) G.tH.cl (G.nt _ QC) rfl ?_;show aZ rl _ ⟨rfl,M _ _ b2,QA,λlq H2 b7 e0 s2 c0 a3 d8=>?_⟩;have F:=M.trans s2;show AD (F _ _ g1) G.tF.cl (G.qN _ QC) rfl (F _ _ N) (lH a0) (F _ _ S) G.tH.cl (G.nt _ QC) rfl ?_;show aZ c5 _ ⟨rfl,F _ _ T,QA,λb8 H3 L c7 R c1 I c6=>?_⟩;have S3:=F.trans R;show eY lq b8 _ _ ⟨rfl,⟨b7,R _ _ c0,b9.mono R a3⟩,⟨L,c1,I⟩,QA,QA,λoq H4 e2 s4 c2=>?_⟩;have S4:=S3.trans s4;have z3:=Hx (gA x.bytes) (gA y.bytes);generalize qD (gA x.bytes) (gA y.bytes)=os at *;show rL c2 QA λq5 H5 f5 s5 v5=>?_;show xP ((s2.trans (R.trans (s4.trans s5))) _ _ v1) v5 (by rw[pT,aG,aG,dC,jG];lia) (iD (S4.trans s5) ?_);show reads O C k
def LS(as:List dg):(allOf as).map (·.1)=gG as.length:=by unfold allOf;rw[gd];have:((λx:Nat×dg=>x.1) ∘ λx:dg×Nat=>(x.2,x.1))=Prod.snd:=rfl;rw[this,List.zipIdx_map_snd,List.range_eq_range']
def Iy(as:List dg)(p d:Nat):sx (dH as p d):=by
 unfold sx;rw[x4];have h:((allOf as).map (·.1)).Pairwise (·<·):=by rw[LS];show Ef
 show qv.mpr ((qv.mp h).filter _)
def Bq{as:List dg}{p d:Nat}{z:Nat×dg}(h:z∈dH as p d):as[z.1]? =some z.2:=by rw[x4]at h;have a:=(ki.mp h).1;unfold allOf at a;obtain⟨x,b,rfl⟩:=dM.mp a;show Ed.mp b
def F9(as:List dg)(p d:Nat):(dH as p d).length<=as.length:=by rw[x4];show dE (D8 _ _) (by rw[xI];show bo _)
def Xx(G:bh K mg ad):bu P w K mg base 4 "find_newest" ["laboratory","call"] (iF ad Bg):=by
 show G.NY.has wt (λvs H Q E h=>?_) (λf c6 A b7 s H vs Q E B h=>?_)
 .revert h;intro m;show iM m λb0 c h W kind stop nums b8 rows ans H0 g _=>?_;subst m g;rfl
 .revert h;intro o;show i9 o λb0 c h W kind stop nums b8 rows ans H0 g q C u i a3 e k=>?_;subst o g;obtain⟨cx,na,ra,X,F,a0⟩:=u;obtain⟨p,d,x,rfl,rfl,a4⟩:∃p d t,nums= [p,d]/\rows= [t]/\dF h (.newest p d t)=(W,ans):=by obtain⟨_,_,T,e⟩:=pz e;obtain⟨_,U,e⟩:=gO e;show aJ _ _ _ ⟨T,U,df.inj e⟩
  clear e;have d1:=a3 x cZ;obtain⟨i,c4⟩:=i;cases i with
  |@cons N _ c5 _ a5 c9=>
  have l:L2.Row H N x:=a5;show mj ((q.mH.mono C).ex) λdx t aa sl O d2 g1 g2 g3 g4 g5=>?_;show⟨_,(ak (stX 2 wt.nd (cz (cX K) (ax K (pv 1)) aD (λ_ _=>rfl)))
 (ak (stX 3 wt.nd (cz (cX K) (ax K (pv 1)) aD (λ_ _=>rfl)))
 (ak (stX 4 wt.nd (cz (cX K) (ax K (pv 1)) aD (λ_ _=>rfl)))
 (ak (bL (fZ (PW.pt (gS (ez (pqX (yz G) B (ae (pv 2) ag))) (ju (ez (pqX (yx G) B (ae (pv 3) ag)))))))
  (aq (aK (bt (ae (gi G.jW) ag))))
  de)
 (ak (bL (fZ (ez (pqX (yy G) B (ae (pv 4) ag))))
  (aq (aK (bt (ae (gi G.xN) ag))))
  de)
 (ak (stX 5 wt.nd (pqX (yw G) B (ae (pqX (Hg G) B (ae (ax K (pv 0)) (ae (pv 2) (ae (pv 3) ag)))) (ae (pv 4) ag))))
 (ak (bL (cW pN (pv 5) gp QE)
  (aq (aK (bt (ae aD (ae aD ag)))))
  de)
 (aq (aK (bt (ae aD (ae aD (ae (ax K (pv 5)) (ae (pqX (vP G) B (ae (pv 5) ag)) ag)))))))))))))),?_⟩
  dsimp only[bg,bf,a8,aB,tC,aY,L2.start,aX,aU,aV,aW,d5,d4];show aCallX G X ?_;show dk (v:= .int p) (aj.of F) (fu rfl) ?_;show aCallX G X ?_;show dk (v:= .int d) (aj.of F) (at_of (j:=1) rfl rfl) ?_;show aCallX G X ?_;show dk (v:= .ref N) (aj.of a0) (fu rfl) ?_;k_in;exists p,rfl;have e:(if(dQ p 1 1000000000&&dQ d 0 100000)=false then jl h (-1)else if eQ x=false then jl h (-2)else match fI (dH h.answers p.toNat d.toNat) x with
   |some a=>(h,[0,1,(a.1:Int),(gf h a.1:Int)])
   |none=>(h,[0,0]))=(W,ans):=a4
  show mi (λy=>?_) (λy=>?_)
  .rw[QG (by rw[y];rfl)]at e;show eG (eF e C q k)
  exists d,rfl;cases J:dQ d 0 100000 with
  |false=>rw[QG (by rw[y,J];rfl)]at e;show eG (eF e C q k)
  |true=>
  rw[y,J,QH QB]at e
  try rw[QH QB]
  obtain⟨M,rfl⟩:∃n:Nat,p=(n:Int):=⟨p.toNat,by unfold dQ at y;rw[eC,QK,QK]at y;lia⟩
  obtain⟨L,rfl⟩:∃n:Nat,d=(n:Int):=⟨d.toNat,by unfold dQ at J;rw[eC,QK,QK]at J;lia⟩
  rw[eN,eN]at e;show aZ N x ⟨rfl,l,by rw[aQ];lia,λH1 I=>?_⟩;k_in;show ky (λS=>?_) (λS=>?_)
  .rw[QG S]at e;show eG (iD I (eF e C q k))
  rw[QH (by rw[S];show λz=>nomatch z)]at e;have c0:=q.ok.iO;show aLaboratoryX G (I _ _ g1) ?_;show gD aa O h.answers M L ⟨rfl,I _ _ g2,g3.mono I,QA,λfq H2 R c8 s2 V hF=>?_⟩;have S2:=I.trans s2;have c7:=F9 h.answers M L;show gD fq N R _ x ⟨rfl,V,hF,Iy h.answers M L,QA,S2 _ _ l,λv H3 s3 r=>?_⟩;have S3:=S2.trans s3;cases Z:fI (dH h.answers M L) x with
  |none=>rw[Z]at r e;have r:v= .a9:=r;subst r;lk;show mG (ans:= [0,0]) rfl QB (iD S3 (eF e C q k))
  |some z=>
   rw[Z]at r e;replace k:=kE e k;show ai r λb D hA=>?_;subst r D;lk;show jo (id hA.ex) λdy tl ul vl vs b1 b2 b3 b4 b5=>?_;show aAnswerX G b1 ?_;have hz:=Bq (qG Z);show aJ b z.1 z.2 ⟨rfl,hA,?_⟩;have Y:gf h z.1=z.2.versions.length-1:=by unfold gf lh;rw[hz];rfl
   have kk:=iD S3 (reads C q k);rw[Y]at kk;show mG (ans:= [0,1,(z.1:Int),((z.2.versions.length-1:Nat):Int)]) rfl QB kk
def Bi(h:bz)(a:List Int)(b:List (List Nat)):Option (bz×List Int):=lx a λt=>jm b (some (dF h (.print t)))
def DD{b:List Nat}{a:List (Str×List Nat)}(h:ir b=some a):b.length<=200:=by
 unfold ir at h;by_cases c:200<b.length\/b.all me=false
 .rw[QG c]at h;cases h
 .lia
def vM{t:List Nat}(h:eQ t=true):t.length<=8:=by unfold eQ at h;rw[eC,eC,QK,QK]at h;show h.2.1
def Kw:∀l:List (List Nat),(∀x∈l,x.length<=8)->(lr l).length<=9*l.length
 |[],_=>cT _
 |[w],h=>by have:=h w cZ;show w.length<=_;rw[aG,dC];lia
 |w::v::r,h=>by have c:=h w cZ;have d:=Kw (v::r) λx b=>h x (du _ b);show(w++32::lr (v::r)).length<=_;rw[aP,aG];rw[aG (a:=w)];lia
def HI{p:eh}{q:jA}(h:mZ p q):(ll q).length<=210:=by
 cases q with
 |para b=>have a:=DD h.2;show(au "text "++b).length<=210;rw[aP,show(au "text ").length=5 by decide +kernel];lia
 |row t=>have a:=vM h.2.2;show(au "row "++t).length<=210;rw[aP,show(au "row ").length=4 by decide +kernel];lia
 |table d=>
  show i8 h λ_ _ a f g=>?_;clear h;have e:=Kw (au "table"::d) λx c=>by
   rcases bG.mp c with rfl | c
   .decide +kernel
   .show vM (qj.mp a x c)
  show(lr (au "table"::d)).length<=210;rw[aG]at e;lia
 |blank=>decide +kernel
 |opens t=>have a:=vM h.2.2;show(au "if "++t).length<=210;rw[aP,show(au "if ").length=3 by decide +kernel];lia
 |closes=>decide +kernel
def yb{o:Option (List (Str×List Nat))}{a:Option (List Nat)}(h:oR o a):∀b∈a,b.length<=200:=λb d=>by
 cases a with
 |none=>cases d
 |some c=>obtain⟨f,e,_⟩:=h;cases d;show DD e
def Cj(t:iZ):(rm t.width t.lines (t.head.map λb=>au "head "++b) (t.foot.map λb=>au "foot "++b) (t.parts.map ll)).flatMap (λl=>l++[10])=sF t:=by unfold rm sF;cases t.head<;>cases t.foot<;>rfl
def Tb{T:eS}{t:iZ}(h:lZ T t):(sF t).length<=100000:=by
 rw[<-Cj];have z:=h.w1;have d:=h.l1;have x:=Rt.iB (n:=t.width) (k:=5) QB QA;have y:=Rt.iB (n:=t.lines) (k:=5) QB QA;have v:∀q∈t.parts,(ll q).length<=210:=λq m=>by obtain⟨i,u,j⟩:=oU.mp m;show ai (Paired.get h.parts (show t.parts[i]? =some q by rw[dA u,j])) λp _ s=>?_;show HI s
 have e:∀l∈rm t.width t.lines (t.head.map λb=>au "head "++b) (t.foot.map λb=>au "foot "++b) (t.parts.map ll),(l++[10]).length<=211:=λl d=>by
  rw[aP,aG,dC];unfold rm at d;rcases eA.mp d with d | d
  .rcases eA.mp d with d | d
   .rcases bG.mp d with rfl | d
    .rw[aP,show(au "width ").length=6 by decide +kernel];lia
    .obtain rfl:l=_:=by simpa using d
     rw[aP,show(au "lines ").length=6 by decide +kernel];lia
   .rcases eA.mp d with d | d
    .show ai (mX.mp (xp.mp d)) λb g a=>?_;subst a;have:=yb h.head b g;rw[aP,show(au "head ").length=5 by decide +kernel];lia
    .show ai (mX.mp (xp.mp d)) λb g a=>?_;subst a;have:=yb h.foot b g;rw[aP,show(au "foot ").length=5 by decide +kernel];lia
  .show ai (dM.mp d) λq m a=>?_;subst a;have:=v q m;lia
 have o:=kD (f:=λl:List Nat=>l++[10]) (c:=211) _ e;have r:(rm t.width t.lines (t.head.map λb=>au "head "++b) (t.foot.map λb=>au "foot "++b) (t.parts.map ll)).length<=44:=by have:=h.d6;unfold rm;rw[aP,aP,aP,ay];cases t.head<;>cases t.foot<;>simp<;>lia
 show dE o (dE (kj 211 r) QB)
def XC(G:bh K mg ad):bu P w K mg base 4 "print_template" ["laboratory","call"] (iF ad Bi):=by
 show G.OD.has Ke (λvs H Q E h=>?_) (λf a4 A X s H vs Q E y h=>?_)
 .revert h;intro g;show iM g λR c h F kind stop nums Y rows n H0 a _=>?_;subst g a;rfl
 .revert h;intro l;show i9 l λR c h F kind stop nums Y rows n H0 a I Z p N b4 d k=>?_;subst l a;obtain⟨cx,na,ra,hc,L,b3⟩:=p;obtain⟨i,rfl,rfl,O⟩:∃i,nums= [i]/\rows= []/\dF h (.print i)=(F,n):=by obtain⟨_,C,d⟩:=gO d;obtain⟨D,d⟩:=fE d;show⟨_,C,D,df.inj d⟩
  clear d;show ml ((I.mono Z).ex) λdx T A' S b7 a3 b5 b8 h1 h2 h3 h4 h5 h6 h7 h8 h9 a5=>?_;have g1:=fX _ _ h2;have r:=Paired.length h4;show⟨_,(ak (stX 2 Ke.nd (cz (cX K) (ax K (pv 1)) aD (λ_ _=>rfl)))
 (ak (bL (fZ (ez (pqX (mz G) y (ae (ax K (pv 0)) (ae (pv 2) ag)))))
  (aq (aK (bt (ae (gi G.jW) ag))))
  de)
 (aq (aK (cU mC (bt (ae aD ag)) (pqX (ow G) y (ae (pqX (BW G) y (ae (pqX (RV G) y (ae (cz (cX K) (ax K (pv 0)) (pv 2) (λ_ _=>rfl)) ag)) ag)) ag))))))),?_⟩
  dsimp only[bg,bf,a8,aB,tC,aY,L2.start,aX,aU,aV,aW,d5,d4];show aCallX G hc ?_;show dk (v:= .int i) (aj.of L) (fu rfl) ?_;lk;show aLaboratoryX G g1 ?_;show aJ T _ i ⟨rfl,h3,?_⟩;rw[ay,r];show ?_;lk;have d:qC h i (λx=>(h,0::ei (sF x)))=(F,n):=O;unfold qC at d;show ky (λu=>?_) (λu=>?_)
  .rw[QG u]at d;show eG (eF d Z I k)
  rw[QH (by rw[u];show λz=>nomatch z)]at d;show ai (kL u) λj q hj=>?_;subst q;obtain⟨x,hx⟩:∃x,h.templates[j]? =some x:=⟨_,dA hj⟩;rw[eN,hx]at d;replace k:=kE d k;show ai (Paired.get h4 hx) λb hb m=>bp m λPT ps _ e o=>?_;clear m;have o:=o.mono fX;have b1:=Tb e;have hw:=e.w1;have hl:=e.l1;have a0:=e.d6;show⟨by rw[aQ];decide,λq0 M=>?_⟩;generalize e1:upd H q0 _=H1;have B:=sN e1 M;have v1:H1 q0=some (.lst ([(0:Int)].map V.int)):=vN e1;show aLaboratoryX G (B _ _ g1) ?_;show dk (v:= .ref b) (aj.of (B _ _ h3)) (at_of rfl (lH hb)) ?_;show wR b _ _ _ _ _ ⟨rfl,o.mono B,QA,QA,by rw[ay];lia,λlq H2 U b0 s2 W J=>?_⟩;show aZ lq _ ⟨rfl,⟨U,W,J⟩,by rw[Cj];lia,λpq H3 b2 s3 t=>?_⟩;rw[Cj]at t;show rL t QA λq5 H5 f5 s5 v5=>?_;show xP ((s2.trans (s3.trans s5)) _ _ v1) v5 (by rw[pT,aG,aG,dC,jG];lia) (iD (B.trans (s2.trans (s3.trans s5))) ?_);show reads Z I k
def gm(R:List ab)(a H H':Hp):Hp:=λb=>if(H b=none\/a b≠none)\/b∈R then H' b else none
def Gk{R:List ab}{a H H':Hp}{b:ab}(h:b∈R):gm R a H H' b=H' b:=QG (.inr h)
def oe{R:List ab}{a H H':Hp}{b:ab}(h:H b=none):gm R a H H' b=H' b:=QG (.inl (.inl h))
def og{R:List ab}{a H H':Hp}{b:ab}{o:HO}(h:a b=some o):gm R a H H' b=H' b:=QG (.inl (.inr (by rw[h];show λz=>nomatch z)))
def vC{R:List ab}{a H H':Hp}{M:List ab}(f:∀b∈M,a b≠none)(h:∀b o,H b=some o->b∉M->H' b=some o):Fr R a H (gm R a H H') H':=by
 show⟨λb o e=>?_,λb d c g=>⟨?_,?_⟩⟩
 .unfold gm at e;split at e
  .show e
  .cases e
 .cases e:H b with
  |none=>show absurd e d
  |some o=>show h b o e (λz=>f b z c)
 .show QH (λz=>z.elim (λz=>z.elim d λz=>z c) g)
def x8{R:List ab}{a H H':Hp}{M M':List ab}(i:ah a H)(g:∀b∈M',b∈M\/H b=none)(h:∀b o,H b=some o->b∉M->H' b=some o):ah (off M a) (off M' (gm R a H H')):=λb o e=>by obtain⟨d,f⟩:=nA e;have c:=i _ _ d;rw[off_ne (λz=>(g b z).elim f λz=>by rw[z]at c;cases c),og d];show h b o c f
def eO.LO{R:List ab}{f H H':Hp}{B:ab}{h:bz}{N T A S b vl:ab}{s g r d:List ab}{x:dg}(aA:kP {h with answers:=h.answers++[x]})(M:ah f H)
  (E:(T::A::S::d).Nodup) (h2:off (T::A::S::d) f B=some (.ins ad.jh N (nv (.ref T) (.ref A) (.ref S)))) (X:f T=some (.lst (s.map V.ref))) (h4:Paired (l7 ad (off (T::A::S::d) f)) s h.templates) (Y:f A=some (.lst (g.map V.ref))) (Z:f S=some (.lst (r.map V.ref))) (h7:Paired (kr ad (off (T::A::S::d) f)) r h.sent) (h8:g.length=h.answers.length) (h9:d.length=h.answers.length)
  (u:∀(i:Nat)(x:dg),h.answers[i]? =some x->∃a vl,g[i]? =some a/\d[i]? =some vl/\lM ad f (T::A::S::d) a vl i x)
  (hk:∀b o,H b=some o->b≠A->H' b=some o) (hA:H' A=some (.lst ((g++[b]).map V.ref))) (v:H vl=none) (hB:lM ad (gm R f H H') (T::A::S::(d++[vl])) b vl h.answers.length x):
  eO ad (gm R f H H') B {h with answers:=h.answers++[x]}:=by
 have hM:∀c∈T::A::S::(d++[vl]),c∈T::A::S::d\/H c=none:=λc l=>by
  simp only[bG,eA,gz,or_false]at l ⊢;rcases l with z | z | z | z | z
  .show .inl (.inl z)
  .show .inl (.inr (.inl z))
  .show .inl (.inr (.inr (.inl z)))
  .show .inl (.inr (.inr (.inr z)))
  .show .inr (z▸v)
 have keep:=x8 (R:=R) (H':=H') M hM λc o e n=>hk c o e (λz=>n (by simp[z]));have J:T≠A:=λz=>by simp[z]at E
 have I:S≠A:=λz=>by simp[z]at E
 have own:∀{c:ab}{o:HO},f c=some o->c≠A->gm R f H H' c=some o:=λe n=>by rw[og e];show hk _ _ (M _ _ e) n
 have L:∀c∈T::A::S::d,c≠vl:=λc l z=>by
  have m:f vl=none:=M.free v;simp only[bG]at l;rcases l with y | y | y | y
  .rw[<-z,y,X]at m;cases m
  .rw[<-z,y,Y]at m;cases m
  .rw[<-z,y,Z]at m;cases m
  .obtain⟨i,F,G⟩:=oU.mp y;obtain⟨w,hw⟩:∃w,h.answers[i]? =some w:=⟨_,dA QA⟩;show bp (u i w hw) λa C Q t j=>jb j λO tl ul vs f1 f2 U D W=>?_;clear j;rw[dA F,G]at t;cases t;rw[z,m]at D;cases D
 show⟨⟨N,T,A,S,s,g++[b],r,d++[vl],?_,keep _ _ h2,own X J,Paired.dS h4 λ_ _ q=>q.mono keep,by rw[og Y];show hA,own Z I,Paired.dS h7 λ_ _ q=>q.mono keep,by simp[h8],by simp[h9],λi y p=>?_⟩,aA⟩
 .have e:T::A::S::(d++[vl])=(T::A::S::d)++[vl]:=rfl;rw[e,w9];show⟨E,QD,λa ha c l=>?_⟩;obtain rfl:c=vl:=by simpa using l
  show L a ha
 .have p:(h.answers++[x])[i]? =some y:=p;by_cases c:i<h.answers.length
  .rw[w4 c]at p;show bp (u i y p) λa C Q t k=>jb k λO tl ul vs f1 f2 U D W=>?_;clear k;show aZ a C ⟨by rw[w4 QA];show Q,by rw[w4 QA];show t,eY O tl ul vs ⟨keep _ _ f1,keep _ _ f2,keep _ _ U,own D ?_,Paired.dS W λ_ _ q=>q.mono keep⟩⟩;intro z;have:=dD t;rw[z]at this;simp[this]at E
  .have F:i=h.answers.length:=by have:=(dW.mp p).1;rw[aP,aG,dC]at this;lia
   subst F;rw[rY (bo _),mV]at p;cases p;show aZ b vl ⟨by rw[rY QA,h8,mV];rfl,by rw[rY QA,h9,mV];rfl,hB⟩
def A9(h:bz)(a:List Int)(b:List (List Nat)):Option (bz×List Int):=xK a λp d f=>xK b λt u v=>some (dF h (.answer p d f t u v))
def DN{t:List Nat}(h:pj t=true):t.length<=12:=by unfold pj at h;rw[eC,eC,QK,QK]at h;show h.2.1
def Xr(G:bh K mg ad):bu P w K mg base 4 "add_answer" ["laboratory","call"] (iF ad A9):=by
 show G.Ny.has oz (λvs H Q E h=>?_) (λf l6 A l0 s H vs Q E hr h=>?_)
 .revert h;intro a5;show iM a5 λk2 c h h' kind stop nums l2 rows ans V D _=>?_;subst a5 D;rfl
 .revert h;intro b0;show i9 b0 λk2 c h h' kind stop nums l2 rows ans V D hL s0 c0 F b8 g k=>?_;subst b0 D;obtain⟨cx,na,ra,hc,b3,b7⟩:=c0;obtain⟨p,d,fl,tx,un,va,rfl,rfl,j2⟩:∃p d f t u v,nums= [p,d,f]/\rows= [t,u,v]/\dF h (.answer p d f t u v)=(h',ans):=by obtain⟨_,_,_,g6,g⟩:=sJ g;obtain⟨_,_,_,g7,g⟩:=sJ g;show wR _ _ _ _ _ _ ⟨g6,g7,df.inj g⟩
  clear g;have hu:=hr.units;have m2:=b8 tx QD;have m3:=b8 un QD;have m4:=b8 va QD;obtain⟨F,W⟩:=F;cases F with
  |@cons O _ _ _ d3 X=>
  cases X with
  |@cons U _ _ _ e0 X=>
  cases X with
  |@cons r _ _ _ e4 X=>
  cases X;show ml hL.ex λdx T C S m6 l5 m5 a0 h1 h2 h3 h4 h5 h6 h7 h8 h9 c9=>?_;have g1:=(fX.trans s0) _ _ h2;have g5:=s0 _ _ h5;show⟨_,(ak (stX 2 oz.nd (cz (cX K) (ax K (pv 1)) aD (λ_ _=>rfl)))
 (ak (stX 3 oz.nd (cz (cX K) (ax K (pv 1)) aD (λ_ _=>rfl)))
 (ak (stX 4 oz.nd (cz (cX K) (ax K (pv 1)) aD (λ_ _=>rfl)))
 (ak (stX 5 oz.nd (cz (cX K) (ax K (pv 1)) aD (λ_ _=>rfl)))
 (ak (stX 6 oz.nd (cz (cX K) (ax K (pv 1)) aD (λ_ _=>rfl)))
 (ak (stX 7 oz.nd (cz (cX K) (ax K (pv 1)) aD (λ_ _=>rfl)))
 (ak (bL (fZ (PW.pt (gS (ez (pqX (yz G) hr (ae (pv 2) ag))) (gS (ez (pqX (yx G) hr (ae (pv 3) ag))) (ju (ez (pqX (Hi G) hr (ae (pv 4) ag))))))))
  (aq (aK (bt (ae (gi G.jW) ag))))
  de)
 (ak (bL (fZ (PW.pt (gS (ez (pqX (yy G) hr (ae (pv 5) ag))) (gS (ez (pqX (BZ G) hr (ae (pv 6) ag))) (ju (ez (pqX (BZ G) hr (ae (pv 7) ag))))))))
  (aq (aK (bt (ae (gi G.xN) ag))))
  de)
 (ak (stX 8 oz.nd (di (eK K) QE G.dN dO (ae (ax K (pv 0)) ag)))
 (ak (bL (cW (fz K hu) (pv 8) (gi G.Mu) QE)
  (aq (aK (bt (ae (gi G.vd) ag))))
  de)
 (ak (stX 9 oz.nd (kJ (Rx G) (hr.mono QB) (ae (pv 8) (ae (pv 2) (ae (pv 3) (ae (pv 5) (ae (pv 6) ag)))))))
 (ak (dR (gI K (ax K (pv 9)) (kJ (BU G) (hr.mono QB) (ae (gi G.Mj) (ae (pv 4) (ae (pv 7) ag))))))
 (ak (dR (gI K (ax K (pv 0)) (pv 9)))
 (aq (aK (bt (ae aD (ae (pv 8) ag)))))))))))))))))),?_⟩
  dsimp only[bg,bf,a8,aB,tC,aY,L2.start,aX,aU,aV,aW,d5,d4];show aCallX G hc ?_;show dk (v:= .int p) (aj.of b3) (fu rfl) ?_;show aCallX G hc ?_;show dk (v:= .int d) (aj.of b3) (at_of (j:=1) rfl rfl) ?_;show aCallX G hc ?_;show dk (v:= .int fl) (aj.of b3) (at_of (j:=2) rfl rfl) ?_;show aCallX G hc ?_;show dk (v:= .ref O) (aj.of b7) (fu rfl) ?_;show aCallX G hc ?_;show dk (v:= .ref U) (aj.of b7) (at_of (j:=1) rfl rfl) ?_;show aCallX G hc ?_;show dk (v:= .ref r) (aj.of b7) (at_of (j:=2) rfl rfl) ?_;k_in;have g:(if((dQ p 1 1000000000&&dQ d 0 100000)&&dQ fl 0 3)=false then jl h (-1)else if(eQ tx&&(pj un&&pj va))=false then jl h (-2)else if 60<=h.answers.length then jl h (-6)else({h with answers:=h.answers++[{person:=p.toNat,day:=d.toNat,test:=tx,unit:=un,versions:= [{value:=va,flag:=fl.toNat,status:=0}]}]},[0,(h.answers.length:Int)]))=(h',ans):=j2;exists p,rfl;show mi (λc1=>?_) (λc1=>?_)
  .rw[QG (by rw[c1];rfl)]at g;show eG (eF g s0 hL k)
  exists d,rfl;show mi (λc2=>?_) (λc2=>?_)
  .rw[QG (by rw[c1,c2];rfl)]at g;show eG (eF g s0 hL k)
  exists fl,rfl;cases c3:dQ fl 0 3 with
  |false=>rw[QG (by rw[c1,c2,c3];rfl)]at g;show eG (eF g s0 hL k)
  |true=>
  rw[QH (by rw[c1,c2,c3];decide)]at g
  try rw[QH QB]
  show aZ O tx ⟨rfl,d3,by rw[aQ];lia,λH1 s1=>?_⟩;k_in;show mi (λc4=>?_) (λc4=>?_)
  .rw[QG (by rw[c4];rfl)]at g;show eG (iD s1 (eF g s0 hL k))
  show aZ U un ⟨rfl,s1 _ _ e0,by rw[aQ];lia,λH2 s2=>?_⟩;k_in;have S2:=s1.trans s2;show mi (λc5=>?_) (λc5=>?_)
  .rw[QG (by rw[c4,c5];rfl)]at g;show eG (iD S2 (eF g s0 hL k))
  show aZ r va ⟨rfl,S2 _ _ e4,by rw[aQ];lia,λH3 s3=>?_⟩;k_in;have S3:=S2.trans s3;show ky (λc6=>?_) (λc6=>?_)
  .rw[QG (by rw[c4,c5,c6];rfl)]at g;show eG (iD S3 (eF g s0 hL k))
  rw[QH (by rw[c4,c5,c6];decide)]at g;show aLaboratoryX G (S3 _ _ g1) ?_;exists _,.inl ⟨_,aj.of (S3 _ _ g5),rfl⟩;rw[ay,h8];have l3:=hL.ok.iO;by_cases c7:60<=h.answers.length
  .rw[QG c7]at g;show dw (QI QA) ?_;show eG (iD S3 (eF g s0 hL k))
  rw[QH c7]at g;show dJ (QJ QA) ?_;replace k:=kE g k;obtain⟨pn,rfl,j1⟩:∃n:Nat,p=(n:Int)/\n<=1000000000:=⟨p.toNat,by unfold dQ at c1;rw[eC,QK,QK]at c1;lia⟩
  obtain⟨dn,rfl,i0⟩:∃n:Nat,d=(n:Int)/\n<=100000:=⟨d.toNat,by unfold dQ at c2;rw[eC,QK,QK]at c2;lia⟩
  obtain⟨fn,rfl,i1⟩:∃n:Nat,fl=(n:Int)/\n<=3:=⟨fl.toNat,by unfold dQ at c3;rw[eC,QK,QK]at c3;lia⟩
  rw[eN,eN,eN]at k;have d8:V O=none:=W O QD;have e3:V U=none:=W U QD;have e5:V r=none:=W r QD;have d2:∀m∈T::C::S::a0,V m≠none:=λm B=>by
   simp only[bG]at B;rcases B with z | z | z | z
   .rw[z,h3];show λz=>nomatch z
   .rw[z,h5];show λz=>nomatch z
   .rw[z,h6];show λz=>nomatch z
   .obtain⟨i,hi,i3⟩:=oU.mp z;obtain⟨w,hw⟩:∃w,h.answers[i]? =some w:=⟨_,dA QA⟩;show bp (c9 i w hw) λa m7 e1 e2 b1=>jb b1 λdy tl ul vs f1 f2 f3 f4 f5=>?_;clear b1;rw[dA hi,i3]at e2;cases e2;rw[f4];show λz=>nomatch z
  dsimp only[iU,aL,aB,aR,tC,ee,aX,aU,aV,aW,d5,d4];show(λb bx hb g9 m1=>?_);have sM:ah H3 (upd (upd H3 bx (.own b)) b (.ins ad.Answer bx [])):=((ah.refl H3).upd g9).upd hb;show wU b bx _ _ _ _ _ ⟨rfl,ar,λH4 vl a3 e8 J b4=>⟨rfl,?_⟩⟩;have s4:ah H3 H4:=b4.same sM hb;have e9:=sM.free e8;have S4:=S3.trans s4;show aAnswerX G a3 ?_;show⟨.inl ⟨rfl,_,aj.of J⟩,λvo vx Y k1 l4=>?_⟩;show gD vo vx _ _ _ ⟨rfl,ar,λH5 f6 b5=>⟨rfl,?_⟩⟩;have s5:ah H4 H5:=b5.same (((ah.refl H4).upd k1).upd Y) Y;have S5:=S4.trans s5;show aJ vl _ _ ⟨rfl,rfl,s5 _ _ J,by rw[aQ];decide,?_⟩;generalize e6:upd H5 vl _=H6;have k6:∀m,m≠vl->H6 m=H5 m:=λm B=>by rw[<-e6,az B]
  have L:H vl=none:=S3.free e9;have fb:H b=none:=S3.free hb;have b2:H vo=none:=S4.free Y;have S6:ah H H6:=by rw[<-e6];show S5.upd L
  show aLaboratoryX G (S6 _ _ g1) ?_;show⟨.inl ⟨rfl,_,aj.of (S6 _ _ g5)⟩,aJ C _ _ ⟨rfl,rfl,S6 _ _ g5,by rw[ay,h8,aQ];lia,?_⟩⟩;generalize e7:upd H6 C _=H7;have k7:∀m,m≠C->H7 m=H6 m:=λm B=>by rw[<-e7,az B]
  have hk:∀m o,H m=some o->m≠C->H7 m=some o:=λm o e n=>by rw[k7 m n];show S6 _ _ e
  have k3:b≠C:=λz=>by rw[z,g5]at fb;cases fb
  have k8:vl≠C:=λz=>by rw[z,g5]at L;cases L
  have k5:vo≠C:=λz=>by rw[z,g5]at b2;cases b2
  have g0:b≠vl:=λz=>by rw[z,J]at a3;cases a3
  have g4:vo≠vl:=λz=>by rw[z,J]at Y;cases Y
  have f7:∀m,H m=none->m∉T::C::S::a0:=λm B z=>d2 m z (s0.free B);have f9:∀m,V m=none->m∉T::C::S::a0:=λm B z=>d2 m z B;have I:∀(m:ab)(l:List Nat),m∈ [O,U,r]->V m=none->L2.Row H m l->L2.Row (off (T::C::S::(a0++[vl])) (gm [O,U,r] V H H7)) m l:=λm l B h0 a4=>by
   show off _ _ m=_;have n1:m≠vl:=eu a4 L;have N:=f9 m h0;rw[off_ne (by simp only[bG,eA,gz,or_false,not_or]at N ⊢;show⟨N.1,N.2.1,N.2.2.1,N.2.2.2,n1⟩),Gk B]
   show hk m _ a4 (λz=>N (by simp[z]))
  have Z:∀(m:ab)(o:HO),H m=none->m≠vl->H7 m=some o->off (T::C::S::(a0++[vl])) (gm [O,U,r] V H H7) m=some o:=λm o B n1 e=>by
   have N:=f7 m B;rw[off_ne (by simp only[bG,eA,gz,or_false,not_or]at N ⊢;show⟨N.1,N.2.1,N.2.2.1,N.2.2.2,n1⟩),oe B]
   show e
  have i2:lS {person:=pn,day:=dn,test:=tx,unit:=un,versions:= [{value:=va,flag:=fn,status:=0}]}:=by
   show⟨λv hv=>?_,j1,i0,vM c4,?_,QD,QD⟩
   .obtain rfl:v=_:=by simpa using hv
    show⟨i1,DN c6⟩
   .show DN c5
  have aA:kP {h with answers:=h.answers++[{person:=pn,day:=dn,test:=tx,unit:=un,versions:= [{value:=va,flag:=fn,status:=0}]}]}:=by
   obtain⟨o1,o2,o3,o4,o5,o6⟩:=hL.ok;show⟨o1,by show(h.answers++_).length<=60;rw[aP,aG,dC];lia,o3,λx hx=>?_,λs hs y hy=>?_,o6⟩
   .rcases eA.mp hx with hx | hx
    .show o4 x hx
    .obtain rfl:x=_:=by simpa using hx
     show i2
   .have:=o5 s hs y hy;show y.1<(h.answers++_).length;rw[aP];lia
  have d1:=eO.LO (ad:=ad) (R:= [O,U,r]) (H':=H7) (b:=b) (vl:=vl) aA s0 h1 h2 h3 h4 h5 h6 h7 h8 h9 c9 hk (by rw[<-e7,ar,hY]) L ⟨bx,O,U,[vo],Z b _ fb g0 (by rw[k7 b k3,k6 b g0];show s5 _ _ a3),I O tx QD d8 d3,I U un QD e3 e0,by rw[oe L,k7 vl k8,<-e6,ar];rfl,.cons ⟨vx,r,Z vo _ b2 g4 (by rw[k7 vo k5,k6 vo g4];show f6),I r va QD e5 e4⟩ .nil⟩;have g8:Fr [O,U,r] V H (gm [O,U,r] V H H7) H7:=vC (M:= [C]) (λm B=>by
   obtain rfl:m=C:=by simpa using B
   rw[h5];show λz=>nomatch z) λm o e n=>hk m o e (λz=>n (by simp[z]))
  have c8:∀m,H7 m=none->H m=none:=λm B=>by
   cases e:H m with
   |none=>rfl
   |some o=>
    by_cases z:m=C
    .rw[z,<-e7,ar]at B;cases B
    .rw[hk m o e z]at B;cases B
  show mG (ans:= [0,(h.answers.length:Int)]) rfl QB λq H8 hq s8 j3=>k q H8 _ (g8.then s8) d1 (c8 q hq) ?_ j3;rw[oe (c8 q hq)];show hq
def eO.LQ{f H H':Hp}{Q:ab}{h:bz}{dx T A S vl p vx r:ab}{I s G d vs:List ab}{j:Nat}{x:dg}{v:iJ}(aA:kP (Au h j x v))(s0:ah f H)
  (h1:(T::A::S::d).Nodup) (h2:off (T::A::S::d) f Q=some (.ins ad.jh dx (nv (.ref T) (.ref A) (.ref S)))) (h3:f T=some (.lst (I.map V.ref))) (h4:Paired (l7 ad (off (T::A::S::d) f)) I h.templates) (h5:f A=some (.lst (s.map V.ref))) (h6:f S=some (.lst (G.map V.ref))) (h7:Paired (kr ad (off (T::A::S::d) f)) G h.sent) (h8:s.length=h.answers.length) (h9:d.length=h.answers.length)
  (F:∀(i:Nat)(x:dg),h.answers[i]? =some x->∃a vl,s[i]? =some a/\d[i]? =some vl/\lM ad f (T::A::S::d) a vl i x)
  (hx:h.answers[j]? =some x) (t:d[j]? =some vl) (O:f vl=some (.lst (vs.map V.ref))) (a5:H p=some (.ins ad.Version vx (zx (vn v.status) (vn v.flag) (.ref r)))) (b0:L2.Row H r v.value) (n1:f p=none) (n2:f r=none)
  (hk:∀b o,H b=some o->b≠vl->H' b=some o) (hV:H' vl=some (.lst ((vs++[p]).map V.ref))):
  eO ad (gm [p,r] f H H') Q (Au h j x v):=by
 have k:vl∈d:=dD t;have a4:=(dW.mp hx).1;have keep:=x8 (R:= [p,r]) (H':=H') (M:=T::A::S::d) (M':=T::A::S::d) s0 (λb hb=> .inl hb) λc o e n=>hk c o e (λz=>n (by simp[z,k]));have g:=h1;simp only[mU,bG,not_or]at g;have own:∀{c:ab}{o:HO},f c=some o->c≠vl->gm [p,r] f H H' c=some o:=λe n=>by rw[og e];show hk _ _ (s0 _ _ e) n
 have a0:∀m∈T::A::S::d,f m≠none:=λm Z=>by
  simp only[bG]at Z;rcases Z with z | z | z | z
  .rw[z,h3];show λz=>nomatch z
  .rw[z,h5];show λz=>nomatch z
  .rw[z,h6];show λz=>nomatch z
  .obtain⟨i,hi,a3⟩:=oU.mp z;obtain⟨w,hw⟩:∃w,h.answers[i]? =some w:=⟨_,dA QA⟩;show bp (F i w hw) λa u W B C=>jb C λU tl ul vs f1 f2 X L Y=>?_;clear C;rw[dA hi,a3]at B;cases B;rw[L];show λz=>nomatch z
 have l:∀(m:ab)(o:HO),m∈ [p,r]->f m=none->H m=some o->off (T::A::S::d) (gm [p,r] f H H') m=some o:=λm o Z h0 e=>by have n2:m∉T::A::S::d:=λz=>a0 m z h0;rw[off_ne n2,Gk Z];show hk m o e (λz=>n2 (by simp[z,k]))
 show⟨⟨dx,T,A,S,I,s,G,d,h1,keep _ _ h2,own h3 (λz=>g.1.2.2 (z▸k)),Paired.dS h4 λ_ _ q=>q.mono keep,own h5 (λz=>g.2.1.2 (z▸k)),own h6 (λz=>g.2.2.1 (z▸k)),Paired.dS h7 λ_ _ q=>q.mono keep,by show _=(h.answers.set j _).length;rw[uD];show h8,by show _=(h.answers.set j _).length;rw[uD];show h9,λi y N=>?_⟩,aA⟩;have N:(h.answers.set j {x with versions:=x.versions++[v]})[i]? =some y:=N;by_cases c:i=j
 .subst c;rw[zT a4]at N;cases N;show bp (F i x hx) λa u W B D=>jb D λU tl ul J f1 f2 X L Y=>?_;clear D;rw[t]at B;cases B;rw[O]at L;have b1:vs=J:=by have:=HO.lst.inj (df.inj L);show(Ea (λa b e=>V.ref.inj e)).mp this
  subst b1;show aZ a vl ⟨W,t,eY U tl ul (vs++[p]) ⟨keep _ _ f1,keep _ _ f2,keep _ _ X,by rw[og O];show hV,?_⟩⟩;show L2.Paired.snoc ⟨vx,r,l p _ QD n1 a5,l r _ QD n2 b0⟩ (Paired.dS Y λ_ _ q=>q.mono keep)
 .rw[zS (λz=>c z.symm)]at N;show bp (F i y N) λa u W B E=>jb E λU tl ul J f1 f2 X L Y=>?_;clear E;have b2:u≠vl:=λz=>by subst z;have h4:=g.2.2.2;have hi:=(dW.mp B);have hj:=(dW.mp t);show c ((List.getElem_inj h4).mp (hi.2.trans hj.2.symm))
  show aZ a u ⟨W,B,eY U tl ul J ⟨keep _ _ f1,keep _ _ f2,keep _ _ X,own L b2,Paired.dS Y λ_ _ q=>q.mono keep⟩⟩
def uX(h:bz)(j:Nat)(x:dg)(v:iJ):bz×List Int:=if xD x=false then(h,[-3])else if 6<=x.versions.length then(h,[-6])else(Au h j x v,[0,(x.versions.length:Int)])
def U7(ad:Ad):Sp:=λl H Q _=>∃(a f m g d:ab)(h:bz)(j:Nat)(x:dg)(v:iJ)(b:Hp),l= [.ref a,.ref f]/\eO ad b d h/\ah b H/\h.answers[j]? =some x/\(∃(k T A S:ab)(e:List ab),b d=some (.ins ad.jh k (nv (.ref T) (.ref A) (.ref S)))/\b A=some (.lst (e.map V.ref))/\e[j]? =some a)/\H f=some (.ins ad.Version m (zx (vn v.status) (vn v.flag) (.ref g)))/\L2.Row H g v.value/\b f=none/\b g=none/\oQ v/\
 ∀q i c,Fr [f,g] b H c i->eO ad c d (uX h j x v).1->H q=none->c q=none->i q=some (.lst ((uX h j x v).2.map V.int))->Q (.ref q) i
def Hd(G:bh K mg ad):bu P w K mg base 3 "add_version" ["answer","version"] (U7 ad):=by
 show G.NA.has Uh (λvs H Q E h=>?_) (λf b7 A b5 s H vs Q E hr h=>?_)
 .revert h;intro p;show e10_1 p λa vo vx vr b4 h j x v H0 c=>eg c λd _=>?_;clear c;subst p d;rfl
 .revert h;intro r;show e10_1 r λa vo vx vr b4 h j x v H0 c=>e0_11 c λd O D hx C W X n1 n2 b0 k=>?_;clear c;subst r d;obtain⟨b8,T',A0,S',F,l1,l2,l3⟩:=C;have hu:=hr.units;show ml O.ex λdx T A' S c4 a3 c3 a0 h1 h2 h3 h4 h5 h6 h7 h8 h9 N=>?_;have hl:=fX _ _ h2;rw[l1]at hl;obtain⟨rfl,rfl⟩:A0=A'/\F=a3:=by cases hl;rw[l2]at h5;show⟨rfl,(Ea (λa b e=>V.ref.inj e)).mp (HO.lst.inj (df.inj h5))⟩
  show bp (N j x hx) λa2 g e1 e2 hB=>?_;rw[l3]at e1;cases e1;have u:=O.ok.good x (dD hx);have hA:=(hB.mono D).at_ u;show jb hB λdy tl ul vs f1 f2 f3 J f5=>?_;clear hB;have b2:=Paired.length f5;have I:=(fX.trans D) _ _ f1;have t:=D _ _ J;show⟨_,(ak (bL (fZ (ez (pqX (Hr G) hr (ae (pv 0) ag))))
  (aq (aK (bt (ae (gi G.MC) ag))))
  de)
 (ak (bL (cW (fz K hu) (di (eK K) QE G.dN dO (ae (ax K (pv 0)) ag)) (gi G.My) QE)
  (aq (aK (bt (ae (gi G.vd) ag))))
  de)
 (ak (dR (gI K (ax K (pv 0)) (pv 1)))
 (aq (aK (bt (ae aD (ae (pqX (vP G) hr (ae (pv 0) ag)) ag)))))))),?_⟩
  k_in;show aJ a j x ⟨rfl,hA,?_⟩;unfold uX at k;show ky (λc1=>?_) (λc1=>?_)
  .rw[QG c1]at k;show eG (reads D O k)
  rw[QH (by rw[c1];show λz=>nomatch z)]at k;k_in;show aAnswerX G I ?_;exists _,.inl ⟨_,aj.of t,rfl⟩;rw[ay,b2];have c0:=u.d6;by_cases c2:6<=x.versions.length
  .rw[QG c2]at k;show dw (QI QA) ?_;show eG (reads D O k)
  rw[QH c2]at k;show dJ (QJ QA) ?_;show aAnswerX G I ?_;show⟨.inl ⟨rfl,_,aj.of t⟩,aJ g _ _ ⟨rfl,rfl,t,by rw[ay,aQ];lia,?_⟩⟩;generalize e7:upd H g _=i;have k7:∀m,m≠g->i m=H m:=λm l=>by rw[<-e7,az l]
  have v7:i g=some (.lst ((vs++[vo]).map V.ref)):=by rw[<-e7,ar,hY]
  have U:∀m o,H m=some o->m≠g->i m=some o:=λm o e n=>by rw[k7 m n];show e
  have B:lS {x with versions:=x.versions++[v]}:=by
   obtain⟨o1,o2,o3,o4,o5,o6,o7⟩:=u;exists λw Y=>?_,o2,o3,o4,o5,QD
   .rcases eA.mp Y with Y | Y
    .show o1 w Y
    .obtain rfl:w=v:=by simpa using Y
     show b0
   .show(x.versions++[v]).length<=6;rw[aP,aG,dC];lia
  have aA:kP (Au h j x v):=by
   obtain⟨o1,o2,o3,o4,o5,o6⟩:=O.ok;show⟨o1,by show(h.answers.set j _).length<=60;rw[uD];show o2,o3,λy Z=>?_,λs hs y Z=>?_,o6⟩
   .rcases List.mem_or_eq_of_mem_set (show y∈h.answers.set j {x with versions:=x.versions++[v]}from Z)with Z | rfl
    .show o4 y Z
    .show B
   .show y.1<(h.answers.set j _).length;rw[uD];show o5 s hs y Z
  have R:=eO.LQ (ad:=ad) (H':=i) (x:=x) (v:=v) aA D h1 h2 h3 h4 h5 h6 h7 h8 h9 N hx e2 J W X n1 n2 U v7;have a5:Fr [vo,vr] H0 H (gm [vo,vr] H0 H i) i:=vC (M:= [g]) (λm l=>by
   obtain rfl:m=g:=by simpa using l
   rw[J];show λz=>nomatch z) λm o e n=>U m o e (λz=>n (by simp[z]))
  have L:∀m,i m=none->H m=none:=λm l=>by
   by_cases z:m=g
   .rw[z,v7]at l;cases l
   .rw[k7 m z]at l;show l
  have b3:g∈a0:=dD e2;have m7:ah (off (T::A0::S::a0) H0) i:=λb o e=>by obtain⟨z1,z2⟩:=nA e;show U b o (D _ _ z1) (λz=>z2 (by simp[z,b3]))
  have a4:iV ad i a j {x with versions:=x.versions++[v]}:=by
   show⟨⟨dy,tl,ul,g,vs++[vo],m7 _ _ f1,m7 _ _ f2,m7 _ _ f3,v7,?_⟩,B.ne,by have:=B.d6;lia⟩;show L2.Paired.snoc ⟨vx,vr,?_,?_⟩ (Paired.dS f5 λ_ _ q=>q.mono m7)
   .show U _ _ W (λz=>by rw[z,J]at n1;cases n1)
   .show U _ _ X (λz=>by rw[z,J]at n2;cases n2)
  show aJ a j ({x with versions:=x.versions++[v]}) ⟨rfl,a4,?_⟩;show mG (ans:= [0,(x.versions.length:Int)]) ?_ QB λq H8 hq s8 b1=>k q H8 _ (a5.then s8) R (L q hq) (by rw[oe (L q hq)];show hq) b1;show[V.int 0,vn ((x.versions++[v]).length-1)]=_;rw[aP,aG,dC,Nat.add_sub_cancel];rfl
def Ba(h:bz)(b:List Int)(c:List (List Nat)):Option (bz×List Int):=uY b λa f=>lx c λv=>some (dF h (.correct a f v))
def Bn(h:bz)(b:List Int)(c:List (List Nat)):Option (bz×List Int):=lx b λa=>jm c (some (dF h (.withdraw a)))
def Fr.outer{R R':List ab}{a H c F H':Hp}(f:Fr R' a c F H')(s:ah H c)(i:∀b∈R',H b=none\/b∈R):Fr R a H F H':=⟨f.sub,λb g h j=>by
 cases e:H b with
 |none=>show absurd e g
 |some o=>have d:=s _ _ e;obtain⟨k,l⟩:=f.keep b (by rw[d];show λz=>nomatch z) h (λz=>(i b z).elim g j);show⟨by rw[k,d],l⟩⟩
def Xv(G:bh K mg ad):bu P w K mg base 4 "correct_answer" ["laboratory","call"] (iF ad Ba):=by
 show G.NK.has yV (λvs H Q E h=>?_) (λf c4 A c0 s H vs Q E L h=>?_)
 .revert h;intro o;show iM o λU c h h' kind stop nums c3 rows r H0 e _=>?_;subst o e;rfl
 .revert h;intro p;show i9 p λU c h h' kind stop nums c3 rows r H0 e I B y g b5 d k=>?_;subst p e;obtain⟨cx,na,ra,hc,J,b3⟩:=y;obtain⟨i,t,W,rfl,rfl,b7⟩:∃a f v,nums= [a,f]/\rows= [v]/\dF h (.correct a f v)=(h',r):=by obtain⟨_,_,a3,d⟩:=pz d;obtain⟨_,a4,d⟩:=gO d;show aJ _ _ _ ⟨a3,a4,df.inj d⟩
  clear d;have c6:=b5 W QD;obtain⟨g,M⟩:=g;cases g with
  |@cons l _ _ _ N b4=>
  cases b4;have O:H0 l=none:=M l QD;show ml I.ex λdx T A' S c8 a0 c7 c9 h1 h2 h3 h4 h5 h6 h7 h8 h9 a5=>?_;have g0:=fX _ _ h2;have g1:=B _ _ g0;have g5:=B _ _ h5;show⟨_,(ak (stX 2 yV.nd (cz (cX K) (ax K (pv 1)) aD (λ_ _=>rfl)))
 (ak (stX 3 yV.nd (cz (cX K) (ax K (pv 1)) aD (λ_ _=>rfl)))
 (ak (stX 4 yV.nd (cz (cX K) (ax K (pv 1)) aD (λ_ _=>rfl)))
 (ak (bL (fZ (PW.pt (gS (ez (pqX (mz G) L (ae (ax K (pv 0)) (ae (pv 2) ag)))) (ju (ez (pqX (Hi G) L (ae (pv 3) ag)))))))
  (aq (aK (bt (ae (gi G.jW) ag))))
  de)
 (ak (bL (fZ (ez (pqX (BZ G) L (ae (pv 4) ag))))
  (aq (aK (bt (ae (gi G.xN) ag))))
  de)
 (aq (aK (pqX (Hd G) L (ae (cz (cX K) (ax K (pv 0)) (pv 2) (λ_ _=>rfl)) (ae (kJ (BU G) (L.mono QB) (ae (gi G.Mi) (ae (pv 3) (ae (pv 4) ag)))) ag)))))))))),?_⟩
  dsimp only[bg,bf,a8,aB,tC,aY,L2.start,aX,aU,aV,aW,d5,d4];show aCallX G hc ?_;show dk (v:= .int i) (aj.of J) (fu rfl) ?_;show aCallX G hc ?_;show dk (v:= .int t) (aj.of J) (at_of (j:=1) rfl rfl) ?_;show aCallX G hc ?_;show dk (v:= .ref l) (aj.of b3) (fu rfl) ?_;k_in;show aLaboratoryX G g1 ?_;show aJ A' _ i ⟨rfl,g5,?_⟩;rw[ay,h8];show ?_;k_in;have d:nR h i (λa x=>if dQ t 0 3=false then jl h (-1)else if pj W=false then jl h (-2)else uX h a x {value:=W,flag:=t.toNat,status:=1})=(h',r):=b7;unfold nR at d;show mi (λcw=>?_) (λcw=>?_)
  .rw[QG cw]at d;show eG (eF d B I k)
  rw[QH (by rw[cw];show λz=>nomatch z)]at d;show ai (kL cw) λj C hj=>?_;subst C;obtain⟨x,hx⟩:∃x,h.answers[j]? =some x:=⟨_,dA hj⟩;rw[eN,show lh h j=some x from hx]at d;dsimp only at d;exists t,rfl;cases Y:dQ t 0 3 with
  |false=>rw[QG Y]at d;show eG (eF d B I k)
  |true=>
  rw[QH (by rw[Y];show λz=>nomatch z)]at d
  try rw[QH QB]
  show aZ l W ⟨rfl,N,by rw[aQ];lia,λH1 V=>?_⟩;k_in;show ky (λZ=>?_) (λZ=>?_)
  .rw[QG Z]at d;show eG (iD V (eF d B I k))
  rw[QH (by rw[Z];show λz=>nomatch z)]at d;obtain⟨fn,rfl,b1⟩:∃n:Nat,t=(n:Int)/\n<=3:=⟨t.toNat,by unfold dQ at Y;rw[eC,QK,QK]at Y;lia⟩
  rw[eN]at d;show bp (a5 j x hx) λa vl e1 e2 hB=>?_;show aLaboratoryX G (V _ _ g1) ?_;show dk (v:= .ref a) (aj.of (V _ _ g5)) (at_of rfl (lH e1)) ?_;dsimp only[iU,aL,aB,aR,tC,ee,aX,aU,aV,aW,d5,d4];show λvo vx u b8 c5=>?_;show gD vo vx _ _ _ ⟨rfl,ar,λH2 R b2=>⟨rfl,?_⟩⟩;have s2:ah H1 H2:=b2.same (((ah.refl H1).upd b8).upd u) u;have X:=V.trans s2;have D:=V.free u;show gy a vo vx l U h j x (aZ ({value:=W,flag:=fn,status:=1}) H0 ⟨rfl,I,B.trans X,hx,⟨dx,T,A',S,a0,g0,h5,e1⟩,R,X _ _ N,B.free D,O,⟨b1,DN Z⟩,λq H' F b0 m hq hF hv=>?_⟩);rw[d]at m hv;show k q H' F (b0.outer X λb hb=>by
   simp only[bG,gz,or_false]at hb ⊢;rcases hb with rfl | rfl
   .show .inl D
   .show .inr rfl) m (X.free hq) hF hv
def XH(G:bh K mg ad):bu P w K mg base 4 "withdraw_answer" ["laboratory","call"] (iF ad Bn):=by
 show G.O9.has Ki (λvs H Q E h=>?_) (λf a5 A a3 s H vs Q E X h=>?_)
 .revert h;intro l;show iM l λC c h O kind stop nums a4 rows n H0 d _=>?_;subst l d;rfl
 .revert h;intro m;show i9 m λC c h O kind stop nums a4 rows n H0 d V t r Y b3 e k=>?_;subst m d;obtain⟨cx,na,ra,hc,W,b1⟩:=r;obtain⟨i,rfl,rfl,Z⟩:∃a,nums= [a]/\rows= []/\dF h (.withdraw a)=(O,n):=by obtain⟨_,M,e⟩:=gO e;obtain⟨N,e⟩:=fE e;show⟨_,M,N,df.inj e⟩
  clear e;show ml V.ex λdx T A' S b5 L b4 b7 h1 h2 h3 h4 h5 h6 h7 h8 h9 R=>?_;have g0:=fX _ _ h2;have g1:=t _ _ g0;have g5:=t _ _ h5;show⟨_,(ak (stX 2 Ki.nd (cz (cX K) (ax K (pv 1)) aD (λ_ _=>rfl)))
 (ak (bL (fZ (ez (pqX (mz G) X (ae (ax K (pv 0)) (ae (pv 2) ag)))))
  (aq (aK (bt (ae (gi G.jW) ag))))
  de)
 (aq (aK (pqX (Hd G) X (ae (cz (cX K) (ax K (pv 0)) (pv 2) (λ_ _=>rfl)) (ae (kJ (BU G) (X.mono QB) (ae (gi G.AO) (ae aD (ae (bt ag) ag)))) ag))))))),?_⟩
  dsimp only[bg,bf,a8,aB,tC,aY,L2.start,aX,aU,aV,aW,d5,d4];show aCallX G hc ?_;show dk (v:= .int i) (aj.of W) (fu rfl) ?_;lk;show aLaboratoryX G g1 ?_;show aJ A' _ i ⟨rfl,g5,?_⟩;rw[ay,h8];show ?_;lk;have e:nR h i (λa x=>uX h a x {value:= [],flag:=0,status:=2})=(O,n):=Z;unfold nR at e;show ky (λD=>?_) (λD=>?_)
  .rw[QG D]at e;show eG (eF e t V k)
  rw[QH (by rw[D];show λz=>nomatch z)]at e;show ai (kL D) λj u hj=>?_;subst u;obtain⟨x,hx⟩:∃x,h.answers[j]? =some x:=⟨_,dA hj⟩;rw[eN,show lh h j=some x from hx]at e;dsimp only at e;show bp (R j x hx) λa vl e1 e2 hB=>?_;show aLaboratoryX G g1 ?_;show dk (v:= .ref a) (aj.of g5) (at_of rfl (lH e1)) ?_;dsimp only[iU,aL,aB,aR,tC,bw,ee,aX,aU,aV,aW,d5,d4];show⟨cT _,λvr p=>?_⟩;generalize e3:upd H vr _=I;have s1:=sN e3 p;have v1:L2.Row I vr []:=vN e3;intro vo vx o a0 b0;show gD vo vx _ _ _ ⟨rfl,ar,λH2 B b2=>⟨rfl,?_⟩⟩;have s2:ah I H2:=b2.same (((ah.refl I).upd a0).upd o) o;have J:=s1.trans s2;have y:=s1.free o;show gy a vo vx vr C h j x (aZ ({value:= [],flag:=0,status:=2}) H0 ⟨rfl,V,t.trans J,hx,⟨dx,T,A',S,L,g0,h5,e1⟩,B,s2 _ _ v1,t.free y,t.free p,⟨QB,QB⟩,λq H' F U g hq hF hv=>?_⟩);rw[e]at g hv;show k q H' F (U.outer J λb hb=>by
   simp only[bG,gz,or_false]at hb;rcases hb with rfl | rfl
   .show .inl y
   .show .inl p) g (J.free hq) hF hv
def eO.EM{R:List ab}{f H H':Hp}{v:ab}{h:bz}{L T A S b:ab}{s g k d:List ab}{x:lg}(aA:kP {h with sent:=h.sent++[x]})(I:ah f H)
  (U:(T::A::S::d).Nodup) (h2:off (T::A::S::d) f v=some (.ins ad.jh L (nv (.ref T) (.ref A) (.ref S)))) (W:f T=some (.lst (s.map V.ref))) (h4:Paired (l7 ad (off (T::A::S::d) f)) s h.templates) (X:f A=some (.lst (g.map V.ref))) (Y:f S=some (.lst (k.map V.ref))) (h7:Paired (kr ad (off (T::A::S::d) f)) k h.sent) (h8:g.length=h.answers.length) (h9:d.length=h.answers.length)
  (t:∀(i:Nat)(x:dg),h.answers[i]? =some x->∃a vl,g[i]? =some a/\d[i]? =some vl/\lM ad f (T::A::S::d) a vl i x)
  (Z:∀b o,H b=some o->b≠S->H' b=some o) (hS:H' S=some (.lst ((k++[b]).map V.ref))) {D:Hp} (hX:kr ad (nw [] H D) b x) (s1:∀c o,D c=some o->c≠S->H' c=some o):
  eO ad (gm R f H H') v {h with sent:=h.sent++[x]}:=by
 have keep:=x8 (R:=R) (H':=H') (M:=T::A::S::d) (M':=T::A::S::d) I (λb hb=> .inl hb) λc o e n=>Z c o e (λz=>n (by simp[z]));have j:=U;simp only[mU,bG,not_or]at j;have own:∀{c:ab}{o:HO},f c=some o->c≠S->gm R f H H' c=some o:=λe n=>by rw[og e];show Z _ _ (I _ _ e) n
 have F:∀m∈T::A::S::d,f m≠none:=λm hm=>by
  simp only[bG]at hm;rcases hm with z | z | z | z
  .rw[z,W];show λz=>nomatch z
  .rw[z,X];show λz=>nomatch z
  .rw[z,Y];show λz=>nomatch z
  .obtain⟨i,hi,G⟩:=oU.mp z;obtain⟨w,hw⟩:∃w,h.answers[i]? =some w:=⟨_,dA QA⟩;show bp (t i w hw) λa B C r l=>jb l λN tl ul vs f1 f2 O E Q=>?_;clear l;rw[dA hi,G]at r;cases r;rw[E];show λz=>nomatch z
 have new:ah (nw [] H D) (off (T::A::S::d) (gm R f H H')):=λc o e=>by obtain⟨C,r⟩:=my e;have u:H c=none:=r.elim id λz=>absurd z QD;have n2:c∉T::A::S::d:=λz=>F c z (I.free u);rw[off_ne n2,oe u];show s1 c o C (λz=>n2 (by simp[z]))
 show⟨⟨L,T,A,S,s,g,k++[b],d,U,keep _ _ h2,own W j.1.2.1,Paired.dS h4 λ_ _ q=>q.mono keep,own X j.2.1.1,by rw[og Y];show hS,L2.Paired.snoc (hX.mono new) (Paired.dS h7 λ_ _ q=>q.mono keep),h8,h9,λi y hy=>?_⟩,aA⟩;show bp (t i y hy) λa B C r p=>jb p λN tl ul J f1 f2 O E Q=>?_;clear p;show aZ a B ⟨C,r,eY N tl ul J ⟨keep _ _ f1,keep _ _ f2,keep _ _ O,own E (λz=>j.2.2.1 (z▸dD r)),Paired.dS Q λ_ _ q=>q.mono keep⟩⟩
def QZ{h:bz}(s:∀x∈h.answers,lS x)(hz:h.answers.length<=60)(r:Nat):(EG h r).length<=5000:=by
 have t:=xX hz r;have b:∀l∈(au "corrections"::(ef h r).map (sE h r)),(l++[10]).length<=81:=λl j=>by
  rw[aP,aG,dC];rcases bG.mp j with rfl | j
  .rw[show(au "corrections").length=11 by decide +kernel];decide
  .show ai (dM.mp j) λn u g=>?_;subst g;obtain⟨m,a⟩:=vq u;obtain⟨y,o⟩:∃y,h.answers[n]? =some y:=⟨_,dA m⟩;have d:=s y (dD o);have k:gf h n=y.versions.length-1:=by unfold gf lh;rw[o];rfl
   unfold l8 at a;rw[k]at a;cases e:qF h r n with
   |none=>rw[e]at a;cases a
   |some v=>rw[e]at a;have z:v<y.versions.length-1:=of_decide_eq_true a;obtain⟨p,i⟩:∃p,y.versions[v]? =some p:=⟨_,dA QA⟩;rw[AW o e i d.ne];have:=Fz d (d.rK p (dD i));lia
 have q:=kD (f:=λl:List Nat=>l++[10]) (c:=81) _ b;rw[aG,ay]at q;show dE q QA
def Bf(h:bz)(a:List Int)(b:List (List Nat)):Option (bz×List Int):=lx a λr=>jm b (some (dF h (.letter r)))
def XD(G:bh K mg ad):bu P w K mg base 6 "send_letter" ["laboratory","call"] (iF ad Bf):=by
 show G.OS.has Dd (λvs H Q E h=>?_) (λf e9 A e0 s H vs Q E hr h=>?_)
 .revert h;intro I;show iM I λU c h h' kind stop nums u rows ans H0 g _=>?_;subst I g;rfl
 .revert h;intro J;show i9 J λU c h h' kind stop nums u rows ans H0 g D X W c8 f6 d k=>?_;subst J g;obtain⟨cx,na,ra,hc,c7,f5⟩:=W;obtain⟨i,rfl,rfl,c9⟩:∃a,nums= [a]/\rows= []/\dF h (.letter a)=(h',ans):=by obtain⟨_,b8,d⟩:=gO d;obtain⟨c0,d⟩:=fE d;show⟨_,b8,c0,df.inj d⟩
  clear d;have hu:=hr.units;show ml D.ex λdx T A' S f9 e6 e1 g4 h1 h2 h3 h4 h5 h6 h7 h8 h9 c4=>?_;have g0:=fX _ _ h2;have g1:=X _ _ g0;have Y:=X _ _ h6;have b7:=Paired.length h7;show⟨_,(ak (stX 2 Dd.nd (cz (cX K) (ax K (pv 1)) aD (λ_ _=>rfl)))
 (ak (bL (fZ (ez (pqX (BY G) hr (ae (pv 2) ag))))
  (aq (aK (bt (ae (gi G.jW) ag))))
  de)
 (ak (stX 3 Dd.nd (pqX (RP G) hr (ae (pv 0) (ae (pv 2) ag))))
 (ak (bL (cW (Si hu) (ax K (pv 3)) vU QE)
  (aq (aK (bt (ae (gi G.MB) ag))))
  de)
 (ak (bL (cW (fz K hu) (di (eK K) QE G.dN dO (ae (ax K (pv 0)) ag)) (gi G.Ff) QE)
  (aq (aK (bt (ae (gi G.vd) ag))))
  de)
 (ak (dR (gI K (ax K (pv 0)) (pv 3)))
 (aq (aK (bt (ae aD (ae (cU lF (di (eK K) QE G.dN dO (ae (ax K (pv 0)) ag)) aD) (ae (di Fn QE G.dN dO (ae (ax K (pv 3)) ag)) ag)))))))))))),?_⟩
  dsimp only[bg,bf,a8,aB,tC,aY,L2.start,aX,aU,aV,aW,d5,d4];show aCallX G hc ?_;show dk (v:= .int i) (aj.of c7) (fu rfl) ?_;k_in;exists i,rfl;have d:(if dQ i 0 19=false then jl h (-1)else if(ef h i.toNat).isEmpty=true then jl h (-8)else if 40<=h.sent.length then jl h (-6)else({h with sent:=h.sent++[tL h i.toNat]},[0,(h.sent.length:Int),((ef h i.toNat).length:Int)]))=(h',ans):=c9;show ky (λc1=>?_) (λc1=>?_)
  .rw[QG c1]at d;show eG (eF d X D k)
  rw[QH (by rw[c1];show λz=>nomatch z)]at d;obtain⟨r,rfl,e5⟩:=kL (n:=20) c1;rw[eN]at d;show aJ U r h ⟨rfl,D.mH.mono X,D.ok.good,λb H1 s1 fb b0=>?_⟩;show kA (id b0) λe8 rl td ks b1 b2 b3 b4=>?_;have a0:=jt _ _ b1;have t:=jt _ _ b3;show aSentX G a0 ?_;intro p hp;generalize e2:upd H1 p _=H2;have s2:=sN e2 hp;have v2:H2 p=some (.dK []):=vN e2;have C:=s1.trans s2;obtain⟨⟨L,c6,O⟩,f3,f7,e4⟩:=b4;have j:ks.length=(ef h r).length:=by rw[c6,ay,O.length_eq];show((ef h r).map _).length=_;rw[ay]
  have b5:ks.isEmpty=(ef h r).isEmpty:=by
   cases Z:ef h r with
   |nil=>
    rw[Z]at j;cases ks with
    |nil=>rfl
    |cons _ _=>cases j
   |cons _ _=>
    rw[Z]at j;cases ks with
    |nil=>cases j
    |cons _ _=>rfl
  show aJ td p ks ⟨rfl,rfl,s2 _ _ t,v2,?_⟩;rw[b5];by_cases c2:(ef h r).isEmpty=true
  .rw[QG c2]at d;k_in;rw[QG c2];show eG (iD C (eF d X D k))
  rw[QH c2]at d;lk;rw[QH c2];show aLaboratoryX G (C _ _ g1) ?_;exists _,.inl ⟨_,aj.of (C _ _ Y),rfl⟩;rw[ay,b7];have e3:=D.ok.Bp;by_cases c3:40<=h.sent.length
  .rw[QG c3]at d;show dw (QI QA) ?_;show eG (iD C (eF d X D k))
  rw[QH c3]at d;show dJ (QJ QA) ?_;replace k:=kE d k;show aLaboratoryX G (C _ _ g1) ?_;show⟨.inl ⟨rfl,_,aj.of (C _ _ Y)⟩,aJ S _ _ ⟨rfl,rfl,C _ _ Y,by rw[ay,aQ];lia,?_⟩⟩;generalize e7:upd H2 S _=B;have k7:∀m,m≠S->B m=H2 m:=λm F=>by rw[<-e7,az F]
  have v7:B S=some (.lst ((e1++[b]).map V.ref)):=by rw[<-e7,ar,hY]
  have hk:∀m o,H m=some o->m≠S->B m=some o:=λm o e n=>by rw[k7 m n];show C _ _ e
  have N:∀m o,H1 m=some o->m≠S->B m=some o:=λm o e n=>by rw[k7 m n];show s2 _ _ e
  have d2:b≠S:=λz=>by rw[z,Y]at fb;cases fb
  have d8:td≠S:=λz=>by rw[z,s1 _ _ Y]at t;cases t
  have d3:U≠S:=kI g1 Y (λz=>nomatch z);have aA:kP {h with sent:=h.sent++[tL h r]}:=by
   obtain⟨o1,o2,o3,o4,o5,o6⟩:=D.ok;show⟨o1,o2,by show(h.sent++_).length<=40;rw[aP,aG,dC];lia,o4,λs l y hy=>?_,λs l=>?_⟩
   .rcases eA.mp l with l | l
    .show o5 s l y hy
    .obtain rfl:s=tL h r:=by simpa using l
     show ai (dM.mp (show y∈(ef h r).map λa=>(a,gf h a)from hy)) λn hn a3=>?_;subst a3;show(vq hn).1
   .rcases eA.mp l with l | l
    .show o6 s l
    .obtain rfl:s=tL h r:=by simpa using l
     have:=QZ o4 o2 r;show⟨by show(EG h r).length<=_;lia,by show 1<=20000;decide⟩
  have a5:=eO.EM (ad:=ad) (R:=u) (H':=B) (x:=tL h r) aA X h1 h2 h3 h4 h5 h6 h7 h8 h9 c4 hk v7 b0 N;have c5:Fr u H0 H (gm u H0 H B) B:=vC (M:= [S]) (λm F=>by
   obtain rfl:m=S:=by simpa using F
   rw[h6];show λz=>nomatch z) λm o e n=>hk m o e (λz=>n (by simp[z]))
  have a4:∀m,B m=none->H m=none:=λm F=>by
   cases e:H m with
   |none=>rfl
   |some o=>
    by_cases z:m=S
    .rw[z,v7]at F;cases F
    .rw[hk m o e z]at F;cases F
  show aLaboratoryX G (hk _ _ g1 d3) ?_;exists _,.inl ⟨_,aj.of v7,rfl⟩;show aSentX G (N _ _ a0 d2) ?_;exists td,rfl,ks,N _ _ t d8;rw[j,ay,aP,aG,dC,b7];show mG (ans:= [0,(h.sent.length:Int),((ef h r).length:Int)]) ?_ QB λq H8 Z s8 d1=>k q H8 _ (c5.then s8) a5 (a4 q Z) (by rw[oe (a4 q Z)];show Z) d1;rw[show((h.sent.length+(0+1):Nat):Int)-1=(h.sent.length:Int)by lia];rfl
def eX:List (List Nat)->List Int
 |[]=> []
 |r::rs=>((r.length:Int)::eW r)++eX rs
def yO:∀a b:List (List Nat),eX (a++b)=eX a++eX b
 |[],b=>rfl
 |r::a,b=>by show((r.length:Int)::eW r)++eX (a++b)=_;rw[yO a b,<-eZ];rfl
def xW{α:Type}(a b:List α):(a++b).drop a.length=b:=QD
def VP(K:aw)(ad:Ad):Sp:=λi H Q _=>∃(h:ab)(g:Nat)(c ns d:List Int)(b:List (List Nat)),i= [.ref h,vn c.length]/\aj K H h ((c++(((g:Int)::ns)++(eX b++d))).map V.int)/\shapes[g]? =some (ns.length,b.length)/\(c++(((g:Int)::ns)++(eX b++d))).length<=1000000/\
 ∀q f e,H q=none->ah H f->zB ad f q g ns e (c.length+(1+ns.length+(eX b).length))->b9 f e b->(∀a∈e,H a=none)->Q (.ref q) f
def RW(G:bh K mg ad)(T:pb P w K mg):bu P w K mg base 3 "read_call" ["calls","start"] (VP K ad):=by
 show G.OG.hsX oA λf c4 A c2 s H vs Q E hr h=>?_;show mj h λca u pre ns rest rows N p W hz k=>?_;subst h N;show bp T.PV λfo c5 a5 b1 b0=>?_;show ai (Paired.get b0 W) λfa a4 v=>?_;have b4:(pre++(((u:Int)::ns)++(eX rows++rest)))[pre.length]? =some (u:Int):=by rw[rY (bo _),mV];rfl
 have b3:((pre++(((u:Int)::ns)++(eX rows++rest))).drop (pre.length+1)).take ns.length=ns:=by rw[<-mR,xW];show(ns++(eX rows++rest)).take ns.length=ns;simp
 have J:∀(i:Nat)(r:List Nat),rows[i]? =some r->∃tl,(pre++(((u:Int)::ns)++(eX rows++rest))).drop (pre.length+(1+ns.length+(eX (rows.take i)).length))=((r.length:Int)::eW r)++tl:=λi r hi=>by
  have b2:=(dW.mp hi).1;exists eX (rows.drop (i+1))++rest;have Z:eX rows=eX (rows.take i)++(((r.length:Int)::eW r)++eX (rows.drop (i+1))):=by
   conv=>lhs;rw[<-jQ i rows,yO,kQ b2,(dW.mp hi).2]
   rfl
  rw[<-mR,xW,<-mR];have e2:(((u:Int)::ns)++(eX rows++rest)).drop (1+ns.length)=eX rows++rest:=by have:=xW ((u:Int)::ns) (eX rows++rest);rw[aG,Ej]at this;show this
  rw[e2,Z,eZ,xW,eZ]
 generalize hl:pre++(((u:Int)::ns)++(eX rows++rest))=l at *;have c9:rows.length<=3:=by have:∀x∈shapes,x.2<=3:=QB;show this _ (dD W)
 have c8:pre.length+(1+ns.length+(eX rows).length)<=l.length:=by rw[<-hl];simp only[aP,aG];lia
 show⟨_,(ak (stX 2 oA.nd (cz (cX K) (pv 0) (pv 1) (λ_ _=>rfl)))
 (ak (stX 3 oA.nd (cz (cX K) (gr a5) (pv 2) (λ_ _=>rfl)))
 (ak (stX 4 oA.nd (cU ik (cU ik (pv 1) aD) (cz (cX K) (pv 3) aD (λ_ _=>rfl))))
 (ak (stX 5 oA.nd (jf (kK K) (pv 0) (gR (cU ik (pv 1) aD)) (gR (pv 4))))
 (ak (stX 6 oA.nd (bt ag))
 (ak (fA rfl (Cf rfl G.uZ (ae (cz (cX K) (pv 3) aD (λ_ _=>rfl)) ag)) (gnX 7 oA.nd)
 (ak (stX 8 oA.nd (cU ik (cU ik (pv 4) aD) (cz (cX K) (pv 0) (pv 4) (λ_ _=>rfl))))
 (ak (dR (gI K (pv 6) (jf (kK K) (pv 0) (gR (cU ik (pv 4) aD)) (gR (pv 8)))))
 (aq (stX 4 oA.nd (pv 8))))))
 (aq (aK (kJ (Ry G) (hr.mono QB) (ae (pv 2) (ae (pv 5) (ae (pv 6) (ae (pv 4) ag))))))))))))),?_⟩
 lk;show .inl ⟨ca,_,_,.int (u:Int),rfl,rfl,p,at_of rfl (by rw[eP,b4];rfl),?_⟩;show .inr (.inl ⟨fo,_,_,.ref fa,rfl,rfl,b1.sq H,at_of rfl (lH a4),?_⟩);show .inr (.inl ⟨fa,_,_,vn ns.length,rfl,rfl,v.sq H,fu rfl,?_⟩);lk;dsimp only[jK,jJ,jv];lk;show⟨_,p,λM b7=>?_⟩;generalize Z:upd H M _=H1;have s1:=sN Z b7;have v1:H1 M=some (.lst (ns.map V.int)):=by rw[<-Z,ar,show((pre.length:Int)+1)=((pre.length+1:Nat):Int)by lia,show(((pre.length+1:Nat):Int)+(ns.length:Int))=((pre.length+1+ns.length:Nat):Int)by lia,vm,show pre.length+1+ns.length-(pre.length+1)=ns.length by lia,<-zW,<-zX,b3]
 show⟨cT _,λd t=>?_⟩;generalize e2:upd H1 d _=H2;have s2:=sN e2 t;have v2:H2 d=some (.lst (([]:List ab).map V.ref)):=vN e2;have S2:=s1.trans s2;have a0:H d=none:=s1.free t;have c1:M≠d:=λe=>by rw[<-e,v1]at t;cases t
 dsimp only[gT,yd,aL,aR];show(.inr (.inl ⟨fa,_,_,vn rows.length,rfl,rfl,v.sq H2,at_of (j:=1) rfl rfl,?_⟩));exists _,rfl,QA,QA;rw[show((rows.length:Int)).toNat=rows.length by lia];have R:∀i,(eX (rows.take i)).length<=(eX rows).length:=λi=>by
  conv=>rhs;rw[<-jQ i rows,yO]
  rw[aP];lia
 show forR (n:=rows.length) (λi σ o=>∃u7 u8 c,σ= [some (.ref ca),some (vn pre.length),some (.int (u:Int)),some (.ref fa),some (vn (pre.length+(1+ns.length+(eX (rows.take i)).length))),some (.ref M),some (.ref d),u7,u8]/\ah H o/\o M=some (.lst (ns.map V.int))/\o d=some (.lst (c.map V.ref))/\b9 (del o d) c (rows.take i)/\∀a∈c,H a=none) ⟨none,none,[],?_,S2,s2 _ _ v1,v2,.nil,λa ha=>absurd ha QD⟩ ?_ ?_
 .rw[List.take_zero,show(eX []).length=0 from rfl,xf,show((pre.length:Int)+1+(ns.length:Int))=((pre.length+(1+ns.length):Nat):Int)by lia]
 .intro i σ o hi y;show nj y λu7 u8 c g L C m b B=>?_;subst y g;obtain⟨r,I⟩:∃r,rows[i]? =some r:=⟨_,dA hi⟩;obtain⟨tl,X⟩:=J i r I;have c7:=R (i+1);have b8:(eX (rows.take (i+1))).length=(eX (rows.take i)).length+(1+r.length):=by rw[take_snoc I,yO,aP];show _+(((r.length:Int)::eW r)++[]).length=_;rw[ee,aG,jG];lia
  generalize c3:pre.length+(1+ns.length+(eX (rows.take i)).length)=pl at *;have D:pre.length+(1+ns.length+(eX (rows.take (i+1))).length)=pl+1+r.length:=QA;have O:l[pl]? =some (r.length:Int):=by have:=congrArg (λx=>x[0]?) X;rw[w6,xf]at this;show this
  have U:(l.drop (pl+1)).take r.length=eW r:=by rw[<-mR,X];show(eW r++tl).take r.length=_;rw[<-jG r];simp
  lk;show .inl ⟨ca,_,_,.int (r.length:Int),rfl,rfl,L.seq p,at_of rfl (by rw[eP,O];rfl),?_⟩;lk;exists .inl ⟨rfl,_,aj.of m⟩;dsimp only[jK,jJ,jv];lk;show⟨_,L.seq p,λY q=>?_⟩;generalize e3:upd o Y _=H3;have s3:=sN e3 q;have v3:L2.Row H3 Y r:=by rw[<-e3];show upd _ _ _ _=_;rw[ar,show((pl:Int)+1)=((pl+1:Nat):Int)by lia,show(((pl+1:Nat):Int)+(r.length:Int))=((pl+1+r.length:Nat):Int)by lia,vm,show pl+1+r.length-(pl+1)=r.length by lia,<-zW,<-zX,U,BQ]
  have n3:Y≠d:=λe=>by rw[e,m]at q;cases q
  have S:=Paired.length b;rw[ff]at S;show aJ d _ _ ⟨rfl,rfl,s3 _ _ m,by rw[ay,aQ];lia,?_⟩;rw[D];show aZ _ _ ⟨⟨QA,rfl,rfl⟩,(L.trans s3).upd a0,?_,c++[Y],?_,?_,pE B (L.free q)⟩
  .rw[az c1];show s3 _ _ C
  .rw[ar,hY]
  .rw[fU,take_snoc I];show L2.Paired.snoc (F:=λa (ns:List Nat)=>L2.Row (del H3 d) a ns) (show del H3 d Y=_ by rw[eT n3];show v3) (b9.mono s3.del b)
 .intro σ o z;show nj z λu7 u8 c g L C m b B=>?_;subst z g;rw[gk]at b;rw[gk];dsimp only[bC,iU,aL,aR,aB,ee,aX,aU,aV,aW,d5,d4];show λx dx hx a3 c6=>?_;show wR x dx _ _ _ _ ⟨rfl,ar,λH5 c0 b5=>⟨rfl,?_⟩⟩;have s5:ah o H5:=b5.same (((ah.refl o).upd a3).upd hx) hx;show k x H5 c (L.free hx) (L.trans s5) ⟨dx,M,d,c0,s5 _ _ C,s5 _ _ m⟩ ((b9.mono gB b).mono s5) B
abbrev wY:=bz->List Int->List (List Nat)->Option (bz×List Int)
def Bk:wY:=λh nums rows=>jm nums (lx rows λt=>some (dF h (.template t)))
def Be:wY:=λh nums rows=>EO nums λt p d r=>jm rows (some (dF h (.issue t p d r)))
def Bh:wY:=λh nums rows=>xK nums λt p d=>jm rows (some (dF h (.preview t p d)))
def mm(k:Nat):wY:= [Bk,A9,Ba,Bn,Be,Bf,Bj,A8,Bd,Bl,Bm,Bh,Bi,Bo,Bc,Bg,Bb].getD k λ_ _ _=>none
def UX(ad:Ad):Sp:=λl H Q _=>∃(g c:ab)(h h':bz)(kind i:Nat)(e:List Int)(d:List ab)(b:List (List Nat))(ans:List Int)(j:Hp),l= [.ref g,.ref c]/\eO ad j g h/\ah j H/\zB ad H c kind e d i/\(b9 H d b/\∀a∈d,j a=none)/\(∀r∈b,r.length<=2500)/\kind<17/\mm kind h e b=some (h',ans)/\
 ∀q k f,Fr d j H f k->eO ad f g h'->H q=none->f q=none->k q=some (.lst (ans.map V.int))->Q (.ref q) k
def RD(G:bh K mg ad)(T:pb P w K mg)(hs:∀(i:Nat)(x:Str),vg[i]? =some x->bu P w K mg base 10 x ["laboratory","call"] (iF ad (mm i))):bu P w K mg base 11 "answer_call" ["laboratory","call"] (UX ad):=by
 show G.NC.has Ui (λvs H Q E h=>?_) (λf O A C s H vs Q E Y h=>?_)
 .revert h;intro d;show iM d λp c h I kind stop nums q rows m D a _=>?_;subst d a;rfl
 .revert h;intro j;show e11_1 j λp c h I kind stop nums q rows m D b=>e0_9 b λa R s0 L l B V U k=>?_;clear b;subst j a;show bp T.calls λN r t o y=>?_;obtain⟨x,M⟩:∃x,vg[kind]? =some x:=⟨_,dA (by show kind<17;show V)⟩;show fO ((hs kind x M).ex) λf2 fd F W z u=>?_;have v:r[kind]? =some f2:=by
   have n:(r.map λf=>some (Value.ref f))[kind]? =(vg.map mg)[kind]? :=by rw[y]
   rw[eP,eP,M]at n;cases e:r[kind]? with
   |none=>rw[e]at n;cases n
   |some g=>rw[e]at n;have J:some (Value.ref g)=mg x:=df.inj n;rw[W]at J;cases J;rfl
  show gJ (id L) λcx na ra S X Z=>?_;exists _,(aq (aK (Sz (k:=10) (Y.mono QB) (cz (cX K) (gr t) (ax K (pv 1)) (λ_ _=>rfl)) (ae (pv 0) (ae (pv 1) ag)))));dsimp only[bC,KD,a8,tC];show aCallX G S ?_;show .inr (.inl ⟨N,_,_,.ref f2,rfl,rfl,o.sq H,at_of rfl (lH v),?_⟩);show eY f2 fd _ _ ⟨rfl,F,z,u,?_⟩;show gy p c h I kind stop nums q (aJ rows m D ⟨rfl,R,s0,L,l,B,U,k⟩)
structure mY where
 kn:Nat
 ns:List Int
 rows:List (List Nat)
def rp(c:mY):List Int:=((c.kn:Int)::c.ns)++eX c.rows
def putAll(a:List mY):List Int:=a.flatMap rp
def ox:bz->List mY->Option (List (List Int))
 |_,[]=>some []
 |h,c::cs=>match mm c.kn h c.ns c.rows with
  |none=>none
  |some (b,a)=>(ox b cs).map λl=>a::l
def j9(as:List (List Int)):List Int:=as.flatMap λa=>(a.length:Int)::a
def Ic(a b:List mY):putAll (a++b)=putAll a++putAll b:=gc ..
def WH(as:List (List Int))(a:List Int):j9 (as++[a])=j9 as++((a.length:Int)::a):=by unfold j9;rw[gc];simp
def G5(n:Nat)(σ:List (Option V)):Nat:=match(σ[3]? :Option (Option V))with
 |some (some (.int p))=>n-p.toNat
 |_=>0
def QR{H:Hp}{c f t a s:ab}(b:H c=some (.ins ad.jh f (nv (.ref t) (.ref a) (.ref s))))(l: [t,a,s].Nodup)(g:H t=some (.lst []))(h:H a=some (.lst []))(j:H s=some (.lst [])):eO ad H c xE:=by
 show⟨⟨f,t,a,s,[],[],[],[],l,?_,g,.nil,h,j,.nil,rfl,rfl,λi x e=>(by cases e)⟩,⟨QB,QB,QB,λx e=>(by cases e),λs d=>(by cases d),λs d=>(by cases d)⟩⟩;rw[off_ne]
 .show b
 .intro k;simp only[bG,gz,or_false]at k;rcases k with z | z | z
  .rw[z,g]at b;cases b
  .rw[z,h]at b;cases b
  .rw[z,j]at b;cases b
def lE(b:Nat):List (List Nat)->List Nat
 |[]=> []
 |[u]=>u
 |u::v::r=>u++b::lE b (v::r)
def join_split(b:Nat):∀l:List Nat,lE b (Rt.bc b l)=l
 |[]=>rfl
 |c::l=>by
  have a:=join_split b l;cases e:Rt.bc b l with
  |nil=>show absurd e (Rt.j8 b l)
  |cons u r=>
   rw[e]at a;by_cases h:c=b
   .subst h;rw[Rt.rG,e];show[]++c::lE c (u::r)=_;rw[a];rfl
   .rw[Rt.oB h e];cases r with
    |nil=>show c::u=_;rw[show u=l from a]
    |cons v r=>show(c::u)++b::lE b (v::r)=_;rw[nJ];congr 1
def split_free{b:Nat}:∀{l u:List Nat},u∈Rt.bc b l->b∉u
 |[],u,h=>by
  obtain rfl:u= []:=by simpa[Rt.bc]using h
  simp
 |c::l,u,h=>by
  cases e:Rt.bc b l with
  |nil=>show absurd e (Rt.j8 b l)
  |cons v r=>
   by_cases a:c=b
   .subst a;rw[Rt.rG,e]at h;rcases bG.mp h with rfl | h
    .simp
    .show split_free (l:=l) (by rw[e];show h)
   .rw[Rt.oB a e]at h;rcases bG.mp h with rfl | h
    .have:=split_free (b:=b) (l:=l) (u:=v) (by rw[e];show cZ);simp only[bG,not_or];show⟨λz=>a z.symm,this⟩
    .show split_free (l:=l) (by rw[e];show du _ h)
def Rf{t:List Nat}(h:eQ t=true){c:Nat}(a:c∈t):ph c=true\/jB c=true:=by unfold eQ at h;simp only[eC]at h;have:=qj.mp h.2.2.2 c a;simpa using this
def G6{t:List Nat}(h:eQ t=true){c:Nat}(a:c∈t):48<=c/\c<=122:=by
 rcases Rf h a with h | h
 .unfold ph at h;simp only[uz,eC,QK]at h;lia
 .unfold jB at h;simp only[eC,QK]at h;lia
def zw{u t:List Nat}(d:eQ t=true):EH u= [au "value",t]↔u=au "value "++t:=by
 have a:au "value "=au "value"++[32]:=QC;rw[Rt.kc];constructor
 .intro h;have:=join_split 32 u;rw[h]at this;rw[<-this,a];show au "value"++32::t=_;simp
 .rintro rfl;rw[a,eZ];show Rt.bc 32 (au "value"++32::t)=_;rw[Rt.pV t QC,Rt.ug λc b z=>by have:=G6 d b;lia]
def vH(u:List Nat):Bool:=match EH u with
 |[k,t]=>k==au "value"&&eQ t
 |_=>false
def Gv(u:List Nat):vH u=true↔u.take 6=au "value "/\eQ (u.drop 6)=true:=by
 have f:(au "value ").length=6:=QC;constructor
 .intro h;unfold vH at h;split at h
  .rename_i k t e;rw[eC,beq_iff_eq]at h;obtain⟨rfl,c⟩:=h;have a:=(zw c).mp e;rw[a,<-f,List.take_left,zO];show⟨rfl,c⟩
  .cases h
 .rintro⟨d,b⟩;have a:u=au "value "++u.drop 6:=by rw[<-d];show(jQ 6 u).symm
  unfold vH;rw[(zw b).mpr a];show(au "value"==au "value"&&eQ (u.drop 6))=true;rw[b];simp
def BE(u:List Nat):fP u bare=if u=au "person"then"person"else if u=au "day"then"day"else if u=au "page"then"page"else if u=au "pages"then"pages"else"":=by
 have e:("person":Str).cps.toList=au "person":=QC;have f:("day":Str).cps.toList=au "day":=QC;have g:("page":Str).cps.toList=au "page":=QC;have h:("pages":Str).cps.toList=au "pages":=QC;unfold fP bare;simp only[mS,List.find?_nil,e,f,g,h];by_cases a:u=au "person"
 .simp[a]
 .simp only[QJ a,QH a];by_cases b:u=au "day"
  .simp[b]
  .simp only[QJ b,QH b];by_cases c:u=au "page"
   .simp[c]
   .simp only[QJ c,QH c];by_cases d:u=au "pages"
    .simp[d]
    .simp only[QJ d,QH d];rfl
def GH(u:List Nat):Aq u=(u==au "person"||(u==au "day"||(u==au "page"||(u==au "pages"||vH u)))):=rfl
def Iu(u:List Nat):(jg u).isSome=Aq u/\∀c,jg u=some c->(∀(l:bB)(x:jk),d0 l x c=sy l x u):=by
 rw[GH];unfold jg;rw[BE];by_cases a:u=au "person"
 .rw[QG a,QG QB];show⟨by rw[a];simp,λc h l x=>?_⟩;cases h;unfold sy;rw[QG a];rfl
 rw[QH a];have j:(u==au "person")=false:=by simpa using a
 by_cases b:u=au "day"
 .rw[QG b,QG QB];show⟨by rw[b];simp,λc h l x=>?_⟩;cases h;unfold sy;rw[QH a,QG b];rfl
 rw[QH b];have k:(u==au "day")=false:=by simpa using b
 by_cases d:u=au "page"
 .rw[QG d,QG QB];show⟨by rw[d];simp,λc h l x=>?_⟩;cases h;unfold sy;rw[QH a,QH b,QG d];rfl
 rw[QH d];have m:(u==au "page")=false:=by simpa using d
 by_cases f:u=au "pages"
 .rw[QG f,QG QB];show⟨by rw[f];simp,λc h l x=>?_⟩;cases h;unfold sy;rw[QH a,QH b,QH d,QG f];rfl
 rw[QH f,QH QB];have n:(u==au "pages")=false:=by simpa using f
 rw[j,k,m,n,wW,wW,wW,wW];have i:=Gv u;by_cases g:u.take 6=au "value "/\eQ (u.drop 6)=true
 .rw[QG g,i.mpr g];show⟨rfl,λc h l x=>?_⟩;cases h;have o:u=au "value "++u.drop 6:=by rw[<-g.1];show(jQ 6 u).symm
  unfold sy;rw[QH a,QH b,QH d,QH f,(zw g.2).mpr o];rfl
 .rw[QH g];show⟨?_,λc h=>by cases h⟩;cases e:vH u with
  |false=>rfl
  |true=>show absurd (i.mp e) g
def gU(b:List Nat):Option (List (Str×List Nat)):=match Rt.bc 123 b with
 |[]=>none
 |s0::r=>if 125∈s0 then none else(fG r).map λm=>("plain",s0)::m
def Kx{b:Nat}:∀{p q u:List Nat}{v:List (List Nat)},b∉p->Rt.bc b q=u::v->Rt.bc b (p++q)=(p++u)::v
 |[],_,_,_,_,h=>h
 |c::p,q,u,v,hp,h=>by simp only[bG,not_or]at hp;rw[nJ,Rt.oB (λz=>hp.1 z.symm) (Kx hp.2 h)];rfl
def P8{u:List Nat}(h:Aq u=true):123∉u:=by
 rw[GH]at h;simp only[uz,beq_iff_eq]at h;rcases h with rfl | rfl | rfl | rfl | h
 .decide +kernel
 .decide +kernel
 .decide +kernel
 .decide +kernel
 .obtain⟨b,c⟩:=(Gv u).mp h;intro a;rw[<-jQ 6 u]at a;rcases eA.mp a with a | a
  .rw[b]at a;show absurd a QC
  .have:=G6 c a;lia
def KS{p q:List Nat}(a:125∉p):(p++125::q).takeWhile (λx=>x != 125)=p:=by
 induction p with
 |nil=>simp
 |cons c p b=>simp only[bG,not_or]at a;rw[nJ,List.takeWhile_cons,QG (by simpa using λz=>a.1 z.symm),b a.2]
def Wo{r:List Nat}(h:(r.takeWhile λx=>x != 125).length<r.length):r=(r.takeWhile λx=>x != 125)++125::r.drop ((r.takeWhile λx=>x != 125).length+1)/\125∉r.takeWhile λx=>x != 125:=by
 induction r with
 |nil=>simp at h
 |cons c r d=>
  rw[List.takeWhile_cons]at h ⊢;by_cases a:c=125
  .subst a;simp
  .rw[QG (by simpa using a)]at h ⊢;obtain⟨e,b⟩:=d (by simpa using h);exists ?_
   .rw[aG,List.drop_succ_cons,nJ];congr 1
   .simp only[bG,not_or];show⟨λz=>a z.symm,b⟩
def zm:∀(n:Nat)(b:List Nat),b.length<=n->∀f,b.length<f->(gU b).isSome=sD f b/\∀D,gU b=some D->∀(l:bB)(x:jk),uV l x f b=D.flatMap (d0 l x)
 |_,[],_,0,O=>absurd O QD
 |_,[],_,f+1,_=>by show⟨rfl,λD h l x=>?_⟩;cases h;rfl
 |0,c::r,hn,_,_=>absurd hn QD
 |_,c::r,_,0,O=>absurd O QD
 |n+1,c::r,hn,f+1,O=>by
  have a0:r.length<=n:=by simpa using hn
  have Z:r.length<f:=by simpa using O
  cases e:Rt.bc 123 r with
  |nil=>show absurd e (Rt.j8 123 r)
  |cons s rest=>
  by_cases S:c=123
  .subst S;have J:gU (123::r)=(fG (s::rest)).map λm=>(("plain":Str),([]:List Nat))::m:=by unfold gU;rw[Rt.rG,e];show QH QD
   have T:sD (f+1) (123::r)=(decide ((r.takeWhile λx=>x != 125).length<r.length)&&(Aq (r.takeWhile λx=>x != 125)&&sD f (r.drop ((r.takeWhile λx=>x != 125).length+1)))):=rfl;have X:∀l x,uV l x (f+1) (123::r)=sy l x (r.takeWhile λx=>x != 125)++uV l x f (r.drop ((r.takeWhile λx=>x != 125).length+1)):=λl x=>rfl;have o:123∉s:=split_free (l:=r) (by rw[e];show cZ);cases g:j6 s with
   |some lp=>
    obtain⟨j,d,A,V,k,rfl⟩:∃j d A,Rt.bc 125 s= [j,d]/\jg j=some A/\lp= [A,("plain",d)]:=by
     unfold j6 at g;by_cases F:(Rt.bc 125 s).length≠2
     .rw[QG F]at g;cases g
     .rw[QH F]at g
      match p:Rt.bc 125 s,(by simpa using F:(Rt.bc 125 s).length=2)with
      |[j,d],_=>
       rw[p]at g;dsimp only[kh]at g;cases H:jg j with
       |none=>rw[H]at g;cases g
       |some A=>rw[H]at g;show aJ j d A ⟨rfl,H,(df.inj g).symm⟩
    have hs:s=j++125::d:=by have:=join_split 125 s;rw[V]at this;show this.symm
    have h0:125∉j:=split_free (l:=s) (by rw[V];show cZ);have h1:125∉d:=split_free (l:=s) (by rw[V];simp);obtain⟨E,U,Y⟩:∃E,r=s++E/\Rt.bc 123 (d++E)=d::rest:=by
     have hj:=join_split 123 r;rw[e]at hj;have R:123∉d:=λz=>o (by rw[hs];simp[z]);cases rest with
     |nil=>show⟨[],by rw[ee];show hj.symm,by rw[ee];show Rt.ug λc y z=>R (z▸y)⟩
     |cons v r2=>have U:r=s++123::lE 123 (v::r2):=hj.symm;exists 123::lE 123 (v::r2),U;have I:=e;rw[U,Rt.pV (b:=123) _ (λc y (z:c=123)=>o (z▸y))]at I;rw[Rt.pV (b:=123) _ (λc y (z:c=123)=>R (z▸y)),(rV.inj I).2]
    have B:r=j++125::(d++E):=by rw[U,hs];simp
    have hw:(r.takeWhile λx=>x != 125)=j:=by rw[B];show KS h0
    have N:r.drop (j.length+1)=d++E:=by rw[B,<-mR,zO];rfl
    have Q:(d++E).length<r.length:=by rw[B,aP (as:=j),aG];lia
    obtain⟨a,C⟩:=zm n (d++E) QA f QA;have G:gU (d++E)=(fG rest).map λm=>(("plain":Str),d)::m:=by unfold gU;rw[Y];show QH h1
    have q:fG (s::rest)=(fG rest).map λm=> [A,(("plain":Str),d)]++m:=by show(match j6 s with | none=>none | some l=>(fG rest).map λm=>l++m)=_;rw[g]
    obtain⟨i,a4⟩:=Iu j;rw[k]at i;show⟨?_,λD h l x=>?_⟩
    .rw[J,q,T,hw,N,<-a,G,<-i,QI (by rw[B,aP,aG];lia)];cases fG rest<;>rfl
    .rw[J,q]at h;cases p:fG rest with
     |none=>rw[p]at h;cases h
     |some m=>rw[p]at h G;cases h;rw[X,hw,N,C _ G l x,<-a4 A k l x];show _=d0 l x (("plain":Str),[])++(d0 l x A++(([(("plain":Str),d)]++m).flatMap (d0 l x)));rfl
   |none=>
    have q:fG (s::rest)=none:=by show(match j6 s with | none=>none | some l=>(fG rest).map λm=>l++m)=_;rw[g]
    rw[J,q];show⟨?_,λD h=>by cases h⟩;cases p:sD (f+1) (123::r)with
    |false=>rfl
    |true=>
     rw[T,eC,eC,QK]at p;show cY p λq1 q2 q3=>?_;clear p;obtain⟨t1,t2⟩:=Wo q1;generalize (r.takeWhile λx=>x != 125)=u at *;generalize r.drop (u.length+1)=L at *;have Q:L.length<r.length:=by rw[t1,aP,aG];lia
     obtain⟨a,C⟩:=zm n L QA f QA;rw[q3]at a;cases I:Rt.bc 123 L with
     |nil=>show absurd I (Rt.j8 123 L)
     |cons v r2=>
      have hu:123∉u++[125]:=by simp only[eA,bG,gz,or_false,not_or];show⟨P8 q2,QB⟩
      have W:=Kx hu I;rw[eZ]at W;have t3:r=u++([125]++L):=t1;rw[<-t3,e]at W;have a3:s=u++125::v:=by have:=(rV.inj W).1;rw[this,eZ];rfl
      have hv:125∉v:=λz=>by unfold gU at a;rw[I]at a;dsimp only at a;rw[QG z]at a;cases a
      have e5:Rt.bc 125 s= [u,v]:=by rw[a3,Rt.pV (b:=125) _ (λc y (z:c=125)=>t2 (z▸y)),Rt.ug λc y (z:c=125)=>hv (z▸y)]
      obtain⟨i,_⟩:=Iu u;rw[q2]at i;unfold j6 at g;rw[e5,QH QD]at g;dsimp only[kh]at g;cases k:jg u with
      |none=>rw[k]at i;cases i
      |some A=>rw[k]at g;cases g
  .have J:gU (c::r)=if 125∈c::s then none else(fG rest).map λm=>(("plain":Str),c::s)::m:=by unfold gU;rw[Rt.oB S e]
   have t:gU r=if 125∈s then none else(fG rest).map λm=>(("plain":Str),s)::m:=by unfold gU;rw[e]
   by_cases F:c=125
   .subst F;rw[J,QG cZ];show⟨rfl,λD h=>by cases h⟩
   obtain⟨a,C⟩:=zm n r a0 f Z;have T:sD (f+1) (c::r)=sD f r:=by show(if c=125 then false else if c=123 then _ else sD f r)=_;rw[QH F,QH S]
   have X:∀l x,uV l x (f+1) (c::r)=c::uV l x f r:=λl x=>by show(if c=123 then _ else c::uV l x f r)=_;rw[QH S]
   rw[J,T,<-a,t];by_cases M:125∈s
   .rw[QG M,QG (du _ M)];show⟨rfl,λD h=>by cases h⟩
   .rw[QH M,QH (λz=>(bG.mp z).elim (λz=>F z.symm) M)];rw[QH M]at t;cases p:fG rest with
    |none=>show⟨rfl,λD h=>by cases h⟩
    |some m=>rw[p]at t;show⟨rfl,λD h l x=>?_⟩;cases h;rw[X,C _ t l x];rfl
def DC(b:List Nat):(ir b).isSome=uW b/\∀a,ir b=some a->∀(l:bB)(x:jk),Ap l x b=a.flatMap (d0 l x):=by
 obtain⟨d,e⟩:=zm b.length b (bo _) (b.length+1) (kW _);have f:ir b=if 200<b.length\/b.all me=false then none else gU b:=rfl;rw[f];unfold uW;by_cases c:200<b.length
 .rw[QG (.inl c),QJ QA];show⟨rfl,λa h=>by cases h⟩
 .rw[QI QA];cases g:b.all me with
  |false=>rw[QG (.inr rfl)];show⟨rfl,λa h=>by cases h⟩
  |true=>rw[QH (by simp[c]),<-d];show⟨QD,e⟩
def fold_cast:∀(w:List Nat)(a:Nat),w.all jB=true->((w.foldl (λa c=>10*a+(c-48)) a:Nat):Int)=w.foldl (λ(a:Int) (c:Nat)=>a*10+(c:Int)-48) (a:Int)
 |[],a,_=>rfl
 |c::w,a,h=>by rw[qi,eC]at h;have b:=h.1;unfold jB at b;rw[eC,QK,QK]at b;rw[gF,gF,fold_cast w _ h.2];congr 1;lia
def Gh:∀(w:List Nat)(a:Nat),a*10 ^ w.length<=w.foldl (λa c=>10*a+(c-48)) a
 |[],a=>QD
 |c::w,a=>by rw[gF,aG,Nat.pow_succ];show dE ?_ (Gh w (10*a+(c-48)));rw[show a*(10 ^ w.length*10)=(10*a)*10 ^ w.length by rw[xj (10 ^ w.length) 10,<-Ek,xj a 10]];show kj _ QA
def Rr{lo hi:Nat}(q:1<=lo)(s:hi<=999)(w:List Nat):xB lo hi w=if(lo:Int)<=gx w/\gx w<=(hi:Int)then some (gx w).toNat else none:=by
 unfold xB;have neg:gx w=-1->(if(lo:Int)<=gx w/\gx w<=(hi:Int)then some (gx w).toNat else none)=none:=λe=>QH (by rw[e];lia);cases w with
 |nil=>rw[QG (.inl rfl),neg (QG (.inl rfl))]
 |cons c r=>
 cases h:(c::r).all jB with
 |false=>rw[QG (.inr (.inr (.inl rfl))),neg (QG (.inr (.inr (.inr h))))]
 |true=>
 by_cases g:c=48
 .have e:gx (c::r)=-1:=QG (.inr (.inr (.inl (by rw[g];rfl))));rw[neg e];by_cases k:1<(c::r).length
  .rw[QG (.inr (.inr (.inr ⟨by rw[g];rfl,k⟩)))]
  .have n:r= []:=by
    cases r with
    |nil=>rfl
    |cons _ _=>show absurd QD k
   subst n;subst g;rw[QH QD];show QH (by show ¬ (lo<=10*0+(48-48)/\_);lia)
 .have hd:¬ ((c::r).head? =some 48/\1<(c::r).length):=λz=>g (df.inj z.1);have b:=h;rw[qi,eC]at b;have l:=b.1;unfold jB at l;rw[eC,QK,QK]at l;by_cases i:3<(c::r).length
  .rw[neg (QG (.inr (.inl i)))];by_cases j:9<(c::r).length
   .rw[QG (.inr (.inl j))]
   .rw[QH (by
      intro z;rcases z with z | z | z | z
      .cases z
      .show j z
      .cases z
      .show hd z)]
    show QH (λz=>?_);have t:=Gh r (10*0+(c-48));have v:10 ^ 3<=10 ^ r.length:=Nat.pow_le_pow_right QB (by rw[aG]at i;lia);have u:1*10 ^ r.length<=(10*0+(c-48))*10 ^ r.length:=kj _ QA;have p:(c::r).foldl (λa c=>10*a+(c-48)) 0<=hi:=z.2;rw[gF]at p;lia
  .have o:gx (c::r)=(c::r).foldl (λ(a:Int) (c:Nat)=>a*10+(c:Int)-48) 0:=QH (by
    intro z;rcases z with z | z | z | z
    .cases z
    .show i z
    .show g (df.inj z)
    .rw[h]at z;cases z)
   have f:=fold_cast (c::r) 0 h;rw[QH (by
    intro z;rcases z with z | z | z | z
    .cases z
    .lia
    .cases z
    .show hd z)]
   dsimp only;rw[o,show(0:Int)=((0:Nat):Int)from rfl,<-f];generalize (c::r).foldl (λa c=>10*a+(c-48)) 0=m;by_cases d:lo<=m/\m<=hi
   .rw[QG d,QG QA,eN]
   .rw[QH d,QH QA]
def lv:List Bool->Nat
 |[]=>0
 |true::r=>lv r
 |false::r=>r.length+1
def vL:∀a:List Bool,(a.all id=true)↔lv a=0
 |[]=>by simp[lv]
 |true::r=>by have:=vL r;simpa[lv]using this
 |false::r=>by simp[lv]
def BM(b:Bool):∀a:List Bool,lv (a++[b])=if lv a=0 then(if b=true then 0 else 1)else lv a+1
 |[]=>by cases b<;>rfl
 |true::r=>BM b r
 |false::r=>by show(r++[b]).length+1=if r.length+1=0 then _ else r.length+1+1;rw[QH QA,aP];rfl
def BL:∀a:List Bool,lv a.dropLast=lv a-1
 |[]=>rfl
 |[true]=>rfl
 |[false]=>rfl
 |true::b::r=>by have:=BL (b::r);rw[List.dropLast_cons₂];show this
 |false::b::r=>by rw[List.dropLast_cons₂];show(b::r).dropLast.length+1=(b::r).length+1-1;rw[w8,aG];lia
def vc(l:bB)(p d k:Nat):∀(ps:List eh)(g:List jA),Paired mZ ps g->∀(acc:List eh)(f:List Bool),(ps.foldl (eM l) (acc,f)).1.flatMap (gj l p d k)=acc.flatMap (gj l p d k)++pf l (kb p d) k (lv f) g
 |_,_,.nil,acc,f=>by cases lv f<;>simp[pf]
 |a::ps,q::g,.cons hP hr,acc,f=>by
  rw[gF];have plain:a.kind≠"if"->a.kind≠"end"->(∀r,pf l (kb p d) k 0 (q::r)=gj l p d k a++pf l (kb p d) k 0 r)->(∀n r,pf l (kb p d) k (n+1) (q::r)=pf l (kb p d) k (n+1) r)->(ps.foldl (eM l) (eM l (acc,f) a)).1.flatMap (gj l p d k)=acc.flatMap (gj l p d k)++pf l (kb p d) k (lv f) (q::g):=λo s j m=>by
   have i:eM l (acc,f) a=if f.all id=true then(acc++[a],f)else(acc,f):=by unfold eM;rw[QH o,QH s]
   rw[i];by_cases c:f.all id=true
   .rw[QG c,vc l p d k ps g hr,(vL f).mp c,j,gc];simp
   .rw[QH c,vc l p d k ps g hr];cases e:lv f with
    |zero=>show absurd ((vL f).mpr e) c
    |succ n=>rw[m]
  cases q with
  |para w=>obtain⟨b,h⟩:=hP;show plain (by rw[b];decide) (by rw[b];decide) (λr=>?_) (λn r=>rfl);show mh k (Ap l (kb p d) w)++_=_;rw[(DC w).2 _ h];unfold gj;rw[QG b]
  |row t=>show cY hP λb h _=>?_;clear hP;show plain (by rw[b];decide) (by rw[b];decide) (λr=>?_) (λn r=>rfl);unfold gj;rw[QH (by rw[b];decide),QG b,h];rfl
  |table u=>show cY hP λb h _=>?_;clear hP;show plain (by rw[b];decide) (by rw[b];decide) (λr=>?_) (λn r=>rfl);unfold gj;rw[QH (by rw[b];decide),QH (by rw[b];decide),QG b,h];rfl
  |blank=>have b:a.kind="blank":=hP;show plain (by rw[b];decide) (by rw[b];decide) (λr=>?_) (λn r=>rfl);unfold gj;rw[QH (by rw[b];decide),QH (by rw[b];decide),QH (by rw[b];decide)];rfl
  |opens t=>
   show cY hP λb h _=>?_;clear hP;have i:eM l (acc,f) a=(acc,f++[(fI l t).isSome]):=by unfold eM;rw[QG b,h];rfl
   rw[i,vc l p d k ps g hr,BM];cases e:lv f with
   |zero=>rw[QG rfl];rfl
   |succ n=>rw[QH QA];rfl
  |closes=>
   have b:a.kind="end":=hP;have i:eM l (acc,f) a=(acc,f.dropLast):=by unfold eM;rw[QH (by rw[b];decide),QG b]
   rw[i,vc l p d k ps g hr,BL];cases e:lv f with
   |zero=>rfl
   |succ n=>rfl
def Me{T:eS}{t:iZ}(h:lZ T t)(l:bB)(p d:Nat):d7 l p d T=pf l (kb p d) t.width 0 t.parts:=by unfold d7 iA;rw[vc l p d T.width T.parts t.parts h.parts [] [],h.width];rfl
def Gu{o:Option (List (Str×List Nat))}{a:Option (List Nat)}(h:oR o a):o.isSome=a.isSome:=by
 cases a with
 |none=>rw[show o=none from h];rfl
 |some b=>show ai h λc _ e=>?_;clear h;rw[e];rfl
def Gr{o:Option (List (Str×List Nat))}{a:Option (List Nat)}(h:oR o a)(l:bB)(x:jk)(k:Nat):gg l x k o=a.toList.map λu=>(Ap l x u).take k:=by
 cases a with
 |none=>rw[show o=none from h];rfl
 |some b=>show ai h λd c e=>?_;clear h;rw[e];show[(d.flatMap (d0 l x)).take k]= [(Ap l x b).take k];rw[(DC b).2 _ c]
def T5{T:eS}{t:iZ}(h:lZ T t):da T=Vblaan.room t:=by unfold da Vblaan.room;rw[h.lines,Gu h.head,Gu h.foot]
def Xn{α:Type}(g:Nat->α)(n:Nat):((gG n).map g).zipIdx=(gG n).map λi=>(g i,i):=by
 apply zP;intro i;rw[D6,eP,eP];by_cases h:i<n
 .rw[D5 h];simp
 .rw[qm (by rw[mT];lia)];rfl
def B7{T:eS}{t:iZ}(h:lZ T t)(as:List dg)(p d:Nat)(g:0<da T)(f:Rt.turns (d7 (dH as p d) p d T).length (da T)<=500+20*t.parts.length+1):
  uU (ng t as p d)=je (dH as p d) p d T (dG (dH as p d) p d T)/\(ng t as p d).length=dG (dH as p d) p d T:=by
 have c:=Me h (dH as p d) p d;have b:=T5 h;have e:Vblaan.chunks (Vblaan.room t) (500+20*t.parts.length) (pf (dH as p d) (kb p d) t.width 0 t.parts)=(gG (dG (dH as p d) p d T)).map λi=>((d7 (dH as p d) p d T).drop (i*da T)).take (da T):=by rw[<-c,<-b,Rt.Fv g _ _ f];rfl
 have a:ng t as p d=(gG (dG (dH as p d) p d T)).map λi=>(gg (dH as p d) {person:=p,day:=d,page:=cV (i+1),pages:=cV (dG (dH as p d) p d T)} T.width T.head++((((d7 (dH as p d) p d T).drop (i*da T)).take (da T))++gg (dH as p d) {person:=p,day:=d,page:=cV (i+1),pages:=cV (dG (dH as p d) p d T)} T.width T.foot)).map kx:=by unfold ng;dsimp only;rw[e,Xn,gd,ay,mT];show oT λi _=>?_;rw[Gr h.head,Gr h.foot,h.width];rfl
 show⟨?_,by rw[a,ay,mT]⟩;rw[a];unfold uU je;rw[List.flatMap_map];rfl
def Ti{g:Nat->Nat}{b:List Nat}{n:Nat}(h:n∈b):putK ((b.map λa=>(a,g a)).map jq) (.inl (n:Int)) (vn (g n))=(b.map λa=>(a,g a)).map jq:=by
 unfold putK;rw[QG]
 .rw[gd,gd,gd];show oT λa _=>?_;show(if(Sum.inl (a:Int):Key)=Sum.inl (n:Int)then((Sum.inl (a:Int):Key),vn (g n))else((Sum.inl (a:Int):Key),vn (g a)))=((Sum.inl (a:Int):Key),vn (g a));by_cases c:a=n
  .subst c;rw[QG rfl]
  .rw[QH (λz=>c (by have e:(a:Int)=(n:Int):=Sum.inl.inj z;lia))]
 .rw[zN];show⟨jq (n,g n),dM.mpr ⟨(n,g n),dM.mpr ⟨n,h,rfl⟩,rfl⟩,QI rfl⟩
def UK(g:Nat->Nat)(L:List (Nat×Nat))(t:∀x∈L,x.2=g x.1):∃d:List Nat,d.Nodup/\eI L=(d.map λa=>(a,g a)).map jq/\∀a,a∈d↔a∈L.map (·.1):=by
 suffices h:∀(L:List (Nat×Nat)),(∀x∈L,x.2=g x.1)->∀i:List Nat,i.Nodup->∃d:List Nat,d.Nodup/\L.foldl (λk x=>putK k (.inl (x.1:Int)) (vn x.2)) ((i.map λa=>(a,g a)).map jq)=(d.map λa=>(a,g a)).map jq/\∀a,a∈d↔a∈i\/a∈L.map (·.1)by show bA (h L t [] QD) λd j l m=>?_;show⟨d,j,l,λa=>by rw[m];simp⟩
 intro L;induction L with
 |nil=>intro _ i n;show⟨i,n,rfl,λa=>QD⟩
 |cons x L q=>
  intro o i n;have u:=o x cZ;rw[gF,u];by_cases c:x.1∈i
  .rw[Ti c];show bA (q (λy p=>o y (du _ p)) i n) λd j l m=>?_;show⟨d,j,l,λa=>?_⟩;rw[m,eD,bG];constructor
   .rintro(z | z)
    .show .inl z
    .show .inr (.inr z)
   .rintro(z | z | z)
    .show .inl z
    .show .inl (z▸c)
    .show .inr z
  .rw[Ie (L:=i.map λa=>(a,g a)) (by rw[gd];simpa using c)];obtain⟨d,j,l,m⟩:=q (λy p=>o y (du _ p)) (i++[x.1]) (by
    rw[w9];show⟨n,QD,λa r b s e=>?_⟩;obtain rfl:b=x.1:=by simpa using s
    show c (e▸r))
   show⟨d,j,?_,λa=>?_⟩
   .rw[<-l,fk (f:=λa=>(a,g a))];rfl
   .rw[m,eD,bG,eA];simp only[bG,gz,or_false];constructor
    .rintro((z | z) | z)
     .show .inl z
     .show .inr (.inl z)
     .show .inr (.inr z)
    .rintro(z | z | z)
     .show .inl (.inl z)
     .show .inl (.inr z)
     .show .inr z
def tells_of{g:Nat->Nat}{L:List (Nat×Nat)}{S:List Nat}(m:∀x∈L,x.2=g x.1)(e:S.Pairwise (·<·))(n:∀a,a∈S↔a∈L.map (·.1))(c:∀a∈S,a<60)(p:∀a∈S,g a<1000):An (eI L) (S.map λa=>(a,g a)):=by
 show bA (UK g L m) λi j k l=>?_;have d:S.Nodup:=e.imp λh=>eU h;have o:i.Perm S:=(Ln j d).mpr λa=>by rw[l,n]
 exists⟨_,k,o.map _⟩,?_,λx q=>?_
 .rw[gd];show qv.mpr e
 .show ai (dM.mp q) λa f b=>?_;subst b;show⟨c a f,p a f⟩
 .rw[ay];show yp d c
def Bx:∀(l acc:List Nat),acc.Pairwise (·<·)->(l.foldl (λa n=>As n a) acc).Pairwise (·<·)/\∀x,x∈l.foldl (λa n=>As n a) acc↔x∈acc\/x∈l
 |[],acc,h=>⟨h,λx=>QD⟩
 |n::l,acc,h=>by
  obtain⟨b,c⟩:=Bx l (As n acc) (Rt.Co n acc h);show⟨b,λx=>?_⟩;rw[gF,c,Rt.yN,bG];constructor
  .rintro((z | z) | z)
   .show .inr (.inl z)
   .show .inl z
   .show .inr (.inr z)
  .rintro(z | z | z)
   .show .inl (.inr z)
   .show .inl (.inl z)
   .show .inr z
def found_iff(l:bB)(g:List (List Nat))(a:Nat):a∈(g.filterMap λt=>(fI l t).map λz=>z.1)↔∃t∈g,∃z,fI l t=some z/\z.1=a:=by
 rw[qu];constructor
 .intro c;show ai c λt d h=>?_;clear c;show ai (mX.mp h) λz e f=>?_;show⟨t,d,z,e,f⟩
 .intro b;show ai b λt d b=>ai b λz e f=>?_;clear b;clear b;show⟨t,d,by rw[e,<-f];rfl⟩
def HM(l:bB)(j:List (Str×List Nat))(a:Nat):a∈(j.flatMap (fM l)).map (·.1)↔∃t,(("value":Str),t)∈j/\∃z,fI l t=some z/\z.1=a:=by
 rw[dM];constructor
 .intro d;show ai d λy f k=>?_;clear d;show ai (lV.mp f) λi g e=>?_;unfold fM at e;by_cases c:i.1="value"
  .rw[QG c]at e;show ai (dM.mp e) λz h m=>?_;have h:=xp.mp h;exists i.2,by rw[<-c];show g,z,h
   rw[<-k,<-m];rfl
  .rw[QH c]at e;cases e
 .intro b;show ai b λt f b=>ai b λz g e=>?_;clear b;clear b;show⟨j7 z,lV.mpr ⟨_,f,?_⟩,e⟩;unfold fM;rw[QG rfl,g];simp
def vt(u:List Nat):Option (List Nat):=match EH u with
 |[k,t]=>if k=au "value"then some t else none
 |_=>none
def lX(b t:List Nat):Prop:=∃p q,b=p++123::q/\vt (q.takeWhile λx=>x != 125)=some t
def Xc(b t:List Nat):t∈xH b↔lX b t:=by
 have n:xH b=((b.zipIdx).filter λx=>x.1==123).filterMap λx=>vt ((b.drop (x.2+1)).takeWhile λc=>c != 125):=rfl;rw[n,qu];constructor
 .intro a;show ai a λx g f=>?_;clear a;obtain⟨h,i⟩:=ki.mp g;have j:=Ed.mp (show(x.1,x.2)∈b.zipIdx from h);obtain⟨k,l⟩:=dW.mp j;show aZ (b.take x.2) (b.drop (x.2+1)) ⟨?_,f⟩;have m:x.1=123:=by simpa using i
  rw[<-m,<-l,<-kQ k,jQ]
 .intro d;show eB d λp q e f=>?_;subst d e;exists(123,p.length),ki.mpr ⟨Ed.mpr ?_,rfl⟩
  .rw[rY (bo _),mV];rfl
  .rw[<-mR,zO];show f
def Sq(t:List Nat):¬lX [] t:=by rintro⟨p,q,h,_⟩;cases p<;>cases h
def Hw{c:Nat}{r t:List Nat}(f:c≠123):lX (c::r) t↔lX r t:=by
 constructor
 .intro a;show eB a λp q h e=>?_;clear a;cases p with
  |nil=>show absurd (rV.inj h).1 f
  |cons _ p=>show⟨p,q,(rV.inj h).2,e⟩
 .intro b;show eB b λp q d e=>?_;subst b d;show aZ (c::p) q ⟨rfl,e⟩
def Sr{p r t:List Nat}(a:123∉p):lX (p++r) t↔lX r t:=by
 induction p with
 |nil=>show Iff.rfl
 |cons c p b=>simp only[bG,not_or]at a;rw[nJ,Hw (λz=>a.1 z.symm),b a.2]
def So{r t:List Nat}:lX (123::r) t↔vt (r.takeWhile λx=>x != 125)=some t\/lX r t:=by
 constructor
 .intro a;show eB a λp q h b=>?_;clear a;cases p with
  |nil=>obtain rfl:r=q:=(rV.inj h).2;show .inl b
  |cons _ p=>show .inr ⟨p,q,(rV.inj h).2,b⟩
 .rintro(h | ⟨p,q,rfl,b⟩)
  .show aZ [] r ⟨rfl,h⟩
  .show aZ (123::p) q ⟨rfl,b⟩
def Xb{u:List Nat}{c:Str×List Nat}(h:jg u=some c)(t:List Nat):vt u=some t↔c=(("value":Str),t):=by
 unfold jg at h;rw[BE]at h;have a:∀(x:List Nat)(k:Str),k≠"value"->vt x=none->u=x->c=(k,([]:List Nat))->(vt u=some t↔c=(("value":Str),t)):=λx k j m i l=>by rw[i,m,l];show⟨λz=>(by cases z),λz=>absurd (Prod.mk.inj z).1 j⟩
 by_cases d:u=au "person"
 .rw[QG d,QG QB]at h;show a _ "person" QB QC d (df.inj h).symm
 rw[QH d]at h;by_cases e:u=au "day"
 .rw[QG e,QG QB]at h;show a _ "day" QB QC e (df.inj h).symm
 rw[QH e]at h;by_cases f:u=au "page"
 .rw[QG f,QG QB]at h;show a _ "page" QB QC f (df.inj h).symm
 rw[QH f]at h;by_cases g:u=au "pages"
 .rw[QG g,QG QB]at h;show a _ "pages" QB QC g (df.inj h).symm
 rw[QH g,QH QB]at h;by_cases b:u.take 6=au "value "/\eQ (u.drop 6)=true
 .rw[QG b]at h;have i:u=au "value "++u.drop 6:=by rw[<-b.1];show(jQ 6 u).symm
  cases h;unfold vt;rw[(zw b.2).mpr i];show(if au "value"=au "value"then some (u.drop 6)else none)=some t↔_;rw[QG rfl];show⟨λz=>by rw[df.inj z],λz=>by rw[(Prod.mk.inj z).2]⟩
 .rw[QH b]at h;cases h
def DE:∀(n:Nat)(b:List Nat),b.length<=n->∀G,gU b=some G->∀t,(("value":Str),t)∈G↔lX b t
 |_,[],_,G,h,t=>by cases h;show⟨λz=>?_,λz=>absurd z (Sq t)⟩;have:=(Prod.mk.inj (iw.mp z)).1;show absurd this QB
 |0,c::r,hn,_,_,_=>absurd hn QD
 |n+1,c::r,hn,G,h,t=>by
  have M:r.length<=n:=by simpa using hn
  have np:∀{s:List Nat}{m:List (Str×List Nat)},(("value":Str),t)∈(("plain":Str),s)::m↔(("value":Str),t)∈m:=λ{s m}=>by rw[bG];show⟨λz=>z.elim (λz=>absurd (Prod.mk.inj z).1 QB) id,.inr⟩
  cases e:Rt.bc 123 r with
  |nil=>show absurd e (Rt.j8 123 r)
  |cons s rest=>
  by_cases H:c=123
  .subst H;have E:gU (123::r)=(fG (s::rest)).map λm=>(("plain":Str),([]:List Nat))::m:=by unfold gU;rw[Rt.rG,e];show QH QD
   have d:123∉s:=split_free (l:=r) (by rw[e];show cZ);have k:fG (s::rest)=(match j6 s with | none=>none | some l=>(fG rest).map λm=>l++m):=rfl;cases g:j6 s with
   |none=>rw[E,k,g]at h;cases h
   |some Z=>
    obtain⟨f,a,y,I,N,rfl⟩:∃f a y,Rt.bc 125 s= [f,a]/\jg f=some y/\Z= [y,("plain",a)]:=by
     unfold j6 at g;by_cases o:(Rt.bc 125 s).length≠2
     .rw[QG o]at g;cases g
     .rw[QH o]at g
      match q:Rt.bc 125 s,(by simpa using o:(Rt.bc 125 s).length=2)with
      |[f,a],_=>
       rw[q]at g;dsimp only[kh]at g;cases u:jg f with
       |none=>rw[u]at g;cases g
       |some y=>rw[u]at g;show⟨f,a,y,rfl,u,(df.inj g).symm⟩
    have O:s=f++125::a:=by have:=join_split 125 s;rw[I]at this;show this.symm
    have U:125∉f:=split_free (l:=s) (by rw[I];show cZ);have V:125∉a:=split_free (l:=s) (by rw[I];simp);obtain⟨i,F,J⟩:∃i,r=s++i/\Rt.bc 123 (a++i)=a::rest:=by
     have L:=join_split 123 r;rw[e]at L;have C:123∉a:=λz=>d (by rw[O];simp[z]);cases rest with
     |nil=>show⟨[],by rw[ee];show L.symm,by rw[ee];show Rt.ug λc B z=>C (z▸B)⟩
     |cons v T=>have F:r=s++123::lE 123 (v::T):=L.symm;exists 123::lE 123 (v::T),F;have R:=e;rw[F,Rt.pV (b:=123) _ (λc B (z:c=123)=>d (z▸B))]at R;rw[Rt.pV (b:=123) _ (λc B (z:c=123)=>C (z▸B)),(rV.inj R).2]
    have j:r=f++125::(a++i):=by rw[F,O];simp
    have Y:(r.takeWhile λx=>x != 125)=f:=by rw[j];show KS U
    have X:r.drop (f.length+1)=a++i:=by rw[j,<-mR,zO];rfl
    have S:(a++i).length<r.length:=by rw[j,aP (as:=f),aG];lia
    have Q:123∉f++[125]:=by simp only[eA,bG,gz,or_false,not_or];show⟨λz=>d (by rw[O];simp[z]),QB⟩
    have A:gU (a++i)=(fG rest).map λm=>(("plain":Str),a)::m:=by unfold gU;rw[J];show QH V
    rw[E,k,g]at h;cases q:fG rest with
    |none=>rw[q]at h;cases h
    |some m=>
     rw[q]at h A;cases h;have D:=DE n (a++i) QA _ A t;rw[np]at D;have W:lX r t↔lX (a++i) t:=by rw[show r=(f++[125])++(a++i)by rw[j];simp];show Sr Q
     rw[So,Y,Xb N t,W,<-D];show(("value":Str),t)∈(("plain":Str),([]:List Nat))::(y::((("plain":Str),a)::m))↔_;rw[np,bG,np];show⟨λz=>z.imp Eq.symm id,λz=>z.imp Eq.symm id⟩
  .have E:gU (c::r)=if 125∈c::s then none else(fG rest).map λm=>(("plain":Str),c::s)::m:=by unfold gU;rw[Rt.oB H e]
   have p:gU r=if 125∈s then none else(fG rest).map λm=>(("plain":Str),s)::m:=by unfold gU;rw[e]
   rw[E]at h;by_cases o:125∈c::s
   .rw[QG o]at h;cases h
   rw[QH o]at h;rw[QH (λz=>o (du _ z))]at p;cases q:fG rest with
   |none=>rw[q]at h;cases h
   |some m=>rw[q]at h p;cases h;have D:=DE n r M _ p t;rw[np]at D ⊢;rw[D,Hw H]
def zu{b:List Nat}{a:List (Str×List Nat)}(h:ir b=some a)(t:List Nat):(("value":Str),t)∈a↔t∈xH b:=by
 have d:ir b=if 200<b.length\/b.all me=false then none else gU b:=rfl;rw[d]at h;by_cases c:200<b.length\/b.all me=false
 .rw[QG c]at h;cases h
 .rw[QH c]at h;rw[Xc];show DE b.length b (bo _) a h t
def wF(l:bB)(x:Nat):∀(ps:List eh)(o:List jA),Paired mZ ps o->∀(acc:List eh)(f:List Bool),x∈((ps.foldl (eM l) (acc,f)).1.flatMap (fY l)).map (·.1)↔x∈(acc.flatMap (fY l)).map (·.1)\/x∈mf l (lv f) o
 |_,_,.nil,acc,f=>by cases lv f<;>simp[mf]
 |a::ps,q::o,.cons hP hr,acc,f=>by
  rw[gF];have plain:a.kind≠"if"->a.kind≠"end"->(∀r,x∈mf l 0 (q::r)↔x∈(fY l a).map (·.1)\/x∈mf l 0 r)->(∀n r,mf l (n+1) (q::r)=mf l (n+1) r)->(x∈((ps.foldl (eM l) (eM l (acc,f) a)).1.flatMap (fY l)).map (·.1)↔x∈(acc.flatMap (fY l)).map (·.1)\/x∈mf l (lv f) (q::o)):=λC D B g=>by
   have s:eM l (acc,f) a=if f.all id=true then(acc++[a],f)else(acc,f):=by unfold eM;rw[QH C,QH D]
   rw[s];by_cases c:f.all id=true
   .rw[QG c,wF l x ps o hr,(vL f).mp c,B,gc,fk,eA,or_assoc];simp
   .rw[QH c,wF l x ps o hr];cases e:lv f with
    |zero=>show absurd ((vL f).mpr e) c
    |succ n=>rw[g]
  cases q with
  |para u=>
   obtain⟨b,h⟩:=hP;show plain (by rw[b];decide) (by rw[b];decide) (λr=>?_) (λn r=>rfl);show x∈((xH u).filterMap λt=>(fI l t).map λa=>a.1)++mf l 0 r↔_;rw[eA,found_iff];unfold fY;rw[QG b,HM];show or_congr ⟨?_,?_⟩ Iff.rfl
   .intro i;show ai i λt g p=>?_;clear i;show⟨t,(zu h t).mpr g,p⟩
   .intro j;show ai j λt g p=>?_;clear j;show⟨t,(zu h t).mp g,p⟩
  |row t=>show cY hP λb h _=>?_;clear hP;show plain (by rw[b];decide) (by rw[b];decide) (λr=>?_) (λn r=>rfl);show x∈((fI l t).toList.map λa=>a.1)++mf l 0 r↔_;unfold fY;rw[QH (by rw[b];decide),QG b,h,eA,gd];rfl
  |table A=>
   show cY hP λb h _=>?_;clear hP;show plain (by rw[b];decide) (by rw[b];decide) (λr=>?_) (λn r=>rfl);show x∈((i5 l A).flatMap λd=>A.filterMap λt=>(l9 l t d).map λa=>a.1)++mf l 0 r↔_;unfold fY;rw[QH (by rw[b];decide),QH (by rw[b];decide),QG b,h,eA];show or_congr ?_ Iff.rfl;unfold uh i7;rw[List.map_flatMap,lV,lV];show exists_congr λd=>and_congr Iff.rfl ?_;rw[gd,dM,qu];constructor
   .intro k;show ai k λt g p=>?_;clear k;show ai (mX.mp p) λz v y=>?_;show⟨z,qu.mpr ⟨t,g,v⟩,y⟩
   .intro m;show ai m λz g p=>?_;clear m;show ai (qu.mp g) λt v y=>?_;show⟨t,v,by rw[y];show congrArg some p⟩
  |blank=>have b:a.kind="blank":=hP;show plain (by rw[b];decide) (by rw[b];decide) (λr=>?_) (λn r=>rfl);unfold fY;rw[QH (by rw[b];decide),QH (by rw[b];decide),QH (by rw[b];decide)];show x∈ []++mf l 0 r↔_;simp
  |opens t=>
   show cY hP λb h _=>?_;clear hP;have s:eM l (acc,f) a=(acc,f++[(fI l t).isSome]):=by unfold eM;rw[QG b,h];rfl
   rw[s,wF l x ps o hr,BM];cases e:lv f with
   |zero=>rw[QG rfl];rfl
   |succ n=>rw[QH QA];rfl
  |closes=>
   have b:a.kind="end":=hP;have s:eM l (acc,f) a=(acc,f.dropLast):=by unfold eM;rw[QH (by rw[b];decide),QG b]
   rw[s,wF l x ps o hr,BL];cases e:lv f with
   |zero=>rfl
   |succ n=>rfl
def HL{l:bB}{c:List (Str×List Nat)}{x:Nat×Nat}(h:x∈c.flatMap (fM l)):∃z∈l,x=j7 z:=by
 show ai (lV.mp h) λd _ h=>?_;unfold fM at h;split at h
 .show ai (dM.mp h) λz b a=>?_;subst a;show⟨z,qG (xp.mp b),rfl⟩
 .cases h
def Gq{l:bB}{o:Option (List (Str×List Nat))}{x:Nat×Nat}(h:x∈gC l o):∃z∈l,x=j7 z:=by obtain⟨a,_,h⟩:=lV.mp h;show HL h
def SX{l:bB}{a:eh}{x:Nat×Nat}(h:x∈fY l a):∃z∈l,x=j7 z:=by
 unfold fY at h;split at h
 .show HL h
 .split at h
  .show ai (dM.mp h) λz c b=>?_;subst b;show⟨z,qG (xp.mp c),rfl⟩
  .split at h
   .unfold uh i7 at h;show ai (lV.mp h) λd _ h=>?_;show ai (dM.mp h) λz c b=>?_;subst b;show ai (qu.mp c) λt _ e=>?_;show⟨z,B4 e,rfl⟩
   .cases h
def Hz{l:bB}{T:eS}{n:Nat}{x:Nat×Nat}(h:x∈ip l T n):∃z∈l,x=j7 z:=by
 unfold ip at h;rcases eA.mp h with h | h
 .show ai (lV.mp h) λa _ h=>?_;show SX h
 .show ai (lV.mp h) λa _ h=>?_;rcases eA.mp h with h | h
  .show Gq h
  .show Gq h
def Gs{o:Option (List (Str×List Nat))}{i:Option (List Nat)}(h:oR o i)(l:bB)(a:Nat):a∈(gC l o).map (·.1)↔a∈i.toList.flatMap λu=>(xH u).filterMap λt=>(fI l t).map λz=>z.1:=by
 cases i with
 |none=>have h:o=none:=h;rw[h];rfl
 |some b=>
  show ai h λk j e=>?_;subst h e;unfold gC;simp only[sm,kg,zR,ee];rw[HM,found_iff];constructor
  .intro c;show ai c λt f g=>?_;clear c;show⟨t,(zu j t).mp f,g⟩
  .intro d;show ai d λt f g=>?_;clear d;show⟨t,(zu j t).mpr f,g⟩
def UN{T:eS}{t:iZ}(h:lZ T t)(as:List dg)(p d n:Nat)(g:1<=n)(a:Nat):a∈qE t as p d↔a∈(ip (dH as p d) T n).map (·.1):=by
 unfold qE;dsimp only;rw[(Bx _ [] List.Pairwise.nil).2];unfold ip u9 iA;rw[fk,eA,eA,wF _ a _ _ h.parts,gc,eA,<-Gs h.head,<-Gs h.foot];have e:a∈((gG n).flatMap λ_=>gC (dH as p d) T.head++gC (dH as p d) T.foot).map (·.1)↔a∈(gC (dH as p d) T.head).map (·.1)\/a∈(gC (dH as p d) T.foot).map (·.1):=by
  rw[List.map_flatMap,lV];constructor
  .intro b;show ai b λ_ _ q=>?_;clear b;rwa[fk,eA]at q
  .intro q;show⟨0,r8.mpr QA,by rwa[fk,eA]⟩
 rw[e];have c:a∈qr (λx=>x.1) (List.flatMap (fY (dH as p d)) [])↔False:=QD;rw[c];have f:a∈([]:List Nat)↔False:=QD;rw[f,false_or,false_or];show _↔a∈mf _ 0 _\/_;show or_comm
def UO{h:bz}(j:kP h){T:eS}{t:iZ}(o:lZ T t)(p d n:Nat)(m:1<=n):An (eI (ip (dH h.answers p d) T n)) ((qE t h.answers p d).map λa=>(a,gf h a))/\∀a∈qE t h.answers p d,a<h.answers.length:=by
 have key:∀z∈dH h.answers p d,z.1<h.answers.length/\gf h z.1=z.2.versions.length-1/\z.2.versions.length<=6:=λz c=>by have q:=Bq c;show⟨(dW.mp q).1,?_,(j.good _ (dD q)).d6⟩;unfold gf lh;rw[q];rfl
 have k:=UN o h.answers p d n m;have l:∀a∈qE t h.answers p d,∃z∈dH h.answers p d,a=z.1:=λa e=>by show ai (dM.mp ((k a).mp e)) λx i b=>?_;subst b;show ai (Hz i) λz c b=>?_;subst b;show⟨z,c,rfl⟩
 have f:∀a∈qE t h.answers p d,a<h.answers.length:=λa e=>by show ai (l a e) λz c b=>?_;subst b;show(key z c).1
 show⟨tells_of (g:=gf h) (λx i=>?_) (Bx _ [] List.Pairwise.nil).1 k (λa e=>gY (f a e) j.iO) (λa e=>?_),f⟩
 .show ai (Hz i) λz c b=>?_;subst b;show(key z c).2.1.symm
 .show ai (l a e) λz c b=>?_;subst b;have:=key z c;lia
structure GoodW(x:jk):Prop where
 person:x.person<=1000000000
 day:x.day<=100000
 page:x.page.length<=6
 pages:x.pages.length<=6
def P7{u:List Nat}{b:Str×List Nat}(h:jg u=some b)(C:u.length<=200):oY b/\∀(l:bB)(x:jk),(∀z∈l,jx z)->GoodW x->(d0 l x b).length<=2*(u.length+1):=by
 unfold jg at h;rw[BE]at h;have a:∀(s:Str)(n:Nat),u.length=n->(s="person"/\n=6\/s="day"/\n=3\/s="page"/\n=4\/s="pages"/\n=5)->b=(s,[])->oY b/\∀(l:bB)(x:jk),(∀z∈l,jx z)->GoodW x->(d0 l x b).length<=2*(u.length+1):=by
  intro s n o j p;subst p;rw[o];show⟨⟨?_,cT _⟩,λl x _ c=>?_⟩
  .rcases j with⟨rfl,_⟩ | ⟨rfl,_⟩ | ⟨rfl,_⟩ | ⟨rfl,_⟩<;>simp
  .have t:=c.page;have v:=c.pages;have y:=Rt.iB (n:=x.person) (k:=10) QB (by have:=c.person;lia);have A:=Rt.iB (n:=x.day) (k:=6) QB (by have:=c.day;lia);rcases j with⟨rfl,rfl⟩ | ⟨rfl,rfl⟩ | ⟨rfl,rfl⟩ | ⟨rfl,rfl⟩
   .show(cV x.person).length<=_;lia
   .show(cV x.day).length<=_;lia
   .show x.page.length<=_;lia
   .show x.pages.length<=_;lia
 by_cases d:u=au "person"
 .rw[QG d,QG QB]at h;show a "person" 6 (by rw[d];decide) QD (df.inj h).symm
 rw[QH d]at h;by_cases e:u=au "day"
 .rw[QG e,QG QB]at h;show a "day" 3 (by rw[e];decide) QD (df.inj h).symm
 rw[QH e]at h;by_cases f:u=au "page"
 .rw[QG f,QG QB]at h;show a "page" 4 (by rw[f];decide) QD (df.inj h).symm
 rw[QH f]at h;by_cases g:u=au "pages"
 .rw[QG g,QG QB]at h;show a "pages" 5 (by rw[g];decide) QD (df.inj h).symm
 rw[QH g,QH QB]at h;by_cases i:u.take 6=au "value "/\eQ (u.drop 6)=true
 .rw[QG i]at h;obtain rfl:=df.inj h;have B:7<=u.length:=by have q:=i.2;unfold eQ at q;rw[eC,QK,iI]at q;lia
  show⟨⟨QD,?_⟩,λl x m _=>?_⟩
  .show(u.drop 6).length<=200;rw[iI];lia
  .have:(d0 l x ("value",u.drop 6)).length<=14:=zr (l:=l) QC λz r=>m z (qG r);lia
 .rw[QH i]at h;cases h
def Iw:∀(r:List (List Nat))(m:List (Str×List Nat)),fG r=some m->(∀s∈r,s.length<=200)->(∀g∈m,oY g)/\m.length=2*r.length/\∀(l:bB)(x:jk),(∀z∈l,jx z)->GoodW x->(m.flatMap (d0 l x)).length<=2*Rt.wsum r
 |[],m,h,_=>by obtain rfl:=df.inj h;show⟨λ_ h=>absurd h gz,rfl,λ_ _ _ _=>cT _⟩
 |s::r,m,h,hs=>by
  unfold fG at h;cases e:j6 s with
  |none=>rw[e]at h;cases h
  |some q=>
   rw[e]at h;show ai (mX.mp h) λF p b=>?_;subst b;show cY (Iw r F p λx d=>hs x (du _ d)) λA B C=>?_;have t:=hs s cZ;unfold j6 at e;split at e
   .cases e
   rename_i o;split at e
   .cases e
   rename_i k j;obtain rfl:=df.inj e;obtain⟨u,v,f⟩:∃u v,Rt.bc 125 s= [u,v]:=by
    match Rt.bc 125 s,o with
    |[u,v],_=>show⟨u,v,rfl⟩
    |[],c=>simp at c
    |[_],c=>simp at c
    |_::_::_::_,c=>simp at c
   have y:=Rt.pW 125 s;rw[f,Rt.jO,Rt.jO,Rt.DT]at y;rw[f]at j;obtain⟨D,E⟩:=P7 (u:=u) j QA;rw[f];show⟨?_,?_,λl x i d=>?_⟩
   .intro g a;rcases eA.mp a with a | a
    .rcases bG.mp a with rfl | a
     .show D
     .rw[iw.mp a];show⟨.inl rfl,by show v.length<=200;lia⟩
    .show A g a
   .simp only[aP,B,aG,dC];lia
   .rw[gc,aP,Rt.jO];have G:=C l x i d;have H:=E l x i d;have n:([k,(("plain":Str),[u,v].getD 1 [])].flatMap (d0 l x)).length=(d0 l x k).length+v.length:=by simp[d0]
    rw[n];lia
def Cg{b:List Nat}{d:List (Str×List Nat)}(h:ir b=some d):(∀f∈d,oY f)/\d.length<=500/\∀(l:bB)(x:jk),(∀z∈l,jx z)->GoodW x->(d.flatMap (d0 l x)).length<=400:=by
 have v:=DD h;have i:=Rt.pW 123 b;unfold ir at h;split at h
 .cases h
 cases e:Rt.bc 123 b with
 |nil=>show absurd e (Rt.j8 _ _)
 |cons g r=>
  rw[e]at h i;rw[Rt.jO]at i;dsimp only at h;split at h
  .cases h
  show ai (mX.mp h) λm j c=>?_;subst c;obtain⟨p,q,t⟩:=Iw r m j λs n=>by have:=Rt.uv n;lia
  show⟨?_,?_,λl x k o=>?_⟩
  .intro f a;rcases bG.mp a with rfl | a
   .show⟨.inl rfl,by show g.length<=200;lia⟩
   .show p f a
  .have:=Rt.rM r;rw[aG,q];lia
  .have u:=t l x k o;rw[kg,aP];have:(d0 l x ("plain",g)).length=g.length:=rfl;lia
def Pz{as:List dg}(c:∀x∈as,lS x)(hz:as.length<=60)(p d:Nat):∀z∈dH as p d,jx z:=λz h=>by have a:=Bq h;have g:=c _ (dD a);have b:=g.newest;obtain⟨e,_⟩:=dW.mp a;show⟨QA,b.flag,b.value,g.unit,g.test,g.day⟩
structure xt(l:bB)(p d k:Nat)(x:eh):Prop where
 d6:(gj l p d k x).length<=77
 wide:∀r∈gj l p d k x,r.length<=k
 all:(gj l p d k x).length*(k+1)<=1705
 shows:(fY l x).length<=1000
def lC{α β:Type}{f:α->List β}{m:Nat}:∀{l:List α},(∀x∈l,(f x).length<=m)->(l.flatMap f).length<=l.length*m
 |[],_=>cT _
 |x::l,h=>by have b:=h x cZ;have c:=lC λy a=>h y (du x a);rw[kg,aP,aG,kX];lia
def Gd{α β:Type}{f:α->List β}{m K:Nat}:∀{l:List α},(∀x∈l,(f x).length*K<=m)->(l.flatMap f).length*K<=l.length*m
 |[],_=>QD
 |x::l,h=>by have b:=h x cZ;have c:=Gd λy a=>h y (du x a);rw[kg,aP,aG,kX,xc];lia
def SW{l:bB}{p d k:Nat}{x:eh}{q:jA}(h:mZ x q)(F:20<=k)(G:k<=100)(E:∀z∈l,jx z)(I:p<=1000000000)(D:d<=100000):xt l p d k x:=by
 have c:∀{L:List (List Nat)}{S:List (Nat×Nat)},gj l p d k x=L->fY l x=S->L.length<=6->(∀r∈L,r.length<=k)->S.length<=1000->xt l p d k x:=λf i y A B=>by have:gj l p d k x=_:=f;show⟨by rw[f];lia,by rw[f];show A,?_,by rw[i];show B⟩;rw[f];show dE (El y (show k+1<=101 by lia)) QB
 have other:x.kind≠"text"->x.kind≠"row"->x.kind≠"table"->xt l p d k x:=λj n o=>by
  show c (L:= [[]]) (S:= []) ?_ ?_ QD QD QD
  .unfold gj;rw[QH j,QH n,QH o]
  .unfold fY;rw[QH j,QH n,QH o]
 cases q with
 |para b=>
  obtain⟨a,M⟩:=h;show cY (Cg M) λf1 f2 s=>?_;have v:=s l (kb p d) E ⟨I,D,by show 1<=6;decide,by show 1<=6;decide⟩;have f:gj l p d k x=mh k (x.aF.flatMap (d0 l (kb p d))):=by unfold gj;rw[QG a]
  have i:fY l x=x.aF.flatMap (fM l):=by unfold fY;rw[QG a]
  obtain⟨m,N,R⟩:=Rt.zz (k:=k) QA (x.aF.flatMap (d0 l (kb p d)));exists by rw[f];show Rt.Xk F v,by rw[f];show Rt.DS QA _,?_
  .rw[f,N,kX];lia
  .rw[i];show dE (lC (m:=1) λO _=>?_) QA;unfold fM;split
   .cases fI l O.2<;>simp
   .simp
 |row t=>
  have a:=h.1;show c (L:= [(xC l (x.names.headD [])).take k]) (S:=(fI l (x.names.headD [])).toList.map j7) ?_ ?_ QD (by simp;lia) (by cases fI l (x.names.headD [])<;>simp)
  .unfold gj;rw[QH (by rw[a];decide),QG a]
  .unfold fY;rw[QH (by rw[a];decide),QG a]
 |table T=>
  show i8 h λa H _ _ C=>?_;clear h;have Q:=Dw l x.names;show c (L:=(xF l x.names).map λw=>w.take k) (S:=uh l x.names) ?_ ?_ ?_ ?_ ?_
  .unfold gj;rw[QH (by rw[a];decide),QH (by rw[a];decide),QG a]
  .unfold fY;rw[QH (by rw[a];decide),QH (by rw[a];decide),QG a]
  .rw[Dx,ay,aG,ay];lia
  .intro r J;show ai (dM.mp J) λu _ g=>?_;subst g;rw[ff];lia
  .unfold uh;show dE (lC (m:=6) λe _=>dE (FF l x.names e) (by rw[H];show C)) QA
 |blank=>have a:x.kind="blank":=h;show other (by rw[a];decide) (by rw[a];decide) (by rw[a];decide)
 |opens t=>have a:=h.1;show other (by rw[a];decide) (by rw[a];decide) (by rw[a];decide)
 |closes=>have a:x.kind="end":=h;show other (by rw[a];decide) (by rw[a];decide) (by rw[a];decide)
def SV{x:eh}{q:jA}(h:mZ x q):(x.kind="end"->q= .closes)/\(x.kind="if"->∃t,q= .opens t):=by
 cases q with
 |para b=>rw[h.1];show⟨λh=>absurd h QB,λh=>absurd h QB⟩
 |row t=>rw[h.1];show⟨λh=>absurd h QB,λh=>absurd h QB⟩
 |table a=>rw[h.1];show⟨λh=>absurd h QB,λh=>absurd h QB⟩
 |blank=>rw[show x.kind="blank"from h];show⟨λh=>absurd h QB,λh=>absurd h QB⟩
 |opens t=>rw[h.1];show⟨λh=>absurd h QB,λ_=>⟨t,rfl⟩⟩
 |closes=>rw[show x.kind="end"from h];show⟨λ_=>rfl,λh=>absurd h QB⟩
def FO(l:bB):∀(ps:List eh)(d:List jA),Paired mZ ps d->∀(n:Nat)(c:List eh×List Bool),c.2.length=n->(ib n d).isSome=true->∀(i:Nat)(p:eh),ps[i]? =some p->p.kind="end"->((ps.take i).foldl (eM l) c).2≠ []
 |_,_,.nil,n,c,_,_,i,p,f,_=>by simp at f
 |a::ps,q::d,.cons hP hr,n,c,hn,hd,i,p,f,hk=>by
  cases i with
  |zero=>obtain rfl:a=p:=df.inj f;intro e;have e:c.2= []:=e;rw[e]at hn;rw[(SV hP).1 hk,<-hn]at hd;show absurd hd (by simp[ib])
  |succ i=>
   rw[Eh,gF];have go:∀g,(eM l c a).2.length=g->(ib g d).isSome=true->((ps.take i).foldl (eM l) (eM l c a)).2≠ []:=λg h j=>FO l ps d hr g _ h j i p (by simpa using f) hk;have plain:a.kind≠"if"->a.kind≠"end"->(eM l c a).2.length=n:=λk m=>by unfold eM;rw[QH k,QH m];split<;>show hn
   cases q with
   |para b=>show go n (plain (by rw[hP.1];decide) (by rw[hP.1];decide)) hd
   |row t=>show go n (plain (by rw[hP.1];decide) (by rw[hP.1];decide)) hd
   |table o=>show go n (plain (by rw[hP.1];decide) (by rw[hP.1];decide)) hd
   |blank=>have e:a.kind="blank":=hP;show go n (plain (by rw[e];decide) (by rw[e];decide)) hd
   |opens t=>
    unfold ib at hd;split at hd
    .cases hd
    .show go (n+1) ?_ hd;unfold eM;rw[QG hP.1,aP,hn];rfl
   |closes=>
    have e:a.kind="end":=hP;unfold ib at hd;split at hd
    .cases hd
    .show go (n-1) ?_ hd;unfold eM;rw[QH (by rw[e];decide),QG e,w8,hn]
def WK(u:List Nat):(kx u).length<=u.length:=by unfold kx;rw[zV];show dE (List.dropWhile_sublist _).length_le (by rw[zV];show bo _)
def Gp(l:bB)(x:jk)(k:Nat)(o:Option (List (Str×List Nat))):(gg l x k o).length<=1/\∀r∈gg l x k o,r.length<=k:=by
 cases o with
 |none=>show⟨cT _,λ_ h=>absurd h gz⟩
 |some b=>show⟨bo _,λr a=>?_⟩;rw[iw.mp a,ff];lia
def Ss{l:bB}{p d:Nat}{T:eS}{a:List (List Nat)}(g:∀r∈a,r.length<=T.width)(n i:Nat):(vT l p d T a n i).length<=(((a.drop (i*da T)).take (da T)).length+2)*(T.width+1)+2:=by
 unfold vT;generalize q:({person:=p,day:=d,page:=cV (i+1),pages:=cV n}:jk)=x;obtain⟨k,b⟩:=Gp l x T.width T.head;obtain⟨o,c⟩:=Gp l x T.width T.foot;rw[aP,List.flatMap_map];have e:=lC (f:=λu=>kx u++[10]) (m:=T.width+1) (l:=gg l x T.width T.head++(((a.drop (i*da T)).take (da T))++gg l x T.width T.foot)) λr j=>by
  have:r.length<=T.width:=by
   rcases eA.mp j with h | h
   .show b r h
   rcases eA.mp h with h | h
   .show g r (Ec (oV h))
   .show c r h
  have:=WK r;rw[aP];show _+1<=_;lia
 show sf (dE e (kj _ ?_)) (bo _);rw[aP,aP];lia
def yH{α β:Type}{F:α->β->Prop}:∀{l:List α}{m:List β},Paired F l m->l.length=m.length
 |_,_,.nil=>rfl
 |_,_,.cons _ t=>congrArg (·+1) (yH t)
def HE{α β:Type}{F:α->β->Prop}{l:List α}{m:List β}(h:Paired F l m){x:α}(d:x∈l):∃y∈m,F x y:=by obtain⟨i,c⟩:=List.getElem?_of_mem d;obtain⟨b,a,r⟩:=Paired.get' h c;show⟨b,dD a,r⟩
def yc{o:Option (List (Str×List Nat))}{u:Option (List Nat)}(h:oR o u):qf o:=by
 show⟨λd e=>?_⟩;cases u with
 |none=>rw[show o=none from h]at e;cases e
 |some b=>show ai h λf a c=>?_;clear h;rw[c]at e;obtain rfl:=df.inj e;show cY (Cg a) λf1 f2 _=>?_;show⟨f1,f2⟩
def Gn{l:bB}{o:Option (List (Str×List Nat))}(h:qf o):(gC l o).length<=500:=by
 unfold gC;cases o with
 |none=>show cT _
 |some b=>
  have c:=(h.ok b rfl).2;simp only[Option.toList_some,kg,zR,ee];show dE (lC (m:=1) λa _=>?_) QA;unfold fM;split
  .cases fI l a.2<;>simp
  .simp
def WX{len r:Nat}(b:3<=r):Rt.turns len r<=len / 3+1:=by
 unfold Rt.turns;show Nat.le_of_lt_succ ((Nat.div_lt_iff_lt_mul QA).mpr ?_);have c:len / 3*3<=len / 3*r:=xk _ b;have a:(len / 3+1).succ*r=len / 3*r+2*r:=by rw[show(len / 3+1).succ=len / 3+2 from rfl,xc]
 rw[a];lia
structure Ld(as:List dg)(p d:Nat)(T:eS)(t:iZ):Prop where
 ok:zL (dH as p d) p d T
 total:(je (dH as p d) p d T (dG (dH as p d) p d T)).length<=130000
 pages:dG (dH as p d) p d T<=20000
 one:1<=dG (dH as p d) p d T
 room:0<da T
 turns:Rt.turns (d7 (dH as p d) p d T).length (da T)<=500+20*t.parts.length+1
def BF{as:List dg}(Q:∀x∈as,lS x)(hz:as.length<=60){p d:Nat}(U:p<=1000000000)(O:d<=100000){T:eS}{t:iZ}(g:lZ T t):Ld as p d T t:=by
 have e:=Pz Q hz p d;have o:=F9 as p d;have u:=Iy as p d;generalize R:dH as p d=l at e o u;have hw:=g.width;have w1:=g.w1;have S:=g.lines;have l1:=g.l1;have E:=g.d6;have V:=yH g.parts;have c:∀x∈T.parts,xt l p d T.width x:=λx h=>by show ai (HE g.parts h) λq _ r=>?_;show SW r QA QA e U O
 have D:=(AX l T.parts).1;have k:3<=da T/\da T<=60:=by unfold da;split<;>split<;>lia
 have I:(d7 l p d T).length<=(iA l T.parts).1.length*77:=lC λx h=>(c x (vj x h)).d6;have J:(d7 l p d T).length*(T.width+1)<=(iA l T.parts).1.length*1705:=Gd λx h=>(c x (vj x h)).all;have n:∀r∈d7 l p d T,r.length<=T.width:=λr C=>by show ai (lV.mp C) λx h j=>?_;show(c x (vj x h)).wide r j
 have L:(u9 l T).length<=(iA l T.parts).1.length*1000:=lC λx h=>(c x (vj x h)).shows;have W:=WX (len:=(d7 l p d T).length) k.1;have s:3*dG l p d T<=(d7 l p d T).length+3/\1<=dG l p d T:=by unfold dG Rt.mD;lia
 have v:∀i,(je l p d T i).length<=i*(2*(T.width+1)+2)+((d7 l p d T).take (i*da T)).length*(T.width+1):=λi=>by
  induction i with
  |zero=>show cT _
  |succ i X=>
   have j:=Ss (l:=l) (p:=p) (d:=d) n (dG l p d T) i;rw[yG,aP];have A:((d7 l p d T).take ((i+1)*da T)).length=((d7 l p d T).take (i*da T)).length+(((d7 l p d T).drop (i*da T)).take (da T)).length:=by rw[kX];simp only[ff,iI];lia
   rw[A];generalize (((d7 l p d T).drop (i*da T)).take (da T)).length=b at j ⊢;generalize ((d7 l p d T).take (i*da T)).length=a at X ⊢;have F:(i+1)*(2*(T.width+1)+2)=i*(2*(T.width+1)+2)+(2*(T.width+1)+2):=kX _ _;have G:(a+b)*(T.width+1)=a*(T.width+1)+b*(T.width+1):=xc _ _ _;have H:(b+2)*(T.width+1)=b*(T.width+1)+2*(T.width+1):=xc _ _ _;rw[F,G];rw[H]at j;generalize i*(2*(T.width+1)+2)=x at *;generalize a*(T.width+1)=y at *;generalize b*(T.width+1)=z at *;lia
 have Z:=v (dG l p d T);have N:(je l p d T (dG l p d T)).length<=130000:=by
  have hN:((d7 l p d T).take (dG l p d T*da T)).length*(T.width+1)<=(d7 l p d T).length*(T.width+1):=kj _ (by rw[ff];lia);have B:3*dG l p d T*(2*(T.width+1)+2)<=((d7 l p d T).length+3)*(2*(T.width+1)+2):=kj _ s.1;have Y:((d7 l p d T).length+3)*(2*(T.width+1)+2)=2*((d7 l p d T).length*(T.width+1))+2*(d7 l p d T).length+3*(2*(T.width+1)+2):=by rw[xc,Nat.mul_add,Nat.mul_left_comm,xj _ 2]
  rw[Ek]at B;lia
 have M:(ip l T (dG l p d T)).length<=6000000:=by
  unfold ip;have j:=Gn (l:=l) (yc g.head);have A:=Gn (l:=l) (yc g.foot);have B:=lC (f:=λ_:Nat=>gC l T.head++gC l T.foot) (m:=1000) (l:=gG (dG l p d T)) λ_ _=>by rw[aP];lia
  rw[mT]at B;rw[aP];lia
 subst R;exact{ok:=⟨⟨g.ok,QA,λi x j A=>FO _ _ _ g.parts 0 ([],[]) rfl (by rw[g.deep];rfl) i x j A,QA,QA,λx h=>dE (c x h).d6 QA,λx h=>(c x h).shows⟩,yc g.head,yc g.foot,QA,QA,QA,e,u,QA,λr C=>dE (n r C) QA,QA,QA,M⟩,total:=N,pages:=QA,one:=s.2,room:=QA,turns:=by lia}
def QP(u:List Nat)(x:Str)(xs:List Str):fP u (x::xs)=if u=x.cps.toList then x else fP u xs:=by
 unfold fP;rw[mS];by_cases c:u=x.cps.toList
 .rw[QG c,QI c];rfl
 .rw[QH c,QJ c]
def GN{u:List Nat}:∀{xs:List Str},(∀x∈xs,u≠x.cps.toList)->fP u xs=""
 |[],_=>rfl
 |x::xs,h=>by rw[QP,QH (h x cZ)];show GN λy a=>h y (du _ a)
def Kv:∀l:List (List Nat),lr l=lE 32 l
 |[]=>rfl
 |[_]=>rfl
 |u::v::r=>by show u++32::lr (v::r)=u++32::lE 32 (v::r);rw[Kv (v::r)]
def drop_free:∀{p:List Nat}(q:List Nat),32∉p->(p++32::q).dropWhile (λc=>c != 32)=32::q
 |[],q,_=>rfl
 |c::p,q,h=>by have a:c≠32:=λe=>h (by simp[e]);rw[nJ,List.dropWhile_cons_of_pos (by simpa using a)];show drop_free q λe=>h (du _ e)
def La{l a v:List Nat}{r:List (List Nat)}(h:Rt.bc 32 l=a::v::r):l=a++32::iy l:=by
 have b:l=a++32::lE 32 (v::r):=by
  conv=>lhs;rw[<-join_split 32 l,h]
  rfl
 have c:32∉a:=split_free (l:=l) (by rw[h];show cZ);have d:iy l=lE 32 (v::r):=by unfold iy;rw[b,drop_free _ c];rfl
 rw[d];show b
def Xi{l a:List Nat}(h:Rt.bc 32 l= [a]):l=a:=by
 conv=>lhs;rw[<-join_split 32 l,h]
 rfl
abbrev rg(e:dZ):eh:=⟨e.kind,e.names,e.aF⟩
structure so(e:dZ)(q:jA):Prop where
 is:mZ (rg e) q
 ok:uI (rg e)
 line:e.line=ll q
def NumIs(lo hi:Nat)(o:Option dZ)(x:Option Nat):Prop:=match x with
 |none=>o=none
 |some n=>∃e,o=some e/\e.number=n/\lo<=n/\n<=hi
def xA(k:List Nat)(o:Option dZ)(x:Option (List Nat)):Prop:=match x with
 |none=>o=none
 |some b=>∃e,o=some e/\e.line=k++b/\ir b=some e.aF
structure lT(rd:fH)(g:fR):Prop where
 width:NumIs 20 100 (rd.get "width") g.width
 lines:NumIs 5 60 (rd.get "lines") g.lines
 head:xA (au "head ") (rd.get "head") g.head
 foot:xA (au "foot ") (rd.get "foot") g.foot
 parts:Paired so rd.parts g.parts
 depth:rd.depth=g.deep
 deep:ib 0 g.parts=some g.deep
 four:g.deep<=4
 d6:g.parts.length<=40
def qL(p:jA):∀(n:Nat)(a:List jA),ib n (a++[p])=(ib n a).bind λm=>ib m [p]
 |n,[]=>rfl
 |n,q::a=>by
  cases q with
  |opens t=>
   show(if 4<=n then none else ib (n+1) (a++[p]))=(if 4<=n then none else ib (n+1) a).bind _;split
   .rfl
   .show qL p _ a
  |closes=>
   show(if n=0 then none else ib (n-1) (a++[p]))=(if n=0 then none else ib (n-1) a).bind _;split
   .rfl
   .show qL p _ a
  |para b=>show qL p n a
  |row b=>show qL p n a
  |table b=>show qL p n a
  |blank=>show qL p n a
def Ha{lo hi:Nat}{o:Option dZ}{x:Option Nat}(h:NumIs lo hi o x):o.isSome=x.isSome:=by
 cases x with
 |none=>rw[show o=none from h];rfl
 |some n=>show ai h λe a _=>?_;clear h;rw[a];rfl
def K1{k:List Nat}{o:Option dZ}{x:Option (List Nat)}(h:xA k o x):o.isSome=x.isSome:=by
 cases x with
 |none=>rw[show o=none from h];rfl
 |some n=>show ai h λe a _=>?_;clear h;rw[a];rfl
def ku(rd:fH)(g:fR)(l:List Nat):Prop:=match fm g l with
 |.error e=>iq rd (readLine l)=e/\e≠0
 |.ok h=>iq rd (readLine l)=0/\∃e,readLine l=some e/\lT (hZ rd e) h
def jI{rd:fH}{g:fR}{l:List Nat}(a:readLine l=none)(b:fm g l= .error 1):ku rd g l:=by unfold ku;rw[a,b];show⟨rfl,QB⟩
def zk{rd:fH}{g x:fR}{l:List Nat}{e:dZ}{α:Type}{o:Option α}(f:lT rd g)(k:isSet e.kind=true)(a:readLine l=some e)(i:(rd.get e.kind).isSome=o.isSome)(m:fm g l=qB g o x)(n:lT (hZ rd e) x):ku rd g l:=by
 have j:rd.parts≠ []↔g.parts≠ []:=by have:=yH f.parts;cases b:rd.parts<;>cases d:g.parts<;>rw[b,d]at this<;>simp_all
 have h:iq rd (readLine l)=if o.isSome=true\/g.parts≠ []then 2 else 0:=by rw[a];unfold iq;dsimp only;rw[QG k,i];simp only[j]
 unfold ku;rw[m,h];unfold qB;by_cases c:o.isSome=true\/g.parts≠ []
 .rw[QG c,QG c];show⟨rfl,QB⟩
 .rw[QH c,QH c];show⟨rfl,e,a,n⟩
def Dl{rd:fH}{g:fR}{l:List Nat}{e:dZ}{p:jA}{dn:Nat}{bad:Prop}[Decidable bad](a:lT rd g)(v:isSet e.kind=false)(f:readLine l=some e)(s:so e p)(x:fm g l=if bad then .error 3 else pd {g with deep:=dn} p)
  (d:bad↔(e.kind="end"/\rd.depth=0)\/(e.kind="if"/\rd.depth=4)) (u:¬bad->dn=(if e.kind="if"then rd.depth+1 else if e.kind="end"then rd.depth-1 else rd.depth)/\ib g.deep [p]=some dn/\dn<=4):ku rd g l:=by
 have A:=yH a.parts;have m:=a.d6;have b:¬isSet e.kind=true:=by rw[v];show dP
 unfold ku;rw[x];by_cases c:bad
 .rw[QG c];show⟨?_,QB⟩;rw[f];unfold iq;dsimp only;rw[QH b];rcases d.mp c with q | q
  .rw[QG q]
  .by_cases j:e.kind="end"/\rd.depth=0
   .rw[QG j]
   .rw[QH j,QG q]
 .rw[QH c];show cY (u c) λn o r=>?_;have y:¬ (e.kind="end"/\rd.depth=0):=λq=>c (d.mpr (.inl q));have z:¬ (e.kind="if"/\rd.depth=4):=λq=>c (d.mpr (.inr q));have t:iq rd (readLine l)=if rd.parts.length=40 then 4 else 0:=by rw[f];unfold iq;dsimp only;rw[QH b,QH y,QH z]
  rw[t];unfold pd;show match(if 40<=g.parts.length then _ else _:Except Nat fR)with
   |.error e=>_
   |.ok h=>_
  by_cases k:40<=g.parts.length
  .rw[QG k,QG QA];show⟨rfl,QB⟩
  .rw[QH k,QH QA];exists rfl,e,f;have i:hZ rd e={rd with parts:=rd.parts++[e],depth:=dn}:=by unfold hZ;rw[QH b,n]
   rw[i];show⟨a.width,a.lines,a.head,a.foot,L2.Paired.snoc s a.parts,rfl,by show ib 0 (g.parts++[p])=some dn;rw[qL,a.deep];show o,r,by show(g.parts++[p]).length<=40;rw[aP,aG,dC];lia⟩
def kn(k:Str)(u:List Nat)(h:fP u jr=k){l:List Nat}{a:List (List Nat)}(e:Rt.bc 32 l=u::a):readLine l=(if k="width"then mx "width" l a 20 100
  else if k="lines"then mx "lines" l a 5 60
  else if k="row"then kH "row" l a 1
  else if k="table"then kH "table" l a 6
  else if k="if"then kH "if" l a 1
  else if k="head"\/k="foot"\/k="text"then textLine k l
  else if(k="blank"\/k="end")/\a= []then some ⟨k,l,0,[],[]⟩
  else none):=by
 subst h;unfold readLine;rw[e]
def WE{l:List Nat}{a:List (List Nat)}(h:Rt.bc 32 l=au "width"::a)(g:fR):fm g l=(match(au "width"::a:List (List Nat))with
  |[_,n]=>(match xB 20 100 n with
   |some n=>qB g g.width {g with width:=some n}
   |none=> .error 1)
  |_=> .error 1):=by
 unfold fm;rw[Rt.kc,h];dsimp only[kh];show QG rfl
def T2{l:List Nat}{a:List (List Nat)}(h:Rt.bc 32 l=au "width"::a):readLine l=mx "width" l a 20 100:=by rw[kn "width" _ QC h,QG rfl]
def Wz{l:List Nat}{a:List (List Nat)}(h:Rt.bc 32 l=au "lines"::a)(g:fR):fm g l=(match(au "lines"::a:List (List Nat))with
  |[_,n]=>(match xB 5 60 n with
   |some n=>qB g g.lines {g with lines:=some n}
   |none=> .error 1)
  |_=> .error 1):=by
 unfold fm;rw[Rt.kc,h];dsimp only[kh];show(QH QC).trans (QG rfl)
def TV{l:List Nat}{a:List (List Nat)}(h:Rt.bc 32 l=au "lines"::a):readLine l=mx "lines" l a 5 60:=by rw[kn "lines" _ QC h,QH QB,QG rfl]
def Wx{l:List Nat}{a:List (List Nat)}(h:Rt.bc 32 l=au "head"::a)(g:fR):fm g l=(if(au "head"::a).length<2\/uW (iy l)=false then .error 1 else qB g g.head {g with head:=some (iy l)}):=by unfold fm;rw[Rt.kc,h];dsimp only[kh];show(QH QC).trans ((QH QC).trans (QG rfl))
def TR{l:List Nat}{a:List (List Nat)}(h:Rt.bc 32 l=au "head"::a):readLine l=textLine "head" l:=by rw[kn "head" _ QC h,QH QB,QH QB,QH QB,QH QB,QH QB,QG QB]
def Ww{l:List Nat}{a:List (List Nat)}(h:Rt.bc 32 l=au "foot"::a)(g:fR):fm g l=(if(au "foot"::a).length<2\/uW (iy l)=false then .error 1 else qB g g.foot {g with foot:=some (iy l)}):=by unfold fm;rw[Rt.kc,h];dsimp only[kh];show(QH QC).trans ((QH QC).trans ((QH QC).trans (QG rfl)))
def TQ{l:List Nat}{a:List (List Nat)}(h:Rt.bc 32 l=au "foot"::a):readLine l=textLine "foot" l:=by rw[kn "foot" _ QC h,QH QB,QH QB,QH QB,QH QB,QH QB,QG QB]
def WD{l:List Nat}{a:List (List Nat)}(h:Rt.bc 32 l=au "text"::a)(g:fR):fm g l=(if(au "text"::a).length<2\/uW (iy l)=false then .error 1 else pd g (.para (iy l))):=by unfold fm;rw[Rt.kc,h];dsimp only[kh];show(QH QC).trans ((QH QC).trans ((QH QC).trans ((QH QC).trans (QG rfl))))
def TZ{l:List Nat}{a:List (List Nat)}(h:Rt.bc 32 l=au "text"::a):readLine l=textLine "text" l:=by rw[kn "text" _ QC h,QH QB,QH QB,QH QB,QH QB,QH QB,QG QB]
def WB{l:List Nat}{a:List (List Nat)}(h:Rt.bc 32 l=au "row"::a)(g:fR):fm g l=(match(au "row"::a:List (List Nat))with
  |[_,t]=>if eQ t=true then pd g (.row t)else .error 1
  |_=> .error 1):=by
 unfold fm;rw[Rt.kc,h];dsimp only[kh];show(QH QC).trans ((QH QC).trans ((QH QC).trans ((QH QC).trans ((QH QC).trans (QG rfl)))))
def TX{l:List Nat}{a:List (List Nat)}(h:Rt.bc 32 l=au "row"::a):readLine l=kH "row" l a 1:=by rw[kn "row" _ QC h,QH QB,QH QB,QG rfl]
def WC{l:List Nat}{a:List (List Nat)}(h:Rt.bc 32 l=au "table"::a)(g:fR):fm g l=(if(au "table"::a).length<2\/6+1<(au "table"::a).length\/((au "table"::a).drop 1).all eQ=false then .error 1 else pd g (.table ((au "table"::a).drop 1))):=by unfold fm;rw[Rt.kc,h];dsimp only[kh];show(QH QC).trans ((QH QC).trans ((QH QC).trans ((QH QC).trans ((QH QC).trans ((QH QC).trans (QG rfl))))))
def TY{l:List Nat}{a:List (List Nat)}(h:Rt.bc 32 l=au "table"::a):readLine l=kH "table" l a 6:=by rw[kn "table" _ QC h,QH QB,QH QB,QH QB,QG rfl]
def Wu{l:List Nat}{a:List (List Nat)}(h:Rt.bc 32 l=au "blank"::a)(g:fR):fm g l=(if(au "blank"::a).length=1 then pd g .blank else .error 1):=by unfold fm;rw[Rt.kc,h];dsimp only[kh];show(QH QC).trans ((QH QC).trans ((QH QC).trans ((QH QC).trans ((QH QC).trans ((QH QC).trans ((QH QC).trans (QG rfl)))))))
def TM{l:List Nat}{a:List (List Nat)}(h:Rt.bc 32 l=au "blank"::a):readLine l=(if a= []then some ⟨"blank",l,0,[],[]⟩else none):=by
 rw[kn "blank" _ QC h,QH QB,QH QB,QH QB,QH QB,QH QB,QH QB];by_cases c:a= []
 .rw[QG ⟨QB,c⟩,QG c]
 .rw[QH (λq=>c q.2),QH c]
def Wy{l:List Nat}{a:List (List Nat)}(h:Rt.bc 32 l=au "if"::a)(g:fR):fm g l=(match(au "if"::a:List (List Nat))with
  |[_,t]=>if eQ t=false then .error 1 else if 4<=g.deep then .error 3 else pd {g with deep:=g.deep+1} (.opens t)
  |_=> .error 1):=by
 unfold fm;rw[Rt.kc,h];dsimp only[kh];show(QH QC).trans ((QH QC).trans ((QH QC).trans ((QH QC).trans ((QH QC).trans ((QH QC).trans ((QH QC).trans ((QH QC).trans (QG rfl))))))))
def TU{l:List Nat}{a:List (List Nat)}(h:Rt.bc 32 l=au "if"::a):readLine l=kH "if" l a 1:=by rw[kn "if" _ QC h,QH QB,QH QB,QH QB,QH QB,QG rfl]
def Wv{l:List Nat}{a:List (List Nat)}(h:Rt.bc 32 l=au "end"::a)(g:fR):fm g l=(if(au "end"::a).length≠1 then .error 1 else if g.deep=0 then .error 3 else pd {g with deep:=g.deep-1} .closes):=by unfold fm;rw[Rt.kc,h];dsimp only[kh];show(QH QC).trans ((QH QC).trans ((QH QC).trans ((QH QC).trans ((QH QC).trans ((QH QC).trans ((QH QC).trans ((QH QC).trans ((QH QC).trans (QG rfl)))))))))
def TN{l:List Nat}{a:List (List Nat)}(h:Rt.bc 32 l=au "end"::a):readLine l=(if a= []then some ⟨"end",l,0,[],[]⟩else none):=by
 rw[kn "end" _ QC h,QH QB,QH QB,QH QB,QH QB,QH QB,QH QB];by_cases c:a= []
 .rw[QG ⟨QB,c⟩,QG c]
 .rw[QH (λq=>c q.2),QH c]
def WA{l u:List Nat}{a:List (List Nat)}(h:Rt.bc 32 l=u::a)(c:u≠au "width")(d:u≠au "lines")(e:u≠au "head")(f:u≠au "foot")(i:u≠au "text")(j:u≠au "row")(k:u≠au "table")(m:u≠au "blank")(n:u≠au "if")(o:u≠au "end")(g:fR):fm g l= .error 1/\readLine l=none:=by
 constructor
 .unfold fm;rw[Rt.kc,h];dsimp only[kh];show(QH c).trans ((QH d).trans ((QH e).trans ((QH f).trans ((QH i).trans ((QH j).trans ((QH k).trans ((QH m).trans ((QH n).trans (QH o)))))))))
 .rw[kn "" u (GN λx b=>?_) h]
  .rw[QH QB,QH QB,QH QB,QH QB,QH QB,QH QB,QH (λq=>absurd q.1 QB)]
  .unfold jr at b;simp only[bG,gz,or_false]at b;rcases b with rfl | rfl | rfl | rfl | rfl | rfl | rfl | rfl | rfl | rfl
   .show λq=>c (q.trans QC)
   .show λq=>d (q.trans QC)
   .show λq=>e (q.trans QC)
   .show λq=>f (q.trans QC)
   .show λq=>i (q.trans QC)
   .show λq=>j (q.trans QC)
   .show λq=>k (q.trans QC)
   .show λq=>m (q.trans QC)
   .show λq=>n (q.trans QC)
   .show λq=>o (q.trans QC)
def WY{l u:List Nat}{kind:Str}(h:Rt.bc 32 l= [u])(a:kind.length=u.length):textLine kind l=none:=by unfold textLine;rw[QG (by rw[Xi h,a])]
def WZ{l u v:List Nat}{r:List (List Nat)}{kind:Str}(h:Rt.bc 32 l=u::v::r)(b:kind.length=u.length):textLine kind l=match ir (iy l)with
  |none=>none
  |some c=>some ⟨kind,l,0,[],c⟩:=by
 have a:=La h;have d:l.length=u.length+(1+(iy l).length):=by
  conv=>lhs;rw[a]
  rw[aP,aG];lia
 have hd:l.drop (kind.length+1)=iy l:=by
  rw[b]
  conv=>lhs;rw[a]
  rw[List.drop_append,uB QA,show u.length+1-u.length=1 by lia];rfl
 unfold textLine;rw[QH QA,hd]
 try (cases ir (iy l)<;>rfl)
def zd{rd:fH}{e:dZ}(c:isSet e.kind=true):(hZ rd e).get e.kind=some e/\(∀k,k≠e.kind->(hZ rd e).get k=rd.get k)/\(hZ rd e).parts=rd.parts/\(hZ rd e).depth=rd.depth:=by
 have a:hZ rd e={rd with get:=λk=>if k=e.kind then some e else rd.get k,n:=rd.n+1}:=by unfold hZ;rw[QG c]
 rw[a];show⟨QG rfl,λk b=>QH b,rfl,rfl⟩
def Wt:au "head "=au "head"++[32]/\au "foot "=au "foot"++[32]/\au "text "=au "text"++[32]/\au "row "=au "row"++[32]/\au "if "=au "if"++[32]:=QC
def HP{e:dZ}{p:jA}(a:e.names= [])(b:e.aF= [])(c:¬ (e.kind="row"\/e.kind="if"))(d:mZ (rg e) p)(f:e.line=ll p):so e p:=⟨d,⟨by show ∀g∈e.aF,_;rw[b];show λ_ h=>absurd h gz,by show e.aF.length<=_;rw[b];show cT _,by show ∀n∈e.names,_;rw[a];show λ_ h=>absurd h gz,by show e.names.length<=_;rw[a];show cT _,λh=>absurd h c⟩,f⟩
def Cd{e:dZ}{p:jA}(b:e.names≠ [])(a:e.aF= [])(c:e.names.all eQ=true)(g:e.names.length<=6)(d:mZ (rg e) p)(f:e.line=ll p):so e p:=⟨d,⟨by show ∀j∈e.aF,_;rw[a];show λ_ h=>absurd h gz,by show e.aF.length<=_;rw[a];show cT _,λn i=>dE (vM (qj.mp c n i)) QB,dE g QB,λ_=>b⟩,f⟩
def zj{rd:fH}{g:fR}{l:List Nat}{e:dZ}{p:jA}(a:lT rd g)(j:isSet e.kind=false)(b:e.kind≠"if")(c:e.kind≠"end")(i:readLine l=some e)(d:so e p)(f:ib g.deep [p]=some g.deep)(k:fm g l=pd g p):ku rd g l:=
 Dl (bad:=False) (dn:=g.deep) a j i d (by rw[QH id];show k) ⟨λh=>h.elim,λh=>h.elim (λq=>c q.1) λq=>b q.1⟩ λ_=>⟨by rw[QH b,QH c,a.depth],f,a.four⟩
def Ky{rd:fH}{g:fR}{l:List Nat}{a:List (List Nat)}{kind:Str}{lo hi:Nat}(f:1<=lo)(h:hi<=999){α:Nat->Except Nat fR}(b:readLine l=mx kind l a lo hi)
  (d:fm g l=match a with
   |[n]=>(match xB lo hi n with
    |some n=>α n
    |none=> .error 1)
   |_=> .error 1)
  (k:∀n e,lo<=n->n<=hi->e.kind=kind->e.number=n->readLine l=some e->fm g l=α n->ku rd g l):ku rd g l:=by
 unfold mx at b
 match a,b,d with
 |[],b,d=>show jI b d
 |[x],b,d=>
  dsimp only at b d;rw[Rr f h]at d;by_cases c:(lo:Int)<=gx x/\gx x<=(hi:Int)
  .rw[QG c]at b d;show k (gx x).toNat _ QA QA rfl rfl b d
  .rw[QH c]at b d;show jI b d
 |x::y::r,b,d=>show jI b d
def Dm{rd:fH}{g:fR}{l u:List Nat}{a:List (List Nat)}{kind:Str}{α:Except Nat fR}(h:Rt.bc 32 l=u::a)(f:kind.length=u.length)(b:readLine l=textLine kind l)
  (c:fm g l=if(u::a).length<2\/uW (iy l)=false then .error 1 else α)
  (k:∀e,e.kind=kind->e.line=l->e.names= []->l=(u++[32])++iy l->ir (iy l)=some e.aF->readLine l=some e->fm g l=α->ku rd g l):ku rd g l:=by
 cases a with
 |nil=>rw[WY h f]at b;rw[QG (.inl QD)]at c;show jI b c
 |cons v r=>
  have d:=(DC (iy l)).1;have i:=La h;rw[WZ h f]at b;cases e:ir (iy l)with
  |none=>rw[e]at d b;rw[QG (.inr d.symm)]at c;show jI b c
  |some j=>rw[e]at d b;rw[QH (λq=>q.elim (λq=>by rw[aG,aG]at q;lia) λq=>by rw[<-d]at q;show Bool.noConfusion (show true=false from q))]at c;show k ⟨kind,l,0,[],j⟩ rfl rfl rfl (by rw[eZ];show i) e b c
def Q0{rd:fH}{g:fR}(b:lT rd g)(l:List Nat):ku rd g l:=by
 cases h:Rt.bc 32 l with
 |nil=>show absurd h (Rt.j8 _ _)
 |cons u a=>
 have o:l=lr (u::a):=by rw[Kv,<-h,join_split]
 obtain⟨I,J,L,M,N⟩:=Wt;by_cases O:u=au "width"
 .subst O;show Ky (kind:="width") (lo:=20) (hi:=100) (α:=λn=>qB g g.width {g with width:=some n}) QB QB (T2 h) ?_ λn e C E i s k m=>?_
  .rw[WE h]
   match a with
   |[]=>rfl
   |[_]=>rfl
   |_::_::_=>rfl
  .have j:isSet e.kind=true:=by rw[i];decide
   obtain⟨f1,f2,A,B⟩:=zd (rd:=rd) j;rw[i]at f1 f2;show zk b j k (by rw[i];show Ha b.width) m ⟨⟨e,f1,s,C,E⟩,by rw[f2 _ QB];show b.lines,by rw[f2 _ QB];show b.head,by rw[f2 _ QB];show b.foot,by rw[A];show b.parts,by rw[B];show b.depth,b.deep,b.four,b.d6⟩
 by_cases Q:u=au "lines"
 .subst Q;show Ky (kind:="lines") (lo:=5) (hi:=60) (α:=λn=>qB g g.lines {g with lines:=some n}) QB QB (TV h) ?_ λn e C E i s k m=>?_
  .rw[Wz h]
   match a with
   |[]=>rfl
   |[_]=>rfl
   |_::_::_=>rfl
  .have j:isSet e.kind=true:=by rw[i];decide
   obtain⟨f1,f2,A,B⟩:=zd (rd:=rd) j;rw[i]at f1 f2;show zk b j k (by rw[i];show Ha b.lines) m ⟨by rw[f2 _ QB];show b.width,⟨e,f1,s,C,E⟩,by rw[f2 _ QB];show b.head,by rw[f2 _ QB];show b.foot,by rw[A];show b.parts,by rw[B];show b.depth,b.deep,b.four,b.d6⟩
 by_cases R:u=au "head"
 .subst R;show Dm (kind:="head") h QC (TR h) (Wx h g) λe i G s F D k m=>?_;have j:isSet e.kind=true:=by rw[i];decide
  obtain⟨f1,f2,A,B⟩:=zd (rd:=rd) j;rw[i]at f1 f2;show zk b j k (by rw[i];show K1 b.head) m ⟨by rw[f2 _ QB];show b.width,by rw[f2 _ QB];show b.lines,⟨e,f1,by rw[G,I];show F,D⟩,by rw[f2 _ QB];show b.foot,by rw[A];show b.parts,by rw[B];show b.depth,b.deep,b.four,b.d6⟩
 by_cases S:u=au "foot"
 .subst S;show Dm (kind:="foot") h QC (TQ h) (Ww h g) λe i G s F D k m=>?_;have j:isSet e.kind=true:=by rw[i];decide
  obtain⟨f1,f2,A,B⟩:=zd (rd:=rd) j;rw[i]at f1 f2;show zk b j k (by rw[i];show K1 b.foot) m ⟨by rw[f2 _ QB];show b.width,by rw[f2 _ QB];show b.lines,by rw[f2 _ QB];show b.head,⟨e,f1,by rw[G,J];show F,D⟩,by rw[A];show b.parts,by rw[B];show b.depth,b.deep,b.four,b.d6⟩
 by_cases T:u=au "text"
 .subst T;show Dm (kind:="text") h QC (TZ h) (WD h g) λe i G s F D k m=>?_;show cY (Cg D) λp1 p2 _=>?_;show zj (p:= .para (iy l)) b (by rw[i];decide) (by rw[i];decide) (by rw[i];decide) k ⟨⟨i,D⟩,⟨p1,p2,by show ∀n∈e.names,_;rw[s];show λ_ h=>absurd h gz,by show e.names.length<=_;rw[s];show cT _,λq=>?_⟩,?_⟩ rfl m
  .rcases q with q | q
   .rw[show e.kind="row"from q]at i;show absurd i QB
   .rw[show e.kind="if"from q]at i;show absurd i QB
  .show e.line=au "text "++iy l;rw[G,L];show F
 by_cases U:u=au "row"
 .subst U;have f:=TX h;have d:=WB h g
  match a,h,o,f,d with
  |[],_,_,f,d=>show jI f d
  |x::y::r,_,_,f,d=>show jI ?_ d;rw[f];show QG (.inr (.inl QD))
  |[t],_,o,f,d=>
   dsimp only at d;cases c:eQ t with
   |false=>rw[c]at d;show jI (by rw[f];show QG (.inr (.inr (by simp[c])))) d
   |true=>rw[QG c]at d;show zj (p:= .row t) (e:=⟨"row",l,0,[t],[]⟩) b (show isSet ("row":Str)=false by decide) (show("row":Str)≠"if"by decide) (show("row":Str)≠"end"by decide) (by rw[f];show QH (by simp[c])) (Cd QD rfl (by simp[c]) QD ⟨rfl,rfl,c⟩ ?_) rfl d;show l=au "row "++t;rw[M,eZ];show o
 by_cases V:u=au "table"
 .subst V;have f:=TY h;have d:=WC h g;unfold kH at f;rw[aG,List.drop_succ_cons,D2]at d;by_cases c:a= []\/6<a.length\/a.all eQ=false
  .rw[QG c]at f;rw[QG ?_]at d
   .show jI f d
   .rcases c with c | c | c
    .show .inl (by rw[c];decide)
    .show .inr (.inl QA)
    .show .inr (.inr c)
  .have C:a≠ []:=λq=>c (.inl q);have E:a.length<=6:=by
    by_cases q:6<a.length
    .show absurd (.inr (.inl q)) c
    .lia
   have H:a.all eQ=true:=by
    cases q:a.all eQ with
    |true=>rfl
    |false=>show absurd (.inr (.inr q)) c
   have n4:0<a.length:=qo.mpr C;rw[QH c]at f;rw[QH (by rw[H];simp;lia)]at d;show zj (p:= .table a) (e:=⟨"table",l,0,a,[]⟩) b (show isSet ("table":Str)=false by decide) (show("table":Str)≠"if"by decide) (show("table":Str)≠"end"by decide) f (Cd C rfl H E ⟨rfl,rfl,H,C,E⟩ o) rfl d
 by_cases W:u=au "blank"
 .subst W;have f:=TM h;have d:=Wu h g;cases a with
  |nil=>show zj (p:= .blank) (e:=⟨"blank",l,0,[],[]⟩) b (show isSet ("blank":Str)=false by decide) (show("blank":Str)≠"if"by decide) (show("blank":Str)≠"end"by decide) f (HP rfl rfl (show ¬ (("blank":Str)="row"\/("blank":Str)="if")by decide) rfl o) rfl d
  |cons v r=>show jI (f.trans (QH QD)) (d.trans (QH QD))
 by_cases X:u=au "if"
 .subst X;have f:=TU h;have d:=Wy h g
  match a,h,o,f,d with
  |[],_,_,f,d=>show jI f d
  |x::y::r,_,_,f,d=>show jI ?_ d;rw[f];show QG (.inr (.inl QD))
  |[t],_,o,f,d=>
   dsimp only at d;cases c:eQ t with
   |false=>rw[QG c]at d;show jI (by rw[f];show QG (.inr (.inr (by simp[c])))) d
   |true=>
    rw[QH (by rw[c];show λz=>nomatch z)]at d;have h4:=b.four;have hd:=b.depth;show Dl (p:= .opens t) (e:=⟨"if",l,0,[t],[]⟩) b (show isSet ("if":Str)=false by decide) (by rw[f];show QH (by simp[c])) (Cd QD rfl (by simp[c]) QD ⟨rfl,rfl,c⟩ ?_) d ⟨λq=> .inr ⟨rfl,QA⟩,λq=>?_⟩ λq=>⟨?_,QH q,QA⟩
    .show l=au "if "++t;rw[N,eZ];show o
    .rcases q with q | q
     .show absurd (show("if":Str)="end"from q.1) QB
     .have:=q.2;lia
    .show g.deep+1=if("if":Str)="if"then rd.depth+1 else _;rw[QG rfl,hd]
 by_cases Y:u=au "end"
 .subst Y;have f:=TN h;have d:=Wv h g;cases a with
  |nil=>
   have h4:=b.four;have hd:=b.depth;rw[QH QD]at d;show Dl (p:= .closes) (e:=⟨"end",l,0,[],[]⟩) b (show isSet ("end":Str)=false by decide) f (HP rfl rfl (show ¬ (("end":Str)="row"\/("end":Str)="if")by decide) rfl o) d ⟨λq=> .inl ⟨rfl,QA⟩,λq=>?_⟩ λq=>⟨?_,QH q,QA⟩
   .rcases q with q | q
    .have:=q.2;lia
    .show absurd (show("end":Str)="if"from q.1) QB
   .show g.deep-1=if("end":Str)="if"then rd.depth+1 else if("end":Str)="end"then rd.depth-1 else rd.depth;rw[QH QB,QG rfl,hd]
  |cons v r=>show jI (f.trans (QH QD)) (d.trans (QG QD))
 obtain⟨Z,h2⟩:=WA h O Q R S T U V W X Y g;show jI h2 Z
def LK(x:fH×Nat×Nat)(y:Except (Nat×Nat) fR):Prop:=match y with
 |.error e=>x.2=e/\e.2≠0
 |.ok g=>x.2=(0,0)/\lT x.1 g/\g.deep=0
def Cq:∀(d:List (List Nat))(i:Nat)(rd:fH)(g:fR),lT rd g->LK (jH i rd d) (xG i g d)
 |[],i,rd,g,a=>by
  unfold jH xG;rw[a.depth];by_cases c:g.deep=0
  .rw[QG c,QH QA];show⟨rfl,a,c⟩
  .rw[QH c,QG QA];show⟨rfl,show 3≠0 by decide⟩
 |l::d,i,rd,g,a=>by
  unfold jH xG;by_cases c:l= []\/l.head? =some 35
  .rw[QG c,QG (c.imp (λq=>by rw[q];rfl) id)];show Cq d (i+1) rd g a
  .rw[QH c,QH (show ¬ (l.isEmpty=true\/l.head? =some 35)from λq=>c (q.imp List.isEmpty_iff.mp id))];have b:=Q0 a l;unfold ku at b;cases e:fm g l with
   |error x=>rw[e]at b;obtain⟨h,f⟩:=b;rw[h,QG f];show⟨rfl,f⟩
   |ok k=>rw[e]at b;obtain⟨h,j,f,m⟩:=b;rw[h,QH QB,f];show Cq d (i+1) (hZ rd j) k m
def Wb:lT oC {}:=⟨rfl,rfl,rfl,rfl,.nil,rfl,rfl,cT _,cT _⟩
def oh(g:fR):iZ:={width:=g.width.getD 60,lines:=g.lines.getD 40,head:=g.head,foot:=g.foot,parts:=g.parts}
def KU(rd:fH):eS:=⟨pL (rd.get "width") 60,pL (rd.get "lines") 40,(rd.get "head").map (·.aF),(rd.get "foot").map (·.aF),rd.parts.map rg⟩
def G9{lo hi d:Nat}{o:Option dZ}{x:Option Nat}(h:NumIs lo hi o x)(a:lo<=d)(b:d<=hi):pL o d=x.getD d/\lo<=x.getD d/\x.getD d<=hi:=by
 cases x with
 |none=>rw[show o=none from h];show⟨rfl,a,b⟩
 |some n=>show sV h λe c f g i=>?_;clear h;rw[c];show⟨f,g,i⟩
def zp{k:List Nat}{o:Option dZ}{x:Option (List Nat)}(h:xA k o x):oR (o.map (·.aF)) x/\o.map (·.line)=x.map λb=>k++b:=by
 cases x with
 |none=>rw[show o=none from h];show⟨rfl,rfl⟩
 |some b=>show bA h λe a c d=>?_;clear h;rw[a];show⟨⟨_,d,rfl⟩,by show some e.line=some (k++b);rw[c]⟩
def HD{α β γ:Type}{F:β->γ->Prop}{f:α->β}:∀{l:List α}{m:List γ},Paired (λa c=>F (f a) c) l m->Paired F (l.map f) m
 |_,_,.nil=> .nil
 |_,_,.cons h t=> .cons h (HD t)
def PZ{rd:fH}{g:fR}(a:lT rd g)(c:g.deep=0):lZ (KU rd) (oh g):=by obtain⟨l,m,n⟩:=G9 (d:=60) a.width QB QB;obtain⟨i,j,k⟩:=G9 (d:=40) a.lines QB QB;show⟨l,i,(zp a.head).1,(zp a.foot).1,HD (Paired.dS a.parts λ_ _ q=>q.is),⟨m,n⟩,⟨j,k⟩,a.d6,a.deep.trans (by rw[c]),λx h=>?_⟩;show ai (dM.mp h) λe f b=>?_;subst b;show ai (HE a.parts f) λq _ r=>?_;show r.ok
def GX{es:List dZ}{a:List jA}:Paired so es a->es.map (·.line)=a.map ll
 |.nil=>rfl
 |.cons h t=>by rw[eD,eD,h.line,GX t]
def eO.LP{R:List ab}{f H H':Hp}{v:ab}{h:bz}{L T A S b:ab}{k g s d:List ab}{x:iZ}(aA:kP {h with templates:=h.templates++[x]})(I:ah f H)
  (U:(T::A::S::d).Nodup) (h2:off (T::A::S::d) f v=some (.ins ad.jh L (nv (.ref T) (.ref A) (.ref S)))) (W:f T=some (.lst (k.map V.ref))) (h4:Paired (l7 ad (off (T::A::S::d) f)) k h.templates) (X:f A=some (.lst (g.map V.ref))) (Y:f S=some (.lst (s.map V.ref))) (h7:Paired (kr ad (off (T::A::S::d) f)) s h.sent) (h8:g.length=h.answers.length) (h9:d.length=h.answers.length)
  (t:∀(i:Nat)(x:dg),h.answers[i]? =some x->∃a vl,g[i]? =some a/\d[i]? =some vl/\lM ad f (T::A::S::d) a vl i x)
  (Z:∀b o,H b=some o->b≠T->H' b=some o) (hT:H' T=some (.lst ((k++[b]).map V.ref))) {D:Hp} (hX:l7 ad (nw [] H D) b x) (s1:∀c o,D c=some o->c≠T->H' c=some o):
  eO ad (gm R f H H') v {h with templates:=h.templates++[x]}:=by
 have keep:=x8 (R:=R) (H':=H') (M:=T::A::S::d) (M':=T::A::S::d) I (λb hb=> .inl hb) λc o e n=>Z c o e (λz=>n (by simp[z]));have j:=U;simp only[mU,bG,not_or]at j;have own:∀{c:ab}{o:HO},f c=some o->c≠T->gm R f H H' c=some o:=λe n=>by rw[og e];show Z _ _ (I _ _ e) n
 have F:∀m∈T::A::S::d,f m≠none:=λm hm=>by
  simp only[bG]at hm;rcases hm with z | z | z | z
  .rw[z,W];show λz=>nomatch z
  .rw[z,X];show λz=>nomatch z
  .rw[z,Y];show λz=>nomatch z
  .obtain⟨i,hi,G⟩:=oU.mp z;obtain⟨w,hw⟩:∃w,h.answers[i]? =some w:=⟨_,dA QA⟩;show bp (t i w hw) λa B C r l=>jb l λN tl ul vs f1 f2 O E Q=>?_;clear l;rw[dA hi,G]at r;cases r;rw[E];show λz=>nomatch z
 have new:ah (nw [] H D) (off (T::A::S::d) (gm R f H H')):=λc o e=>by obtain⟨C,r⟩:=my e;have u:H c=none:=r.elim id λz=>absurd z QD;have n2:c∉T::A::S::d:=λz=>F c z (I.free u);rw[off_ne n2,oe u];show s1 c o C (λz=>n2 (by simp[z]))
 show⟨⟨L,T,A,S,k++[b],g,s,d,U,keep _ _ h2,by rw[og W];show hT,L2.Paired.snoc (hX.mono new) (Paired.dS h4 λ_ _ q=>q.mono keep),own X (λz=>j.1.1 z.symm),own Y (λz=>j.1.2.1 z.symm),Paired.dS h7 λ_ _ q=>q.mono keep,h8,h9,λi y hy=>?_⟩,aA⟩;show bp (t i y hy) λa B C r p=>jb p λN tl ul J f1 f2 O E Q=>?_;clear p;show aZ a B ⟨C,r,eY N tl ul J ⟨keep _ _ f1,keep _ _ f2,keep _ _ O,own E (λz=>j.1.2.2 (z▸dD r)),Paired.dS Q λ_ _ q=>q.mono keep⟩⟩
def kf.part{H:Hp}{a:ab}{e:dZ}:kf ad H a e->nc ad H a (rg e):=λb=>kA b λc k h i d j f g=>⟨c,h,i,_,d,rfl,rfl,rfl,f,g⟩
def kf.GW{H:Hp}{a:ab}{e:dZ}:kf ad H a e->qh ad H a e.line:=λ⟨b,f,i,j,c,d,g,h⟩=>⟨b,f,_,c,rfl,d⟩
def jS.yF{H:Hp}{ks:List (Key×V)}{b:Str}{o:Option dZ}(h:jS ad H ks b o):mW ad H (o.map (·.aF)) ((dm ks (.inr b)).getD .a9)/\qy ad H (o.map (·.line)) ((dm ks (.inr b)).getD .a9):=by
 cases o with
 |none=>rw[show dm ks (.inr b)=none from h];show⟨rfl,rfl⟩
 |some e=>show ai h λa f c=>?_;clear h;rw[f];have g:=c.GW;show kA c λd l m i j n p k=>?_;clear c;show⟨⟨a,d,i,_,rfl,j,rfl,k⟩,⟨a,rfl,g⟩⟩
def Ws{H:Hp}{pl x dy:ab}{rd:fH}{g:fR}{ks:List (Key×V)}{ps:List ab}(d:lT rd g)(n:g.deep=0)
  (k:H x=some (.ins ad.Template dy (Dy (vn (pL (rd.get "width") 60)) (vn (pL (rd.get "lines") 40)) ((dm ks (.inr "head")).getD .a9) ((dm ks (.inr "foot")).getD .a9) (.ref pl))))
  (e:∀c,jS ad H ks c (rd.get c)) (j:H pl=some (.lst (ps.map V.ref))) (a:Paired (kf ad H) ps rd.parts):l7 ad H x (oh g):=by
 have f:=PZ d n;show⟨KU rd,ps,⟨dy,pl,_,_,_,k,rfl,rfl,rfl,rfl,rfl,(e "head").yF.1,(e "foot").yF.1,j,?_⟩,f,⟨dy,pl,(dm ks (.inr "head")).getD .a9,(dm ks (.inr "foot")).getD .a9,ps,?_,?_,?_,j,?_⟩⟩
 .have:∀{l:List ab}{m:List dZ},Paired (kf ad H) l m->Paired (nc ad H) l (m.map rg):=λ{l m} h=>by
   induction h with
   |nil=>show .nil
   |cons h t i=>show .cons h.part i
  show this a
 .rw[<-f.width,<-f.lines];show k
 .rw[show(oh g).head.map (λb=>au "head "++b)=(rd.get "head").map (·.line)from(zp d.head).2.symm];show(e "head").yF.2
 .rw[show(oh g).foot.map (λb=>au "foot "++b)=(rd.get "foot").map (·.line)from(zp d.foot).2.symm];show(e "foot").yF.2
 .rw[show(oh g).parts.map ll=rd.parts.map (·.line)from(GX d.parts).symm];have:∀{l:List ab}{m:List dZ},Paired (kf ad H) l m->Paired (qh ad H) l (m.map (·.line)):=λ{l m} h=>by
   induction h with
   |nil=>show .nil
   |cons h t i=>show .cons h.GW i
  show this a
def qZ{p:Int}{a b:Int}(c:0<=a)(h:dQ p a b=true):∃n:Nat,p=(n:Int)/\(n:Int)<=b:=by unfold dQ at h;rw[eC,QK,QK]at h;show⟨p.toNat,QA,QA⟩
def XB(G:bh K mg ad):bu P w K mg base 9 "preview_report" ["laboratory","call"] (iF ad Bh):=by
 show G.OC.has y6 (λvs H Q E h=>?_) (λf c4 A b7 s H vs Q E N h=>?_)
 .revert h;intro q;show iM q λb5 c h h' kind stop nums b8 rows u H0 g _=>?_;subst q g;rfl
 .revert h;intro r;show i9 r λb5 c h h' kind stop nums b8 rows u H0 g m F C b2 d3 a k=>?_;subst r g;obtain⟨cx,na,ra,hc,B,d1⟩:=C;obtain⟨i,p,d,rfl,rfl,b3⟩:∃i p d,nums= [i,p,d]/\rows= []/\dF h (.preview i p d)=(h',u):=by obtain⟨_,_,_,Z,a⟩:=sJ a;obtain⟨a0,a⟩:=fE a;show aJ _ _ _ ⟨Z,a0,df.inj a⟩
  clear a;show ml ((m.mono F).ex) λdx T A' S e3 c3 e0 e4 h1 h2 h3 h4 h5 h6 h7 h8 h9 c6=>?_;show mj ((m.mH.mono F).ex) λc5 t' aa sl I c0 a3 a4 a5 _ _=>?_;have g1:=fX _ _ h2;have M:=Paired.length h4;show⟨_,(ak (stX 2 y6.nd (cz (cX K) (ax K (pv 1)) aD (λ_ _=>rfl)))
 (ak (stX 3 y6.nd (cz (cX K) (ax K (pv 1)) aD (λ_ _=>rfl)))
 (ak (stX 4 y6.nd (cz (cX K) (ax K (pv 1)) aD (λ_ _=>rfl)))
 (ak (bL (fZ (PW.pt (gS (ez (pqX (mz G) N (ae (ax K (pv 0)) (ae (pv 2) ag)))) (gS (ez (pqX (yz G) N (ae (pv 3) ag))) (ju (ez (pqX (yx G) N (ae (pv 4) ag))))))))
  (aq (aK (bt (ae (gi G.jW) ag))))
  de)
 (aq (aK (cU mC (bt (ae aD ag)) (pqX (ow G) N (ae (ax K (pqX (Hm G) N (ae (cz (cX K) (ax K (pv 0)) (pv 2) (λ_ _=>rfl)) (ae (ax K (pv 0)) (ae (pv 3) (ae (pv 4) ag)))))) ag))))))))),?_⟩
  dsimp only[bg,bf,a8,aB,tC,aY,L2.start,aX,aU,aV,aW,d5,d4];show aCallX G hc ?_;show dk (v:= .int i) (aj.of B) (fu rfl) ?_;show aCallX G hc ?_;show dk (v:= .int p) (aj.of B) (at_of (j:=1) rfl rfl) ?_;show aCallX G hc ?_;show dk (v:= .int d) (aj.of B) (at_of (j:=2) rfl rfl) ?_;lk;show aLaboratoryX G g1 ?_;show aJ T _ i ⟨rfl,h3,?_⟩;rw[ay,M];show ?_;lk;have a:qC h i (λx=>if(dQ p 1 1000000000&&dQ d 0 100000)=false then jl h (-1)else(h,0::ei (uU (ng x h.answers p.toNat d.toNat))))=(h',u):=b3;unfold qC at a;show mi (λX=>?_) (λX=>?_)
  .rw[QG X]at a;show eG (eF a F m k)
  rw[QH (by rw[X];show λz=>nomatch z)]at a;show ai (kL X) λj e hj=>?_;subst e;obtain⟨x,hx⟩:∃x,h.templates[j]? =some x:=⟨_,dA hj⟩;rw[eN,hx]at a;dsimp only at a;exists p,rfl;cases U:dQ p 1 1000000000 with
  |false=>rw[QG (by rw[U];rfl)]at a;show eG (eF a F m k)
  |true=>
  try rw[QG rfl]
  exists d,rfl;show ky (λW=>?_) (λW=>?_)
  .rw[QG (by rw[U,W];rfl)]at a;show eG (eF a F m k)
  rw[U,W,QH QB]at a;show ai (qZ QB U) λpn e c9=>?_;subst e;show ai (qZ QB W) λY e c7=>?_;subst e;rw[eN,eN]at a;replace k:=kE a k;have o:pn<=1000000000:=QA;have n:Y<=100000:=QA;show ai (Paired.get h4 hx) λb hb t=>bp t λPT ps y L _=>?_;clear t;have y:=y.mono fX;have J:=m.ok.iO;have l:=BF m.ok.good J o n L;obtain⟨b0,_⟩:=B7 L h.answers pn Y l.room l.turns;have O:=l.total;show⟨by rw[aQ];decide,λq0 b1=>?_⟩;generalize e1:upd H q0 _=H1;have D:=sN e1 b1;have v1:H1 q0=some (.lst ([(0:Int)].map V.int)):=vN e1;show(show a7 (Kr ad) [] E0 (aL (a8 (we K) (gb K (aB 0) "templates") (aB 2)) (aL (gb K (aB 0) "answers") (aL (aB 3) (aL (aB 4) aR)))) _ _ _ from ?_);dsimp only[a7,aL,aR,a8,aB,aX,aU,aV,aW,d5,d4];show aLaboratoryX G (D _ _ g1) ?_;show(.inl ⟨T,_,_,.ref b,rfl,rfl,aj.of (D _ _ h3),at_of rfl (lH hb),?_⟩);show aLaboratoryX G (D _ _ a3) ?_;show gy b aa pn Y h.answers PT ps I ⟨rfl,y.mono D,D _ _ a4,a5.mono D,QA,o,n,l.ok,λla dl fa rl sh H2 c8 s2 b4 d2 d8 R e2=>?_⟩;show gD la _ dl _ _ ⟨rfl,b4,G.vI.cl,G.nZ _ QC,rfl,?_⟩;rw[<-b0]at R O;show rL R QA λq5 H5 f5 s5 v5=>?_;show xP ((s2.trans s5) _ _ v1) v5 (by rw[pT,aG,aG,dC,jG];lia) (iD (D.trans (s2.trans s5)) ?_);show reads F m k
def tU(h:bz)(x:iZ)(p d r:Nat):lg:={kind:=0,reader:=r,person:=p,bytes:=uU (ng x h.answers p d),pages:=(ng x h.answers p d).length,tells:=(qE x h.answers p d).map λa=>(a,gf h a)}
def Xy(G:bh K mg ad):bu P w K mg base 10 "issue_report" ["laboratory","call"] (iF ad Be):=by
 show G.Of.has tZ (λvs H Q E h=>?_) (λf g7 A f7 s H vs Q E hr h=>?_)
 .revert h;intro X;show iM X λa5 c h h' kind stop nums L rows ans H0 t _=>?_;subst X t;rfl
 .revert h;intro Y;show i9 Y λa5 c h h' kind stop nums L rows ans H0 t D I b0 e4 i2 g k=>?_;subst Y t;obtain⟨cx,na,ra,hc,J,i0⟩:=b0;obtain⟨i,p,d,rd,rfl,rfl,e5⟩:∃i p d r,nums= [i,p,d,r]/\rows= []/\dF h (.issue i p d r)=(h',ans):=by obtain⟨_,_,_,_,d3,g⟩:=ER g;obtain⟨d8,g⟩:=fE g;show eY _ _ _ _ ⟨d3,d8,df.inj g⟩
  clear g;have hu:=hr.units;show ml D.ex λdx T A' S i3 g4 f9 j1 h1 h2 h3 h4 h5 h6 h7 h8 h9 e0=>?_;have g1:=I _ _ (fX _ _ h2);have g3:=I _ _ h3;have g6:=I _ _ h6;have c5:=Paired.length h4;have c8:=Paired.length h7;show⟨_,(ak (stX 2 tZ.nd (cz (cX K) (ax K (pv 1)) aD (λ_ _=>rfl)))
 (ak (stX 3 tZ.nd (cz (cX K) (ax K (pv 1)) aD (λ_ _=>rfl)))
 (ak (stX 4 tZ.nd (cz (cX K) (ax K (pv 1)) aD (λ_ _=>rfl)))
 (ak (stX 5 tZ.nd (cz (cX K) (ax K (pv 1)) aD (λ_ _=>rfl)))
 (ak (bL (fZ (PW.pt (gS (ez (pqX (mz G) hr (ae (ax K (pv 0)) (ae (pv 2) ag)))) (gS (ez (pqX (yz G) hr (ae (pv 3) ag))) (gS (ez (pqX (yx G) hr (ae (pv 4) ag))) (ju (ez (pqX (BY G) hr (ae (pv 5) ag)))))))))
  (aq (aK (bt (ae (gi G.jW) ag))))
  de)
 (ak (bL (cW (fz K hu) (di (eK K) QE G.dN dO (ae (ax K (pv 0)) ag)) (gi G.Ff) QE)
  (aq (aK (bt (ae (gi G.vd) ag))))
  de)
 (ak (stX 6 tZ.nd (pqX (RQ G) hr (ae (pv 0) (ae (cz (cX K) (ax K (pv 0)) (pv 2) (λ_ _=>rfl)) (ae (pv 3) (ae (pv 4) (ae (pv 5) ag)))))))
 (ak (dR (gI K (ax K (pv 0)) (pv 6)))
 (aq (aK (bt (ae aD (ae (cU lF (di (eK K) QE G.dN dO (ae (ax K (pv 0)) ag)) aD) (ae (ax K (pv 6)) ag)))))))))))))),?_⟩
  dsimp only[bg,bf,a8,aB,tC,aY,L2.start,aX,aU,aV,aW,d5,d4];show aCallX G hc ?_;show dk (v:= .int i) (aj.of J) (fu rfl) ?_;show aCallX G hc ?_;show dk (v:= .int p) (aj.of J) (at_of (j:=1) rfl rfl) ?_;show aCallX G hc ?_;show dk (v:= .int d) (aj.of J) (at_of (j:=2) rfl rfl) ?_;show aCallX G hc ?_;show dk (v:= .int rd) (aj.of J) (at_of (j:=3) rfl rfl) ?_;lk;show aLaboratoryX G g1 ?_;show aJ T _ i ⟨rfl,g3,?_⟩;rw[ay,c5];show ?_;lk;have g:qC h i (λx=>if((dQ p 1 1000000000&&dQ d 0 100000)&&dQ rd 0 19)=false then jl h (-1)else if 40<=h.sent.length then jl h (-6)else({h with sent:=h.sent++[tU h x p.toNat d.toNat rd.toNat]},[0,(h.sent.length:Int),((ng x h.answers p.toNat d.toNat).length:Int)]))=(h',ans):=e5;unfold qC at g;show mi (λcw=>?_) (λcw=>?_)
  .rw[QG cw]at g;show eG (eF g I D k)
  rw[QH (by rw[cw];show λz=>nomatch z)]at g;show ai (kL cw) λj l hj=>?_;subst l;obtain⟨x,hx⟩:∃x,h.templates[j]? =some x:=⟨_,dA hj⟩;rw[eN,hx]at g;dsimp only at g;exists p,rfl;show mi (λc1=>?_) (λc1=>?_)
  .rw[QG (by rw[c1];rfl)]at g;show eG (eF g I D k)
  exists d,rfl;show mi (λc2=>?_) (λc2=>?_)
  .rw[QG (by rw[c1,c2];rfl)]at g;show eG (eF g I D k)
  exists rd,rfl;show ky (λc4=>?_) (λc4=>?_)
  .rw[QG (by rw[c1,c2,c4];rfl)]at g;show eG (eF g I D k)
  rw[c1,c2,c4,QH QB]at g;lk;show aLaboratoryX G g1 ?_;exists _,.inl ⟨_,aj.of g6,rfl⟩;rw[ay,c8];have g0:=D.ok.Bp;by_cases c3:40<=h.sent.length
  .rw[QG c3]at g;show dw (QI QA) ?_;show eG (eF g I D k)
  rw[QH c3]at g;show dJ (QJ QA) ?_;show ai (qZ QB c1) λB l g9=>?_;subst l;show ai (qZ QB c2) λu l g8=>?_;subst l;show ai (qZ QB c4) λrn l i1=>?_;subst l;rw[eN,eN,eN]at g;replace k:=kE g k;have W:B<=1000000000:=QA;have O:u<=100000:=QA;show ai (Paired.get h4 hx) λtb e8 Z=>bp Z λPT ps a3 a0 _=>?_;clear Z;have a3:=(a3.mono fX).mono I;have b7:=D.ok.iO;have C:=BF D.ok.good b7 W O a0;obtain⟨c7,a4⟩:=B7 a0 h.answers B u C.room C.turns;obtain⟨e9,e6⟩:=UO D.ok a0 B u (dG (dH h.answers B u) B u PT) C.one;have c9:=C.total;have c6:=C.pages;show aLaboratoryX G g1 ?_;show dk (v:= .ref tb) (aj.of g3) (at_of rfl (lH e8)) ?_;show gy a5 tb B u rn h.answers h.sent PT ⟨ps,rfl,D.mH.mono I,a3,W,O,C.ok,λb H1 s1 fb e2=>?_⟩;show gJ (id e2) λd2 rl td b1 b2 b3=>?_;have d1:=jt _ _ b1;have g5:=jt _ _ b3;rw[<-c7]at b2;rw[<-a4]at b1;have e3:kr ad (nw [] H H1) b (tU h x B u rn):=⟨d2,rl,td,_,b1,b2,b3,e9⟩;show aLaboratoryX G (s1 _ _ g1) ?_;show⟨.inl ⟨rfl,_,aj.of (s1 _ _ g6)⟩,aJ S _ _ ⟨rfl,rfl,s1 _ _ g6,by rw[ay,aQ];lia,?_⟩⟩;generalize e7:upd H1 S _=N;have k7:∀m,m≠S->N m=H1 m:=λm U=>by rw[<-e7,az U]
  have v7:N S=some (.lst ((f9++[b]).map V.ref)):=by rw[<-e7,ar,hY]
  have hk:∀m o,H m=some o->m≠S->N m=some o:=λm o e n=>by rw[k7 m n];show s1 _ _ e
  have c0:∀m o,H1 m=some o->m≠S->N m=some o:=λm o e n=>by rw[k7 m n];show e
  have f5:b≠S:=λz=>by rw[z,g6]at fb;cases fb
  have f6:a5≠S:=kI g1 g6 (λz=>nomatch z);have aA:kP {h with sent:=h.sent++[tU h x B u rn]}:=by
   obtain⟨o1,o2,o3,o4,o5,o6⟩:=D.ok;show⟨o1,o2,by show(h.sent++_).length<=40;rw[aP,aG,dC];lia,o4,λs F y hy=>?_,λs F=>?_⟩
   .rcases eA.mp F with F | F
    .show o5 s F y hy
    .obtain rfl:s=tU h x B u rn:=by simpa using F
     show ai (dM.mp (show y∈(qE x h.answers B u).map λa=>(a,gf h a)from hy)) λn hn b4=>?_;subst b4;show e6 n hn
   .rcases eA.mp F with F | F
    .show o6 s F
    .obtain rfl:s=tU h x B u rn:=by simpa using F
     show⟨by show(uU _).length<=_;rw[c7];show c9,by show(ng x h.answers B u).length<=_;rw[a4];show c6⟩
  have b8:=eO.EM (ad:=ad) (R:=L) (H':=N) (x:=tU h x B u rn) aA I h1 h2 h3 h4 h5 h6 h7 h8 h9 e0 hk v7 e3 c0;have e1:Fr L H0 H (gm L H0 H N) N:=vC (M:= [S]) (λm U=>by
   obtain rfl:m=S:=by simpa using U
   rw[h6];show λz=>nomatch z) λm o e n=>hk m o e (λz=>n (by simp[z]))
  have b5:∀m,N m=none->H m=none:=λm U=>by
   cases e:H m with
   |none=>rfl
   |some o=>
    by_cases z:m=S
    .rw[z,v7]at U;cases U
    .rw[hk m o e z]at U;cases U
  show aLaboratoryX G (hk _ _ g1 f6) ?_;exists _,.inl ⟨_,aj.of v7,rfl⟩;show aSentX G (c0 _ _ d1 f5) ?_;rw[ay,aP,aG,dC,c8];show mG (ans:= [0,(h.sent.length:Int),((ng x h.answers B u).length:Int)]) ?_ QB λq H8 hq s8 f3=>k q H8 _ (e1.then s8) b8 (b5 q hq) (by rw[oe (b5 q hq)];show hq) f3;rw[show((h.sent.length+(0+1):Nat):Int)-1=(h.sent.length:Int)by lia,a4];rfl
def Xs(G:bh K mg ad)(T:pb P w K mg):bu P w K mg base 8 "add_template" ["laboratory","call"] (iF ad Bk):=by
 show G.Nz.has J9 (λvs H Q E h=>?_) (λf c9 A c4 s H vs Q E hr h=>?_)
 .revert h;intro B;show iM B λa3 c h h' kind stop nums c5 rows ans H0 a _=>?_;subst B a;rfl
 .revert h;intro C;show i9 C λa3 c h h' kind stop nums c5 rows ans H0 a Y s0 I i b5 d k=>?_;subst C a;obtain⟨cx,na,ra,hc,d2,b4⟩:=I;obtain⟨J,rfl,rfl,b8⟩:∃t,nums= []/\rows= [t]/\dF h (.template t)=(h',ans):=by obtain⟨a4,d⟩:=fE d;obtain⟨_,a5,d⟩:=gO d;show⟨_,a4,a5,df.inj d⟩
  clear d;have hu:=hr.units;have e0:=b5 J cZ;obtain⟨i,c7⟩:=i;cases i with
  |@cons W _ j _ c0 d8=>
  have a0:L2.Row H W J:=c0;show ml Y.ex λdx l A' S c6 c8 e3 e4 h1 h2 h3 h4 h5 h6 h7 h8 h9 b0=>?_;have g1:=s0 _ _ (fX _ _ h2);have g3:=s0 _ _ h3;have u:=Paired.length h4;show⟨_,(ak (stX 2 J9.nd (pqX (R3 G T) hr (ae (cz (cX K) (ax K (pv 1)) aD (λ_ _=>rfl)) ag)))
 (ak (bL (cW (pM K hu) (ax K (pv 2)) aD QE)
  (aq (aK (bt (ae aD (ae (ax K (pv 2)) (ae (ax K (pv 2)) ag))))))
  de)
 (ak (bL (cW (fz K hu) (di (eK K) QE G.dN dO (ae (ax K (pv 0)) ag)) (gi G.Mx) QE)
  (aq (aK (bt (ae (gi G.vd) ag))))
  de)
 (ak (dR (gI K (ax K (pv 0)) (kJ (RC G) (hr.mono QB) (ae (ax K (pv 2)) (ae (ax K (pv 2)) ag)))))
 (aq (aK (bt (ae aD (ae (cU lF (di (eK K) QE G.dN dO (ae (ax K (pv 0)) ag)) aD) ag))))))))),?_⟩
  dsimp only[bg,bf,a8,aB,tC,aY,a7,aL,aR,L2.start,aX,aU,aV,aW,d5,d4];show aCallX G hc ?_;show dk (v:= .ref W) (aj.of b4) (fu rfl) ?_;show aZ W J ⟨rfl,a0,QA,λr e1 sa pl L D F=>?_⟩;have O:=Cq (gA J) 1 oC {} Wb;generalize hR:jH 1 oC (gA J)=R at O F;have d:(match(match xG 1 {} (gA J)with
   |.error e=> .error e
   |.ok g=> .ok (oh g):Except (Nat×Nat) iZ)with
   |.error e=>(h,[1,(e.1:Int),(e.2:Int)])
   |.ok x=>if 8<=h.templates.length then jl h (-6)else({h with templates:=h.templates++[x]},[0,(h.templates.length:Int)]))=(h',ans):=b8
  have U:=jt _ _ F.obj;lk;show aReadingX G U ?_;k_in;cases e:xG 1 {} (gA J)with
  |error x=>rw[e]at d O;obtain⟨j1,j2⟩:=O;subst j1;show dw (by rw[QJ (λq=>j2 QA)];rfl) ?_;show aReadingX G U ?_;show aReadingX G U ?_;show mG (ans:= [1,(R.2.1:Int),(R.2.2:Int)]) rfl QB (iD D (eF d s0 Y k))
  |ok g=>
  rw[e]at d O;show cY O λj1 j2 j3=>?_;clear O;dsimp only at d;show dJ (by rw[show R.snd.snd=0 by rw[j1]];rfl) ?_;show aLaboratoryX G (D _ _ g1) ?_;exists _,.inl ⟨_,aj.of (D _ _ g3),rfl⟩;rw[ay,u];have d1:=Y.ok.Py;by_cases c3:8<=h.templates.length
  .rw[QG c3]at d;show dw (QI QA) ?_;show eG (iD D (eF d s0 Y k))
  rw[QH c3]at d;show dJ (QJ QA) ?_;replace k:=kE d k;show aLaboratoryX G (D _ _ g1) ?_;exists .inl ⟨rfl,_,aj.of (D _ _ g3)⟩;dsimp only[iU,aL,aR];show aReadingX G U ?_;show aReadingX G U ?_;intro x dy hx b2 d3;obtain⟨_,⟨ks,p1,p2,p3⟩,ps,p4,p5⟩:=F;generalize e2:upd (upd L dy (.own x)) x (.ins ad.Template dy [])=H2;have s2:ah L H2:=by rw[<-e2];show((ah.refl L).upd b2).upd hx
  have x2:H2 x=some (.ins ad.Template dy []):=vN e2;have sd:ah (off [r,sa,pl] (nw [] H L)) (del H2 x):=λb o q=>by have q1:=jt _ _ (fX _ _ q);rw[eT (λ(z:b=x)=>by rw[z,hx]at q1;cases q1)];show s2 _ _ q1
  show wU x dy sa pl ks _ _ ⟨rfl,x2,s2 _ _ (jt _ _ p1),(p3 "width").mono sd,(p3 "lines").mono sd,λN x7 b7=>⟨rfl,?_⟩⟩;have s7:ah L N:=b7.same s2 hx;have S7:=D.trans s7;have fx:H x=none:=D.free hx;have sn:ah (nw [] H L) (nw [] H N):=oo s7 λ_ h=>h;have hX:l7 ad (nw [] H N) x (oh g):=Ws (ks:=ks) (ps:=ps) (pl:=pl) (dy:=dy) j2 j3 (by rw[d9 fx];show x7) (λkey=>(p3 key).mono (fX.trans sn)) (sn _ _ p4) (Paired.dS p5 λ_ _ q=>q.mono (fX.trans sn));show aJ l _ _ ⟨rfl,rfl,S7 _ _ g3,by rw[ay,aQ];lia,?_⟩;generalize e8:upd N l _=p;have k8:∀m,m≠l->p m=N m:=λm y=>by rw[<-e8,az y]
  have v8:p l=some (.lst ((c6++[x]).map V.ref)):=by rw[<-e8,ar,hY]
  have hk:∀m o,H m=some o->m≠l->p m=some o:=λm o e n=>by rw[k8 m n];show S7 _ _ e
  have b3:∀m o,N m=some o->m≠l->p m=some o:=λm o e n=>by rw[k8 m n];show e
  have c2:a3≠l:=kI g1 g3 (λz=>nomatch z);have aA:kP {h with templates:=h.templates++[oh g]}:=by obtain⟨U,o2,o3,o4,o5,o6⟩:=Y.ok;show⟨by show(h.templates++_).length<=8;rw[aP,aG,dC];lia,o2,o3,o4,o5,o6⟩
  have Z:=eO.LP (ad:=ad) (R:=W::j) (H':=p) (x:=oh g) aA s0 h1 h2 h3 h4 h5 h6 h7 h8 h9 b0 hk v8 hX b3;have b1:Fr (W::j) H0 H (gm (W::j) H0 H p) p:=vC (M:= [l]) (λm y=>by
   obtain rfl:m=l:=by simpa using y
   rw[h3];show λz=>nomatch z) λm o e n=>hk m o e (λz=>n (by simp[z]))
  have X:∀m,p m=none->H m=none:=λm y=>by
   cases e:H m with
   |none=>rfl
   |some o=>
    by_cases z:m=l
    .rw[z,v8]at y;cases y
    .rw[hk m o e z]at y;cases y
  show aLaboratoryX G (hk _ _ g1 c2) ?_;exists _,.inl ⟨_,aj.of v8,rfl⟩;rw[ay,aP,aG,dC,u];show mG (ans:= [0,(h.templates.length:Int)]) ?_ QB λq H9 hq s9 c1=>k q H9 _ (b1.then s9) Z (X q hq) (by rw[oe (X q hq)];show hq) c1;rw[show((h.templates.length+(0+1):Nat):Int)-1=(h.templates.length:Int)by lia];rfl
def qJ(k:Nat):Nat:=if k=6 then 130010 else if k=11 then 130010 else if k=14 then 260020 else 11000
structure mM(h:bz):Prop where
 ok:kP h
 wH:∀t∈h.templates,∃T,lZ T t
 d6:∀s∈h.sent,s.tells.length<=60
def B8{α β:Type}{F:α->β->Prop}{l:List α}{m:List β}(h:Paired F l m){y:β}(d:y∈m):∃x∈l,F x y:=by obtain⟨i,c⟩:=List.getElem?_of_mem d;obtain⟨b,a,r⟩:=Paired.get h c;show⟨b,dD a,r⟩
def eO.Nh{H:Hp}{e:ab}{h:bz}(q:eO ad H e h):mM h:=by
 show e8_1 q.ex λp T A S n g m o b=>e0_8 b λv x y i z B j _=>?_;clear b;show⟨q.ok,λt l=>?_,λs k=>?_⟩
 .show ai (B8 i l) λa _ c=>bp c λf D _ r _=>?_;clear c;show⟨f,r⟩
 .show ai (B8 j k) λa _ d=>kA d λu E F C _ _ _ r=>?_;clear d;show r.d6
def B5{h:bz}{i:Int}{f:iZ->bz×List Int}{n:Nat}(a:1<=n)(k:∀x∈h.templates,(f x).2.length<=n):(qC h i f).2.length<=n:=by
 unfold qC;split
 .show a
 .split
  .rename_i x e;show k x (dD e)
  .show a
def yA{h:bz}{i:Int}{f:Nat->dg->bz×List Int}{n:Nat}(b:1<=n)(k:∀a,∀x∈h.answers,(f a x).2.length<=n):(nR h i f).2.length<=n:=by
 unfold nR;split
 .show b
 .split
  .rename_i x e;show k _ x (dD e)
  .show b
def yB{h:bz}{i:Int}{f:lg->bz×List Int}{n:Nat}(a:1<=n)(k:∀x∈h.sent,(f x).2.length<=n):(pw h i f).2.length<=n:=by
 unfold pw;split
 .show a
 .split
  .rename_i x e;show k x (dD e)
  .show a
def rE(l:List Nat):(ei l).length=l.length+1:=by rw[pT,aG,jG]
def pairs_len(l:List (Nat×Nat)):(l.flatMap λx=>eW [x.1,x.2]).length<=l.length*2:=lC λ_ _=>bo _
def Tc{T:eS}{t:iZ}(h:lZ T t):(sF t).length<=10000:=by
 have y:=Rt.iB (n:=t.width) (k:=5) QB (by have:=h.w1;lia);have z:=Rt.iB (n:=t.lines) (k:=5) QB (by have:=h.l1;lia);have x:∀q∈t.parts,(ll q).length<=210:=λq c=>by show ai (B8 h.parts c) λp _ r=>?_;show HI r
 have g:=h.d6;have e:∀(o:Option (List Nat))(k:List Nat),k.length<=5->(∀b∈o,b.length<=200)->((o.toList.map λw=>k++w).flatMap λl=>l++[10]).length<=206:=λo k A v=>by
  cases o with
  |none=>show cT _
  |some b=>have:=v b rfl;simp;lia
 unfold sF;rw[gc,gc,gc,aP,aP,aP];have i:=e t.head (au "head ") QC (yb h.head);have j:=e t.foot (au "foot ") QC (yb h.foot);have d:=lC (f:=λl:List Nat=>l++[10]) (m:=211) (l:=t.parts.map ll) λl u=>by show ai (dM.mp u) λq c a=>?_;subst a;have:=x q c;rw[aP];show _+1<=_;lia
 rw[ay]at d;have s:([au "width "++cV t.width,au "lines "++cV t.lines].flatMap λl=>l++[10]).length<=30:=by have B:(au "width ").length=6:=QC;have C:(au "lines ").length=6:=QC;simp only[kg,zR,aP,aG,dC];lia
 show dE (sf (sf s (sf i j)) d) QA
def Qi{p d:Int}(h:¬Vblaan.isPD p d=false):p.toNat<=1000000000/\d.toNat<=100000:=by
 have h:Vblaan.isPD p d=true:=by simpa using h
 unfold Vblaan.isPD at h;rw[eC]at h;show ai (qZ QB h.1) λa c f=>?_;show ai (qZ QB h.2) λb e g=>?_;have:(Vblaan.PERSON:Int)=1000000000:=rfl;have:(Vblaan.DAY:Int)=100000:=rfl;lia
def MV{h:bz}(t:List Nat):(dF h (.template t)).2.length<=11000:=by
 unfold dF
 try dsimp only
 split
 .show(QB:3<=11000)
 .split
  .show(QB:1<=11000)
  .show(QB:2<=11000)
def MW{h:bz}(p d f:Int)(t u v:List Nat):(dF h (.answer p d f t u v)).2.length<=11000:=by
 unfold dF
 try dsimp only
 split
 .show(QB:1<=11000)
 split
 .show(QB:1<=11000)
 split
 .show(QB:1<=11000)
 show(QB:2<=11000)
def M5{h:bz}(a f:Int)(v:List Nat):(dF h (.correct a f v)).2.length<=11000:=by
 show yA QB λa x _=>?_
 try dsimp only
 split
 .show(QB:1<=11000)
 split
 .show(QB:1<=11000)
 split
 .show(QB:1<=11000)
 split
 .show(QB:1<=11000)
 show(QB:2<=11000)
def M6{h:bz}(a:Int):(dF h (.withdraw a)).2.length<=11000:=by
 show yA QB λa x _=>?_
 try dsimp only
 split
 .show(QB:1<=11000)
 split
 .show(QB:1<=11000)
 show(QB:2<=11000)
def M7{h:bz}(t p d r:Int):(dF h (.issue t p d r)).2.length<=11000:=by
 show B5 QB λx _=>?_
 try dsimp only
 split
 .show(QB:1<=11000)
 split
 .show(QB:1<=11000)
 show(QB:3<=11000)
def M8{h:bz}(r:Int):(dF h (.letter r)).2.length<=11000:=by
 unfold dF
 try dsimp only
 split
 .show(QB:1<=11000)
 split
 .show(QB:1<=11000)
 split
 .show(QB:1<=11000)
 show(QB:3<=11000)
def M9{h:bz}(c:mM h)(s:Int):(dF h (.show_ s)).2.length<=130010:=by show yB QB λx a=>?_;have:=(c.ok.ue x a).bytes;show(0::ei x.bytes).length<=_;rw[aG,rE];lia
def Na{h:bz}(c:mM h)(s:Int):(dF h (.about s)).2.length<=11000:=by show yB QB λx a=>?_;have b:=c.d6 x a;have d:=pairs_len x.tells;show(0::eW [x.kind,x.reader,x.person,x.pages]++(x.tells.length:Int)::x.tells.flatMap λy=>eW [y.1,y.2]).length<=_;rw[aP,aG,aG,jG];simp only[aG,dC];lia
def Nc{h:bz}(c:mM h):(lj h).length<=1200:=by have:=xY c.ok.iO 20;show this
def Nb{h:bz}(c:mM h):(dF h .duties).2.length<=11000:=by have a:=Nc c;have b:=pairs_len (lj h);show(0::((lj h).length:Int)::(lj h).flatMap λx=>eW [x.1,x.2]).length<=_;rw[aG,aG];lia
def Nd{h:bz}(r a:Int):(dF h (.told r a)).2.length<=11000:=by
 unfold dF
 try dsimp only
 split
 .show(QB:1<=11000)
 show yA QB λa x _=>?_
 try dsimp only
 split
 .show(QB:4<=11000)
 .show(QB:2<=11000)
def MX{h:bz}(c:mM h)(a:Int):(dF h (.versions a)).2.length<=11000:=by
 show yA QB λa x i=>?_;have g:=c.ok.good x i;have g1:=g.test;have g2:=g.unit;have g3:=g.d6;have b:=lC (f:=λv:iJ=> [(v.status:Int),(v.flag:Int)]++ei v.value) (m:=15) (l:=x.versions) λv e=>by have:=(g.rK v e).value;rw[aP,rE];show 2+_<=_;lia
 show(0::(x.person:Int)::(x.day:Int)::(ei x.test++(ei x.unit++((x.versions.length:Int)::x.versions.flatMap λv=> [(v.status:Int),(v.flag:Int)]++ei v.value)))).length<=_;rw[aG,aG,aG,aP,aP,aG,rE,rE];have d:=dE b (kj 15 g3);show dE (si (si (si (sf (si g1) (sf (si g2) (si d)))))) QB
def MY{h:bz}(c:mM h)(t p d:Int):(dF h (.preview t p d)).2.length<=130010:=by
 show B5 QB λx f=>?_
 try dsimp only
 split
 .show(QB:1<=130010)
 .rename_i q;obtain⟨g,i⟩:=Qi q;obtain⟨T,b⟩:=c.wH x f;have a:=BF c.ok.good c.ok.iO g i b;have:=(B7 b h.answers p.toNat d.toNat a.room a.turns).1;have e:=a.total;rw[<-this]at e;show(0::ei (uU (ng x h.answers p.toNat d.toNat))).length<=_;rw[aG,rE];lia
def MZ{h:bz}(c:mM h)(t:Int):(dF h (.print t)).2.length<=11000:=by show B5 QB λx b=>?_;obtain⟨T,a⟩:=c.wH x b;have:=Tc a;show(0::ei (sF x)).length<=_;rw[aG,rE];lia
def M0{h:bz}(k:Int){u:List Nat}(j:u.length<=2500):(dF h (.wrap k u)).2.length<=11000:=by
 unfold dF
 try dsimp only
 split
 .show(QB:1<=11000)
 rename_i q;split
 .show(QB:1<=11000)
 have q:dQ k 1 100=true:=by simpa using q
 unfold dQ at q;rw[eC,QK,QK]at q;obtain⟨n,c,g,i⟩:∃n:Nat,n=k.toNat/\1<=n/\n<=100:=⟨_,rfl,QA,QA⟩;rw[<-c];obtain⟨m,e,o⟩:=Rt.zz (k:=n) QA u;have d:=Rt.DS (k:=n) QA u;have a:=lC (f:=ei) (m:=n+1) (l:=mh n u) λl b=>by have:=d l b;rw[rE];lia
 rw[e,kX]at a;show(0::((mh n u).length:Int)::(mh n u).flatMap ei).length<=_;rw[aG,aG];lia
def M3{h:bz}(c:mM h)(s u:Int):(dF h (.diff s u)).2.length<=260020:=by show yB QB λx a=>yB QB λy b=>?_;have d:=(c.ok.ue x a).bytes;have e:=(c.ok.ue y b).bytes;have f:=(vK x.bytes).1;have g:=(vK y.bytes).1;have i:=Hx (gA x.bytes) (gA y.bytes);show(0::((qD (gA x.bytes) (gA y.bytes)).length:Int)::eW (qD (gA x.bytes) (gA y.bytes))).length<=_;rw[aG,aG,jG];lia
def M4{h:bz}(p d:Int)(t:List Nat):(dF h (.newest p d t)).2.length<=11000:=by
 unfold dF
 try dsimp only
 split
 .show(QB:1<=11000)
 split
 .show(QB:1<=11000)
 split
 .show(QB:4<=11000)
 .show(QB:2<=11000)
def LV{h h':bz}(c:mM h){k:Nat}{ns:List Int}{d:List (List Nat)}{a:List Int}(i:k<17)(j:∀r∈d,r.length<=2500)(b:mm k h ns d=some (h',a)):a.length<=qJ k:=by
 have fin:∀{x:bz×List Int}{n:Nat},some x=some (h',a)->x.2.length<=n->a.length<=n:=λe q=>by cases e;show q
 match k,i with
 |0,_=>change Bk h ns d=_ at b;obtain⟨_,b⟩:=fE b;obtain⟨g,f,b⟩:=gO b;show fin b (MV _)
 |1,_=>change A9 h ns d=_ at b;obtain⟨_,_,_,_,b⟩:=sJ b;obtain⟨g,l,m,f,b⟩:=sJ b;show fin b (MW _ _ _ _ _ _)
 |2,_=>change Ba h ns d=_ at b;obtain⟨_,_,_,b⟩:=pz b;obtain⟨g,f,b⟩:=gO b;show fin b (M5 _ _ _)
 |3,_=>change Bn h ns d=_ at b;obtain⟨_,_,b⟩:=gO b;obtain⟨f,b⟩:=fE b;show fin b (M6 _)
 |4,_=>change Be h ns d=_ at b;obtain⟨_,_,_,_,_,b⟩:=ER b;obtain⟨f,b⟩:=fE b;show fin b (M7 _ _ _ _)
 |5,_=>change Bf h ns d=_ at b;obtain⟨_,_,b⟩:=gO b;obtain⟨f,b⟩:=fE b;show fin b (M8 _)
 |6,_=>change Bj h ns d=_ at b;obtain⟨_,_,b⟩:=gO b;obtain⟨f,b⟩:=fE b;show fin b (M9 c _)
 |7,_=>change A8 h ns d=_ at b;obtain⟨_,_,b⟩:=gO b;obtain⟨f,b⟩:=fE b;show fin b (Na c _)
 |8,_=>change Bd h ns d=_ at b;obtain⟨_,b⟩:=fE b;obtain⟨f,b⟩:=fE b;show fin b (Nb c)
 |9,_=>change Bl h ns d=_ at b;obtain⟨_,_,_,b⟩:=pz b;obtain⟨f,b⟩:=fE b;show fin b (Nd _ _)
 |10,_=>change Bm h ns d=_ at b;obtain⟨_,_,b⟩:=gO b;obtain⟨f,b⟩:=fE b;show fin b (MX c _)
 |11,_=>change Bh h ns d=_ at b;obtain⟨_,_,_,_,b⟩:=sJ b;obtain⟨f,b⟩:=fE b;show fin b (MY c _ _ _)
 |12,_=>change Bi h ns d=_ at b;obtain⟨_,_,b⟩:=gO b;obtain⟨f,b⟩:=fE b;show fin b (MZ c _)
 |13,_=>change Bo h ns d=_ at b;obtain⟨_,_,b⟩:=gO b;obtain⟨g,f,b⟩:=gO b;show fin b (M0 _ (j _ (by rw[f];show cZ)))
 |14,_=>change Bc h ns d=_ at b;obtain⟨_,_,_,b⟩:=pz b;obtain⟨f,b⟩:=fE b;show fin b (M3 c _ _)
 |15,_=>change Bg h ns d=_ at b;obtain⟨_,_,_,b⟩:=pz b;obtain⟨g,f,b⟩:=gO b;show fin b (M4 _ _ _)
 |16,_=>change Bb h ns d=_ at b;obtain⟨_,b⟩:=fE b;obtain⟨f,b⟩:=fE b;show fin b (by show 5<=11000;decide)
 |n+17,q=>lia
def gN(c:List (List Int)):mY:=match c with
 |(p::ns)::xs=>⟨p.toNat,ns,xs.map iK⟩
 |_=>⟨0,[],[]⟩
structure oN(c:List (List Int)):Prop where
 put:rp (gN c)=PyFlat.put1 c
 shape:shapes[(gN c).kn]? =some ((gN c).ns.length,(gN c).rows.length)
 rows:∀r∈(gN c).rows,r.length<=2500
 step:∀h,mm (gN c).kn h (gN c).ns (gN c).rows=some (Av h c)
 place:EJ c=((gN c).kn:Int)
def yj{l:List Int}(h:l.length=2):∃x y,l= [x,y]:=by
 match l,h with
 |[x,y],_=>show⟨x,y,rfl⟩
def BI{A:Type}{l:List A}(h:l.length=3):∃x y z,l= [x,y,z]:=by
 match l,h with
 |[x,y,z],_=>show⟨x,y,z,rfl⟩
def QX{l:List Int}(h:l.length=4):∃x y z u,l= [x,y,z,u]:=by
 match l,h with
 |[x,y,z,u],_=>show⟨x,y,z,u,rfl⟩
def jc{p q:Int}{n k m j:Nat}{r:Option (Nat×Nat)}(e:(if p=q then some (n,k)else r)=some (m,j)):(p=q/\m=n/\j=k)\/r=some (m,j):=by
 by_cases h:p=q
 .rw[QG h]at e;cases e;show .inl ⟨h,rfl,rfl⟩
 .rw[QH h]at e;show .inr e
def E7{M:List (List Int)->Prop}{c:List (List Int)}(h:Et xx c)(B:∀t,M [[0],t])(C:∀p d f t u v,M [[1,p,d,f],t,u,v])(D:∀a f v,M [[2,a,f],v])(E:∀a,M [[3,a]])(F:∀a b c d,M [[4,a,b,c,d]])(G:∀a,M [[5,a]])(H:∀a,M [[6,a]])(I:∀a,M [[7,a]])(J:M [[8]])(L:∀a b,M [[9,a,b]])(m:∀a,M [[10,a]])(n:∀a b c,M [[11,a,b,c]])(o:∀a,M [[12,a]])(q:∀a t,M [[13,a],t])(r:∀a b,M [[14,a,b]])(s:∀a b t,M [[15,a,b],t])(A:M [[16]]):M c:=by
 show nX h λp a N k e=>?_;subst h k;unfold xx at e;rcases jc e with⟨rfl,g,i⟩ | e
 .obtain rfl:=iX g;obtain⟨t,rfl⟩:=kT.mp i;show B t
 rcases jc e with⟨rfl,g,i⟩ | e
 .show jD (BI g) λx y z k=>?_;subst k;show jD (BI i) λt u v k=>?_;subst k;show C x y z t u v
 rcases jc e with⟨rfl,g,i⟩ | e
 .show ic (yj g) λx y j=>?_;subst j;obtain⟨t,rfl⟩:=kT.mp i;show D x y t
 rcases jc e with⟨rfl,g,i⟩ | e
 .obtain⟨x,rfl⟩:=kT.mp g;obtain rfl:=iX i;show E x
 rcases jc e with⟨rfl,g,i⟩ | e
 .show kz (QX g) λx y z u l=>?_;subst l;obtain rfl:=iX i;show F x y z u
 rcases jc e with⟨rfl,g,i⟩ | e
 .obtain⟨x,rfl⟩:=kT.mp g;obtain rfl:=iX i;show G x
 rcases jc e with⟨rfl,g,i⟩ | e
 .obtain⟨x,rfl⟩:=kT.mp g;obtain rfl:=iX i;show H x
 rcases jc e with⟨rfl,g,i⟩ | e
 .obtain⟨x,rfl⟩:=kT.mp g;obtain rfl:=iX i;show I x
 rcases jc e with⟨rfl,g,i⟩ | e
 .obtain rfl:=iX g;obtain rfl:=iX i;show J
 rcases jc e with⟨rfl,g,i⟩ | e
 .show ic (yj g) λx y j=>?_;subst j;obtain rfl:=iX i;show L x y
 rcases jc e with⟨rfl,g,i⟩ | e
 .obtain⟨x,rfl⟩:=kT.mp g;obtain rfl:=iX i;show m x
 rcases jc e with⟨rfl,g,i⟩ | e
 .show jD (BI g) λx y z k=>?_;subst k;obtain rfl:=iX i;show n x y z
 rcases jc e with⟨rfl,g,i⟩ | e
 .obtain⟨x,rfl⟩:=kT.mp g;obtain rfl:=iX i;show o x
 rcases jc e with⟨rfl,g,i⟩ | e
 .obtain⟨x,rfl⟩:=kT.mp g;obtain⟨t,rfl⟩:=kT.mp i;show q x t
 rcases jc e with⟨rfl,g,i⟩ | e
 .show ic (yj g) λx y j=>?_;subst j;obtain rfl:=iX i;show r x y
 rcases jc e with⟨rfl,g,i⟩ | e
 .show ic (yj g) λx y j=>?_;subst j;obtain⟨t,rfl⟩:=kT.mp i;show s x y t
 rcases jc e with⟨rfl,g,i⟩ | e
 .obtain rfl:=iX g;obtain rfl:=iX i;show A
 cases e
def Xd{c:List (List Int)}(h:Et xx c):EE c=c:=by show E7 (M:=λc=>EE c=c) h ?_ ?_ ?_ ?_ ?_ ?_ ?_ ?_ ?_ ?_ ?_ ?_ ?_ ?_ ?_ ?_ ?_<;>(intros;rfl)
def E8:∀{t:List Int},NeutralIO.bytes t=true->eW (iK t)=t
 |[],_=>rfl
 |x::t,h=>by unfold NeutralIO.bytes at h;rw[qi,eC,eC,QK]at h;have:=E8 (t:=t) h.2;show((x.toNat:Nat):Int)::eW (iK t)=_;rw[this,Int.toNat_of_nonneg h.1.1]
def yR{t:List Int}{n:Nat}(h:EI t n=true)(b:n<=2500):(((iK t).length:Int)::eW (iK t))=PyFlat.putRow t/\(iK t).length<=2500:=by unfold EI at h;rw[eC,QK]at h;have a:(iK t).length=t.length:=ay _;rw[E8 h.2,a];show⟨rfl,QA⟩
def Sf{c:List (List Int)}(y:Et xx c)(h:VblaanNeutral.asked1 c=true):oN c:=by
 have a:∀{p:Int}{ns:List Int}{k:Nat},p=(k:Int)->shapes[k]? =some (ns.length,0)->(∀h,mm k h ns []=some (Av h [p::ns]))->oN [p::ns]:=λe g i=>by subst e;show⟨rfl,g,λ_ h=>absurd h gz,i,rfl⟩
 have one:∀{p:Int}{ns t:List Int}{k n:Nat},p=(k:Int)->shapes[k]? =some (ns.length,1)->n<=2500->EI t n=true->(∀h,mm k h ns [iK t]=some (Av h [p::ns,t]))->oN [p::ns,t]:=λ{p ns t k n} e g i s x=>by
  subst e;obtain⟨j,l⟩:=yR s i;show⟨?_,g,λr b=>?_,x,rfl⟩
  .show((k:Int)::ns)++((((iK t).length:Int)::eW (iK t))++[])=_;rw[j];rfl
  .rw[iw.mp b];show l
 revert h;show E7 (M:=λc=>VblaanNeutral.asked1 c=true->oN c) y (λt h=>one (k:=0) rfl rfl QB h λ_=>rfl) (λp d f t u v h=>?_) (λ_ _ t h=>one (k:=2) rfl rfl QB (uy.mp h).2 λ_=>rfl) (λ_ _=>a (k:=3) rfl rfl λ_=>rfl) (λ_ _ _ _ _=>a (k:=4) rfl rfl λ_=>rfl) (λ_ _=>a (k:=5) rfl rfl λ_=>rfl) (λ_ _=>a (k:=6) rfl rfl λ_=>rfl) (λ_ _=>a (k:=7) rfl rfl λ_=>rfl) (λ_=>a (k:=8) rfl rfl λ_=>rfl) (λ_ _ _=>a (k:=9) rfl rfl λ_=>rfl) (λ_ _=>a (k:=10) rfl rfl λ_=>rfl) (λ_ _ _ _=>a (k:=11) rfl rfl λ_=>rfl) (λ_ _=>a (k:=12) rfl rfl λ_=>rfl) (λ_ t h=>one (k:=13) rfl rfl QB (uy.mp h).2 λ_=>rfl) (λ_ _ _=>a (k:=14) rfl rfl λ_=>rfl) (λ_ _ t h=>one (k:=15) rfl rfl QB (uy.mp h).2 λ_=>rfl) (λ_=>a (k:=16) rfl rfl λ_=>rfl);obtain⟨h,q⟩:=uy.mp h;obtain⟨h,o⟩:=uy.mp h;obtain⟨_,m⟩:=uy.mp h;obtain⟨j,l⟩:=yR m QB;obtain⟨z,A⟩:=yR o QB;obtain⟨B,C⟩:=yR q QB;show⟨?_,rfl,λr b=>?_,λ_=>rfl,rfl⟩
 .show[(1:Int),p,d,f]++((((iK t).length:Int)::eW (iK t))++((((iK u).length:Int)::eW (iK u))++((((iK v).length:Int)::eW (iK v))++[])))=_;rw[j,z,B];rfl
 .have b:r∈ [iK t,iK u,iK v]:=b;simp only[bG,gz,or_false]at b;rcases b with rfl | rfl | rfl
  .show l
  .show A
  .show C
def Ih:∀{a:List (List (List Int))},(∀c∈a,oN c)->putAll (a.map gN)=PyFlat.put a
 |[],_=>rfl
 |c::a,h=>by show rp (gN c)++putAll (a.map gN)=PyFlat.put1 c++PyFlat.put a;rw[(h c cZ).put,Ih λx b=>h x (du _ b)]
def HZ:∀{b:List (List (List Int))}(h:bz),(∀c∈b,oN c)->ox h (b.map gN)=some (PyFlat.played Av h b)
 |[],_,_=>rfl
 |c::b,h,hc=>by
  show(match mm (gN c).kn h (gN c).ns (gN c).rows with
   |none=>none
   |some (d,a)=>(ox d (b.map gN)).map λl=>a::l)=_
  rw[(hc c cZ).step];dsimp only;rw[HZ _ λx e=>hc x (du _ e)];rfl
def jn(a:List mY):Nat:=(a.map λc=>qJ c.kn+1).sum
def Fq:∀{a:List (List (List Int))},(∀c∈a,oN c)->jn (a.map gN)<=11001*a.length+250000*(a.filter λc=> [4,11,14].contains (EJ c)).length+120000*(a.filter λc=>EJ c==6).length
 |[],_=>cT _
 |c::a,h=>by
  have l:=Fq λx j=>h x (du c j);have i:=(h c cZ).place;have e:jn ((c::a).map gN)=(qJ (gN c).kn+1)+jn (a.map gN):=rfl;rw[e,kR,kR,i,aG];generalize (gN c).kn=k at *;have g:(((k:Int)==6)=true)↔k=6:=by rw[beq_iff_eq];lia
  have d:(([4,11,14]:List Int).contains (k:Int)=true)↔k=4\/k=11\/k=14:=by simp only[List.contains_cons,List.contains_nil,uz,beq_iff_eq,DW];lia
  unfold qJ;by_cases b:k=6
  .rw[QG b,QG (g.mpr b),QH (λq=>by have:=d.mp q;lia),aG];lia
  rw[QH b,QH (λq=>b (g.mp q))];by_cases f:k=4\/k=11\/k=14
  .rw[QG (d.mpr f),aG];split
   .lia
   .split<;>lia
  .rw[QH (λq=>f (d.mp q)),QH QA,QH QA];lia
def Xo{l:List Int}(h:LJ l=true):∃b:List mY,l=putAll b/\(∀c∈b,shapes[c.kn]? =some (c.ns.length,c.rows.length)/\∀r∈c.rows,r.length<=2500)/\jn b<=16000000/\∃m,ox xE b=some m/\j9 m=PyVblaan.answers l:=by
 unfold LJ at h;cases e:PyVblaan.calls l with
 |none=>rw[e]at h;cases h
 |some b=>
  rw[e]at h;unfold PyVblaan.answers;rw[e];unfold PyVblaan.calls at e;cases k:PyFlat.calls xx l.length l with
  |none=>rw[k]at e;cases e
  |some g=>
   rw[k]at e;have p:g.map EE=b:=df.inj e;obtain⟨s,n⟩:=PyFlat.put_calls _ _ _ k;have q:g=b:=by
    rw[<-p]
    conv=>lhs;rw[<-List.map_id g]
    show oT λc f=>(Xd (n c f)).symm
   subst q;dsimp only at h;rw[eC]at h;have j:=h.2;unfold VblaanNeutral.asked at j;simp only[eC,QK]at j;show i8 j λo t u v x=>?_;clear j;have a:∀c∈g,oN c:=λc f=>Sf (n c f) (qj.mp o c f);show⟨g.map gN,by rw[Ih a];show s,λc f=>?_,?_,_,HZ _ a,rfl⟩
   .show ai (dM.mp f) λd hd i=>?_;subst i;show⟨(a d hd).shape,(a d hd).rows⟩
   .have:=Fq a;lia
def Fp(a b:List mY):jn (a++b)=jn a+jn b:=by unfold jn;rw[fk,List.sum_append]
def Nf(a:List mY)(i:Nat):jn (a.take i)<=jn a:=by
 conv=>rhs;rw[<-jQ i a,Fp]
 lia
def Ng(k:Nat):qJ k<=260020:=by
 unfold qJ;split
 .decide
 split
 .decide
 split<;>decide
def UY(K:aw):Sp:=λe H Q _=>∃(d:ab)(a:List mY)(as:List (List Int)),e= [.ref d]/\aj K H d ((putAll a).map V.int)/\(∀c∈a,shapes[c.kn]? =some (c.ns.length,c.rows.length)/\∀r∈c.rows,r.length<=2500)/\(putAll a).length<=1000000/\ox xE a=some as/\jn a<=16000000/\∀q b,ah H b->b q=some (.lst ((j9 as).map V.int))->Q (.ref q) b
def Xt(G:bh K mg ad)(T:pb P w K mg)(hs:∀(i:Nat)(x:Str),vg[i]? =some x->bu P w K mg base 10 x ["laboratory","call"] (iF ad (mm i))){f:ab}{fd:mN}(F:oP K "answers" "answers" CC f fd):jw P w K mg base lO 12 f fd ["calls"] (UY K):=by
 show F.ok tX (λvs H Q E h=>?_) (λh9 A h2 s H vs Q E hr h=>?_)
 .show nX h λca d as I _=>?_;subst h I;rfl
 .show vw h λca d as I g0 g5 hz c2 h6 k=>?_;subst h I;have e8:=RD (base:=base) (ad:=ad) G T hs;show⟨_,(ak (stX 1 tX.nd (Ia (Rz G) (hr.mono QB)))
 (ak (stX 2 tX.nd (bt ag))
 (ak (stX 3 tX.nd aD)
 (ak (Ck PassesOwn.never (cW pO (pv 3) (di (eK K) QE G.dN dO (ae (pv 0) ag)) QE)
  (ak (stX 4 tX.nd (pqX (RW G T) hr (ae (pv 0) (ae (pv 3) ag))))
  (ak (dR (kC K (pv 2) (pqX (ow G) hr (ae (pc e8 (hr.mono QB) (ae (pv 1) (ae (pv 4) ag))) ag))))
  (aq (stX 3 tX.nd (ax K (pv 4)))))))
 (aq (aK (pv 2))))))),?_⟩
  dsimp only[bg,bf,iU,a7,aL,aR,aY];lk;intro g dx M g6 i3;generalize e2:upd (upd H dx (.own g)) g (.ins ad.jh dx [])=H2;have s2:ah H H2:=by rw[<-e2];show((ah.refl H).upd g6).upd M
  have l2:H2 g=some (.ins ad.jh dx []):=vN e2;show aZ g dx ⟨rfl,l2,λH3 t a sl l3 ht ha g9 g8 t3 a3 h4 b3=>⟨rfl,?_⟩⟩;have s3:ah H H3:=b3.same s2 M;have ft:=s2.free ht;have fa:=s2.free ha;have fs:=s2.free g9;show⟨cT _,λn b4=>?_⟩;generalize e4:upd H3 n _=H4;have s4:=sN e4 b4;have v4:H4 n=some (.lst ((j9 []).map V.int)):=vN e4;have S4:=s3.trans s4;have c6:H n=none:=s3.free b4;have f5:eO ad (nw [] H H3) g xE:=QR (by rw[d9 M];show l3) g8 (by rw[d9 ft];show t3) (by rw[d9 fa];show a3) (by rw[d9 fs];show h4);show DK (λσ D=>∃(i:Nat)(u4:Option V)(h:bz)(B:Hp),σ= [some (.ref ca),some (.ref g),some (.ref n),some (vn (putAll (d.take i)).length),u4]/\eO ad B g h/\ah B D/\(∀b,H b≠none->B b=none)/\B n=none/\ah H D/\D n=some (.lst ((j9 (as.take i)).map V.int))/\i<=d.length/\(j9 (as.take i)).length<=jn (d.take i)/\ox h (d.drop i)=some (as.drop i)) (λσ _=>G5 (putAll d).length σ) ⟨0,none,xE,nw [] H H3,rfl,f5,jt.trans s4,λb S=>?_,?_,S4,v4,cT _,cT _,c2⟩ ?_
  .show QH (λz=>z.elim S (λz=>absurd z QD))
  .rw[d9 c6];show b4
  intro σ D a4;show kz a4 λi u4 h B u=>e0_10 u λc5 hL s0 d2 c8 sH p hi h7 q=>?_;clear u;subst a4 c5;lk;have Z:=sH.seq g0;exists _,.inl ⟨_,Z,rfl⟩;rw[ay];by_cases c1:i<d.length
  .obtain⟨c,hc⟩:∃c,d[i]? =some c:=⟨_,dA c1⟩;have L:d.drop i=c::d.drop (i+1):=by rw[kQ c1,(dW.mp hc).2]
   have j:putAll d=putAll (d.take i)++(((c.kn:Int)::c.ns)++(eX c.rows++putAll (d.drop (i+1)))):=by
    conv=>lhs;rw[<-jQ i d,Ic,L]
    show _++(rp c++putAll (d.drop (i+1)))=_;unfold rp;rw[eZ]
   have c0:(putAll (d.take (i+1))).length=(putAll (d.take i)).length+(1+c.ns.length+(eX c.rows).length):=by rw[take_snoc hc,Ic,aP];show _+(rp c++[]).length=_;unfold rp;rw[ee,aP,aG];lia
   have i1:(putAll (d.take i)).length<(putAll d).length:=by rw[j,aP,aP,aG];lia
   obtain⟨C,e3⟩:=g5 c (dD hc);have a0:c.kn<17:=(dW.mp C).1;rw[L]at q;obtain⟨h',a,d1,N⟩:∃h' a,mm c.kn h c.ns c.rows=some (h',a)/\∃l,ox h' (d.drop (i+1))=some l/\as.drop i=a::l:=by
    unfold ox at q;cases e:mm c.kn h c.ns c.rows with
    |none=>rw[e]at q;cases q
    |some z=>rw[e]at q;show ai (mX.mp q) λl e1 e2=>?_;show aZ z.1 z.2 ⟨rfl,l,e1,e2.symm⟩
   show ai N λl d3 Y=>?_;clear N;have f7:as[i]? =some a:=by have:=congrArg (λx=>x[0]?) Y;rw[w6,xf]at this;show this
   have c9:as.drop (i+1)=l:=by rw[<-mR,Y];rfl
   have f6:=LV hL.Nh a0 e3 d1;have f9:a.length<=1000000:=dE f6 (dE (Ng _) QB);have g4:jn (d.take (i+1))=jn (d.take i)+(qJ c.kn+1):=by rw[take_snoc hc,Fp];rfl
   have i0:=Nf d (i+1);show dw (QI QA) ?_;exists λσ' D=>G5 (putAll d).length σ'<(putAll d).length-(putAll (d.take i)).length/\∃(i:Nat)(u4:Option V)(h:bz)(B:Hp),σ'= [some (.ref ca),some (.ref g),some (.ref n),some (vn (putAll (d.take i)).length),u4]/\eO ad B g h/\ah B D/\(∀b,H b≠none->B b=none)/\B n=none/\ah H D/\D n=some (.lst ((j9 (as.take i)).map V.int))/\i<=d.length/\(j9 (as.take i)).length<=jn (d.take i)/\ox h (d.drop i)=some (as.drop i),λσ' D z=>⟨_,z.1,rfl,?_⟩
   .show kz z.2 λi u4 h B u=>e0_10 u λz1 z2 z3 z4 z5 z6 z7 z8 z9 h5=>?_;clear u;show aZ i u4 ⟨z1,aZ h B ⟨z2,z3,z4,z5,z6,z7,z8,z9,h5⟩⟩
   show wR ca c.kn (putAll (d.take i)) c.ns (putAll (d.drop (i+1))) c.rows ⟨rfl,by rw[<-j];show Z,C,by rw[<-j];show hz,λcq H1 X b7 s1 J O e0=>?_⟩;have v:=s1 _ _ p;have h3:=s0.trans s1;have S1:=sH.trans s1;show gJ (id J) λcx na ra b5 i2 j2=>?_;exists .inl ⟨rfl,_,aj.of v⟩;show gy g cq h h' c.kn _ c.ns X (aJ c.rows a B ⟨rfl,hL,h3,J,⟨O,λb S=>s0.free (e0 b S)⟩,e3,a0,d1,λq2 H2 b1 c7 e9 j1 h8 d8=>?_⟩);have a5:∀b,D b≠none->b∉X:=λb S z=>S (e0 b z);have y:∀b,H1 b≠none->B b=none->b∉X->H2 b=H1 b/\b1 b=none:=c7.keep;have b2:=y n (by rw[v];show λz=>nomatch z) c8 (a5 n (by rw[p];show λz=>nomatch z));have e7:=y cq (by rw[b5];show λz=>nomatch z) (s0.free b7) (λz=>by obtain⟨m,hm,g7⟩:=oU.mp z;show ai (Paired.get' O (show X[m]? =some cq by rw[dA hm,g7])) λr _ U=>?_;have U:H1 cq=some (.lst (vr r)):=U;rw[b5]at U;cases U)
   have b0:∀b o,H b=some o->H2 b=some o/\b1 b=none:=λb o e=>by have e1:=S1 _ _ e;obtain⟨z1,z2⟩:=y b (by rw[e1];show λz=>nomatch z) (d2 b (by rw[e];show λz=>nomatch z)) (a5 b (by rw[sH _ _ e];show λz=>nomatch z));show⟨by rw[z1];show e1,z2⟩
   show aZ q2 a ⟨rfl,d8,f9,λq3 H3 f3 s3 v3=>?_⟩;have e6:=s3 _ _ (b2.1.trans v);have c4:j9 (as.take (i+1))=j9 (as.take i)++((a.length:Int)::a):=by rw[take_snoc f7,WH]
   have R:(j9 (as.take (i+1))).length<=jn (d.take (i+1)):=by rw[c4,aP,aG,g4];lia
   have W:=R;rw[c4,aP]at W;show eY n q3 _ _ ⟨rfl,rfl,e6,v3,by rw[ay,ay,aQ];lia,?_⟩;generalize e5:upd H3 n _=H5;have k5:∀b,b≠n->H5 b=H3 b:=λb S=>by rw[<-e5,az S]
   have v5:H5 n=some (.lst ((j9 (as.take (i+1))).map V.int)):=by rw[<-e5,ar,c4,fk]
   have h1:cq≠n:=λz=>by rw[z,p]at b7;cases b7
   show aCallX G (by rw[k5 cq h1];show s3 _ _ (e7.1.trans b5)) ?_;show⟨?_,eY (i+1) (some (.ref cq)) h' b1 ⟨?_,e9,λb o e=>?_,λb S=>?_,b2.2,λb o e=>?_,v5,QA,R,by rw[c9];show d3⟩⟩
   .show(putAll d).length-(((putAll (d.take i)).length+(1+c.ns.length+(eX c.rows).length):Nat):Int).toNat<_;rw[eN];lia
   .rw[c0]
   .have nb:b≠n:=λz=>by rw[z,b2.2]at e;cases e
    rw[k5 b nb];show s3 _ _ (c7.sub _ _ e)
   .cases e:H b with
    |none=>show absurd e S
    |some o=>show(b0 b o e).2
   .rw[k5 b (eu e c6)];show s3 _ _ (b0 b o e).1
  .have b8:i=d.length:=QA;rw[b8,gk];show dJ (QJ QA) ?_;have has:as.drop i= []:=by rw[b8,rW]at q;rw[b8];show(df.inj q).symm
   have c3:as.take i=as:=by have:=jQ i as;rw[has,ee]at this;show this
   rw[c3]at p;show k n D sH p
end
end Rp

namespace Rp
open PySem PySem.Spec PyProof.Rows L2
set_option maxHeartbeats 0
open PySem.W (WData Codec OpenSpec nsIn findIn codeIn keepIn fnOf mg_of)
def ids:List Addr:=2::3::List.range' 15 804
def kOf:List Obj->PySem.W.Frag
 |_::_::a::b::r=>(2,a)::(3,b)::(List.range' 15 804).zip (r.drop 11)
 |_=> []
noncomputable def KK (p:Params):PySem.W.Frag:=kOf (T0.heap_851 p).objs.toList
theorem kOf_ok{M:List Obj}(h:M.length=819):ids=(kOf M).map (λx=>x.1)/\ids.map (λa=>M[a]?)=(kOf M).map λp=>some p.2:=by
 obtain⟨x,y,a,b,r,rfl⟩:∃x y a b r,M=x::y::a::b::r:=by
  match M,h with
  |x::y::a::b::r,_=>exact⟨x,y,a,b,r,rfl⟩
 have hl:(r.drop 11).length=804:=by rw[List.length_drop];simp only[List.length_cons]at h;omega
 have z:∀(n s:Nat)(L:List Obj),L.length=n->(∀i,(x::y::a::b::r)[s+i]? =L[i]?)->(List.range' s n).map (λa_1=>(x::y::a::b::r)[a_1]?)=((List.range' s n).zip L).map λp=>some p.2:=by
  intro n;induction n with
  |zero=>intros;rfl
  |succ n ih=>
   intro s L hL hg;cases L with
   |nil=>cases hL
   |cons c L=>show _::(List.range' (s+1) n).map _=some c::((List.range' (s+1) n).zip L).map _;rw[ih (s+1) L (Nat.succ.inj hL) λi=>by rw[Nat.add_assoc,Nat.add_comm 1,hg (i+1)];rfl];exact congrArg (·::_) (hg 0)
 refine⟨?_,congrArg (some a::some b::·) (z 804 15 _ hl λi=>?_)⟩
 .exact congrArg (2::3::·) (List.map_fst_zip (by rw[List.length_range',hl];exact Nat.le_refl _)).symm
 .rw[List.getElem?_drop,show 15+i=(11+i)+1+1+1+1 by omega];rfl
theorem len_KK(p:Params):(T0.heap_851 p).objs.toList.length=819:=by kernel_rfl
theorem ids_eq(P:Params):ids=(KK P).map λx=>x.1:=(kOf_ok (len_KK P)).1
theorem live_KK(p:Params):((T0.heap_851 p).objs.toList.all λo=>match o.data with
  |.freed=>false
  |_=>true)=true:=by kernel_rfl
theorem laid_KK(w:World):ids.map (T0.heap_851 w.params).get? =(KK w.params).map λp=>some p.2:=by
 refine .trans (List.map_congr_left λa _=>?_) (kOf_ok (len_KK w.params)).2;rw[Array.getElem?_toList];unfold Heap.get?;split
 .rename_i e;have h:=List.all_eq_true.mp (live_KK w.params) _ (List.mem_of_getElem? (by rw[Array.getElem?_toList];exact e));cases h
 .rfl
theorem well:PySem.Challenge.rw_reportstold_s01_answers.wellSaid=true:=by have h:=(Bool.and_eq_true_iff.mp (Bool.and_eq_true_iff.mp (Bool.and_eq_true_iff.mp (Bool.and_eq_true_iff.mp (Bool.and_eq_true_iff.mp T0._proof_1).1).1).1).1).1;unfold PySem.W.OpenSpec.wellSaid;rw[show PySem.W.looksOpen PySem.Challenge.rw_reportstold_s01_answers.prog=true from h];decide +kernel
section
variable {K:PySem.W.Frag}{h:Heap}{mg:Str->Option Value}
def obAt(K:PySem.W.Frag)(f:Addr):Obj:=(K.lookup f).getD {cls:= .none}
def fdAt(K:PySem.W.Frag)(st:Stmt)(f:Addr):FuncData:=match(obAt K f).data with
 |.func d=>d
 |_=>fnOf "" "" (xT st) (pC st) (aS st) .none .none .none .none none .none .none
abbrev fnAt(K:PySem.W.Frag)(st:Stmt)(f:Addr)(x q:Str):FuncData:=fnOf x q (xT st) (pC st) (aS st) .none (fdAt K st f).kwdefaults (fdAt K st f).doc (fdAt K st f).pyModule (fdAt K st f).annotations (fdAt K st f).code (fdAt K st f).closureTuple
abbrev bOk(x q:Str)(st:Stmt)(ps:List Str)(kV doc pm:Value)(an:Option Addr)(cdv ct:Value)(us:List Value):Prop:=bindArgs (fnOf x q (xT st) (pC st) (aS st) .none kV doc pm an cdv ct) ⟨us,[]⟩=pure (ps.zip us)
theorem bOk_of{x q:Str}{st:Stmt}{ps:List Str}(e:∀kV doc pm an cdv ct (g:Nat->Value),bOk x q st ps kV doc pm an cdv ct ((List.range ps.length).map g))(kV doc pm:Value)(an:Option Addr)(cdv ct:Value)(us:List Value)(hl:us.length=ps.length):bOk x q st ps kV doc pm an cdv ct us:=by have h:=e kV doc pm an cdv ct λi=>us.getD i .none;rwa[show(List.range ps.length).map (λi=>us.getD i .none)=us by refine List.ext_getElem (by simp[hl]) λi h1 h2=>?_;simp[h2]]at h
abbrev lOk(K:PySem.W.Frag)(f:Addr)(st:Stmt)(x q:Str):Prop:=K.lookup f=some ⟨(obAt K f).cls,(obAt K f).dict,.func (fnAt K st f x q),(obAt K f).slots⟩
theorem def_mk(X:K.In h)(G:h.Ns mainGlobals mg){x:Str}{st:Stmt}{ps:List Str}(f:Addr)
  (a:nsIn K mainGlobals x=some (some (.ref f)):=by kernel_rfl) (l:lOk K f st x x:=by kernel_rfl) (c:codeIn K (fdAt K st f).code x=true:=by kernel_rfl) (k:keepIn K (.ref f)=true:=by kernel_rfl)
  (hb:∀kV doc pm an cdv ct (g:Nat->Value),bOk x x st ps kV doc pm an cdv ct ((List.range ps.length).map g):=by intros;kernel_rfl):Def K mg x st ps:=
 ⟨⟨_,_,Xq l c k,mg_of X G a,(Xq l c k).binds (bOk_of hb)⟩⟩
theorem cls_mk(X:K.In h)(G:h.Ns mainGlobals mg){x q:Str}{C:Addr}{st:Stmt}{ps:List Str}(f:Addr)
  (n:nsIn K mainGlobals x=some (some (.ref C)):=by kernel_rfl) (pg:PySem.W.plainGet K C Str.empty=true:=by kernel_rfl) (hd:PySem.W.hasDictIn K C=true:=by kernel_rfl) (po:PySem.W.plainOver K C=true:=by kernel_rfl) (sa:findIn K (.ref C) "__setattr__"=some (some (.builtin "object.__setattr__")):=by kernel_rfl) (ms:PySem.W.makesIn K C=true:=by kernel_rfl) (kc:keepIn K (.ref C)=true:=by kernel_rfl)
  (a:findIn K (.ref C) "__init__"=some (some (.ref f)):=by kernel_rfl) (i:PySem.W.isFn K (.ref f)=true:=by kernel_rfl) (l:lOk K f st "__init__" q:=by kernel_rfl) (c:codeIn K (fdAt K st f).code q=true:=by kernel_rfl) (k:keepIn K (.ref f)=true:=by kernel_rfl)
  (hb:∀kV doc pm an cdv ct (g:Nat->Value),bOk "__init__" q st ps kV doc pm an cdv ct ((List.range ps.length).map g):=by intros;kernel_rfl):lP K mg x q C st ps:=
 ⟨mg_of X G n,⟨pg,hd,po,sa⟩,_,_,⟨ms,a,i,kc⟩,Xq l c k,(Xq l c k).binds (bOk_of hb)⟩
theorem no_attr{C:Addr}{fs:List Str}(e:(fs.all λf=>match findIn K (.ref C) f with
  |some none=>true
  |_=>false)=true:=by kernel_rfl):∀f∈fs,gZ K C f:=λf hf=>by
 have h1:=List.all_eq_true.mp e f hf;show findIn K (.ref C) f=some none;split at h1
 .assumption
 .cases h1
theorem no_mg(X:K.In h)(G:h.Ns mainGlobals mg){x:Str}(e:nsIn K mainGlobals x=some none:=by kernel_rfl):mg x=none:=PySem.W.mg_none_of X G e
theorem mg_int(X:K.In h)(G:h.Ns mainGlobals mg){x:Str}{i:Int}(e:(match nsIn K mainGlobals x with
  |some (some (.int j _))=>decide (j=i)
  |_=>false)=true:=by kernel_rfl):∃t,mg x=some (.int i t):=by
 split at e
 .rename_i j t q;rw[decide_eq_true_eq]at e;rw[e]at q;exact⟨t,mg_of X G q⟩
 .cases e
def allRel:List V->List Value->Bool
 |[],[]=>true
 |.str x::r,.str y _::s=>decide (x=y)&&allRel r s
 |.int x::r,.int y _::s=>decide (x=y)&&allRel r s
 |.ref x::r,.ref y::s=>decide (x=y)&&allRel r s
 |_,_=>false
theorem allRel_vals:∀{xs:List V}{us:List Value},allRel xs us=true->Vals xs us
 |[],[],_=> .nil
 |.str x::r,.str y t::s,e=>by obtain⟨h,z⟩:=Bool.and_eq_true_iff.mp e;cases of_decide_eq_true h;exact .cons ⟨t,rfl⟩ (allRel_vals z)
 |.int x::r,.int y t::s,e=>by obtain⟨h,z⟩:=Bool.and_eq_true_iff.mp e;cases of_decide_eq_true h;exact .cons ⟨t,rfl⟩ (allRel_vals z)
 |.ref x::r,.ref y::s,e=>by obtain⟨h,z⟩:=Bool.and_eq_true_iff.mp e;cases of_decide_eq_true h;exact .cons rfl (allRel_vals z)
theorem tup_rel{a:Addr}{xs:List V}(e:(match K.lookup a with
  |some ⟨.type "tuple",_,.seq its _,_⟩=>decide (its.size<=1000)&&allRel xs its.toList
  |_=>false)=true:=by kernel_rfl):k9 K a xs:=by
 split at e
 .rename_i d its n sl q;rw[Bool.and_eq_true,decide_eq_true_eq]at e;exact⟨_,its,n,q,rfl,rfl,by rw[sizeLine_eq];omega,allRel_vals e.2⟩
 .cases e
theorem tup_at(X:K.In h)(G:h.Ns mainGlobals mg){x:Str}{xs:List V}(a:Addr)(n:nsIn K mainGlobals x=some (some (.ref a)):=by kernel_rfl)(e:(match K.lookup a with
  |some ⟨.type "tuple",_,.seq its _,_⟩=>decide (its.size<=1000)&&allRel xs its.toList
  |_=>false)=true:=by kernel_rfl):∃a,mg x=some (.ref a)/\k9 K a xs:=⟨a,mg_of X G n,tup_rel e⟩
end
abbrev ad0:Ad:=⟨150,171,192,310,411,486,507,528,652⟩
theorem mods{w:World}{h:Heap}{mg:Str->Option Value}(X:(KK w.params).In h)(G:h.Ns mainGlobals mg):bh (KK w.params) mg ad0:=⟨
no_mg X G,
no_mg X G,
no_mg X G,
no_mg X G,
no_mg X G,
no_mg X G,
no_mg X G,
no_mg X G,
no_mg X G,
no_mg X G,
no_mg X G,
no_mg X G,
mg_int X G,
mg_int X G,
mg_int X G,
mg_int X G,
mg_int X G,
mg_int X G,
mg_int X G,
mg_int X G,
mg_int X G,
mg_int X G,
mg_int X G,
mg_int X G,
mg_int X G,
mg_int X G,
mg_int X G,
tup_at X G 133,
mg_int X G,
mg_int X G,
mg_int X G,
mg_int X G,
mg_int X G,
mg_int X G,
mg_int X G,
mg_int X G,
mg_int X G,
mg_int X G,
mg_int X G,
tup_at X G 463,
tup_at X G 464,
tup_at X G 469,
mg_int X G,
mg_int X G,
mg_int X G,
mg_int X G,
mg_int X G,
mg_int X G,
mg_int X G,
mg_int X G,
mg_int X G,
mg_int X G,
mg_int X G,
mg_int X G,
mg_int X G,
mg_int X G,
mg_int X G,
mg_int X G,
mg_int X G,
mg_int X G,
mg_int X G,
mg_int X G,
mg_int X G,
def_mk X G 21,
def_mk X G 28,
def_mk X G 35,
def_mk X G 42,
def_mk X G 47,
def_mk X G 54,
def_mk X G 61,
def_mk X G 68,
def_mk X G 75,
def_mk X G 82,
def_mk X G 89,
def_mk X G 96,
def_mk X G 103,
def_mk X G 110,
def_mk X G 115,
def_mk X G 122,
def_mk X G 127,
def_mk X G 132,
def_mk X G 203,
def_mk X G 210,
def_mk X G 217,
def_mk X G 224,
def_mk X G 231,
def_mk X G 238,
def_mk X G 245,
def_mk X G 252,
def_mk X G 257,
def_mk X G 264,
def_mk X G 269,
def_mk X G 274,
def_mk X G 279,
def_mk X G 286,
def_mk X G 293,
def_mk X G 319,
def_mk X G 326,
def_mk X G 333,
def_mk X G 340,
def_mk X G 347,
def_mk X G 352,
def_mk X G 359,
def_mk X G 366,
def_mk X G 373,
def_mk X G 380,
def_mk X G 387,
def_mk X G 394,
def_mk X G 422,
def_mk X G 429,
def_mk X G 434,
def_mk X G 441,
def_mk X G 448,
def_mk X G 455,
def_mk X G 462,
def_mk X G 539,
def_mk X G 546,
def_mk X G 553,
def_mk X G 560,
def_mk X G 567,
def_mk X G 574,
def_mk X G 581,
def_mk X G 586,
def_mk X G 591,
def_mk X G 598,
def_mk X G 605,
def_mk X G 612,
def_mk X G 617,
def_mk X G 663,
def_mk X G 670,
def_mk X G 677,
def_mk X G 684,
def_mk X G 691,
def_mk X G 698,
def_mk X G 705,
def_mk X G 712,
def_mk X G 719,
def_mk X G 726,
def_mk X G 733,
def_mk X G 740,
def_mk X G 747,
def_mk X G 754,
def_mk X G 761,
def_mk X G 768,
def_mk X G 775,
def_mk X G 782,
def_mk X G 789,
def_mk X G 796,
def_mk X G 804,
def_mk X G 811,
def_mk X G 818,
cls_mk X G 147,
no_attr,
cls_mk X G 168,
no_attr,
cls_mk X G 189,
no_attr,
cls_mk X G 307,
no_attr,
cls_mk X G 408,
no_attr,
cls_mk X G 483,
no_attr,
cls_mk X G 504,
no_attr,
cls_mk X G 525,
no_attr,
cls_mk X G 649,
no_attr⟩
theorem dic_mk{P:Program}{w:World}{K:PySem.W.Frag}{a:Addr}{kvs:List (Key×V)}{vs:List (Key×Value)}{es:Array DictEntry}{ep:Nat}(hl:K.lookup a=some {cls:= .type "dict",data:= .dict es ep})(h1:(a==sysModules)=false)(hz:kvs.length<=1000)(hkv:KV kvs vs)(hk:KeysOf (fQ P w) es)(hp:Pairs (fQ P w) es.toList vs)(hn:(vs.map (·.1)).Nodup):rQ P w K a kvs:=
 ⟨by rw[sizeLine_eq];omega,h1,vs,hkv,_,es,ep,hl,⟨rfl,rfl,rfl⟩,rfl,hk,hp,hn⟩
theorem tops{P:Program}{w:World}{h:Heap}{mg:Str->Option Value}(X:(KK w.params).In h)(G:h.Ns mainGlobals mg):pb P w (KK w.params) mg:=by
 refine⟨⟨465,466,467,mg_of X G (by kernel_rfl),dic_mk (vs:= [(.inr "width",.ref 466),(.inr "lines",.ref 467)]) (es:=#[⟨PyData.keyHash w.params "width",.str "width" 906,.ref 466⟩,⟨PyData.keyHash w.params "lines",.str "lines" 909,.ref 467⟩]) (ep:=2) (by kernel_rfl) (by decide) (by decide) (.cons ⟨rfl,rfl⟩ (.cons ⟨rfl,rfl⟩ .nil)) (λe he=>?_) (.cons rfl rfl (.cons rfl rfl .nil)) (by decide),tup_rel,tup_rel⟩,⟨468,mg_of X G (by kernel_rfl),dic_mk (vs:= [(.inr "row",.int 1 916),(.inr "table",.int 6 918),(.inr "if",.int 1 920)]) (es:=#[⟨PyData.keyHash w.params "row",.str "row" 915,.int 1 916⟩,⟨PyData.keyHash w.params "table",.str "table" 917,.int 6 918⟩,⟨PyData.keyHash w.params "if",.str "if" 919,.int 1 920⟩]) (ep:=3) (by kernel_rfl) (by decide) (by decide) (.cons ⟨rfl,_,rfl⟩ (.cons ⟨rfl,_,rfl⟩ (.cons ⟨rfl,_,rfl⟩ .nil))) (λe he=>?_) (.cons rfl rfl (.cons rfl rfl (.cons rfl rfl .nil))) (by decide)⟩,⟨635,(List.range 17).map (·+618),mg_of X G (by kernel_rfl),tup_rel,?_⟩,⟨797,[677,684,691,698,712,719,726,733,740,747,754,761,768,775,782,789,796],mg_of X G (by kernel_rfl),tup_rel,?_⟩⟩
 .simp only[List.mem_toArray,List.mem_cons,List.not_mem_nil,or_false]at he;rcases he with rfl | rfl<;>exact⟨.inr _,rfl,rfl⟩
 .simp only[List.mem_toArray,List.mem_cons,List.not_mem_nil,or_false]at he;rcases he with rfl | rfl | rfl<;>exact⟨.inr _,rfl,rfl⟩
 .have e:((((List.range 17).map (·+618)).zip shapes).all λt=>match(KK w.params).lookup t.1 with
   |some ⟨.type "tuple",_,.seq its _,_⟩=>decide (its.size<=1000)&&allRel [vn t.2.1,vn t.2.2] its.toList
   |_=>false)=true:=by kernel_rfl
  refine HC rfl λi b hb=>?_;have hi:=(List.getElem?_eq_some_iff.mp hb).1;obtain⟨a,ha⟩:∃a,((List.range 17).map (·+618))[i]? =some a:=⟨_,List.getElem?_eq_getElem (by have h17:i<17:=hi;simpa using h17)⟩;refine⟨a,ha,tup_rel ?_⟩;exact List.all_eq_true.mp e (a,b) (List.mem_of_getElem? (by rw[List.getElem?_zip_eq_some];exact⟨ha,hb⟩))
 .have f:∀{x:Str}{a:Addr},nsIn (KK w.params) mainGlobals x=some (some (.ref a))->some (Value.ref a)=mg x:=λe=>(mg_of X G e).symm;unfold vg;simp only[List.map_cons,List.map_nil];rw[<-f (x:="add_template") (a:=677) (by kernel_rfl),<-f (x:="add_answer") (a:=684) (by kernel_rfl),<-f (x:="correct_answer") (a:=691) (by kernel_rfl),<-f (x:="withdraw_answer") (a:=698) (by kernel_rfl),<-f (x:="issue_report") (a:=712) (by kernel_rfl),<-f (x:="send_letter") (a:=719) (by kernel_rfl),<-f (x:="show_sent") (a:=726) (by kernel_rfl),<-f (x:="tell_about") (a:=733) (by kernel_rfl),<-f (x:="list_duties") (a:=740) (by kernel_rfl),<-f (x:="tell_told") (a:=747) (by kernel_rfl),<-f (x:="list_versions") (a:=754) (by kernel_rfl),<-f (x:="preview_report") (a:=761) (by kernel_rfl),<-f (x:="print_template") (a:=768) (by kernel_rfl),<-f (x:="wrap_text") (a:=775) (by kernel_rfl),<-f (x:="compare_sent") (a:=782) (by kernel_rfl),<-f (x:="find_newest") (a:=789) (by kernel_rfl),<-f (x:="count_all") (a:=796) (by kernel_rfl)]
theorem all17{P:Program}{w:World}{K:PySem.W.Frag}{mg:Str->Option Value}{base:Heap}{ad:Ad}(G:bh K mg ad)(T:pb P w K mg)(i:Nat)(x:Str)(h:vg[i]? =some x):bu P w K mg base 10 x ["laboratory","call"] (iF ad (mm i)):=by
 match i,h with
 |0,h=>cases h;exact(Xs G T).mono (by decide)
 |1,h=>cases h;exact(Xr G).mono (by decide)
 |2,h=>cases h;exact(Xv G).mono (by decide)
 |3,h=>cases h;exact(XH G).mono (by decide)
 |4,h=>cases h;exact(Xy G).mono (by decide)
 |5,h=>cases h;exact(XD G).mono (by decide)
 |6,h=>cases h;exact(XE G).mono (by decide)
 |7,h=>cases h;exact(XF G).mono (by decide)
 |8,h=>cases h;exact(Xz G).mono (by decide)
 |9,h=>cases h;exact(XG G).mono (by decide)
 |10,h=>cases h;exact(XA G).mono (by decide)
 |11,h=>cases h;exact(XB G).mono (by decide)
 |12,h=>cases h;exact(XC G).mono (by decide)
 |13,h=>cases h;exact(XI G).mono (by decide)
 |14,h=>cases h;exact(Xu G).mono (by decide)
 |15,h=>cases h;exact(Xx G).mono (by decide)
 |16,h=>cases h;exact(Xw G).mono (by decide)
 |n+17,h=>cases h
end Rp
namespace L2
open PySem PySem.Spec PyProof.Rows
open PySem.W (WData Codec OpenSpec Well WellAll)
abbrev rW:=PySem.Challenge.rw_reportstold_s01_answers
theorem walkI{q:Program}{loose:List Str}{XP:(Str->Option Value)->Heap->Prop}{YP:World->Heap->Prop}{d:DefRec}{K:Params->PySem.W.Frag}{x:Str}{sp:PySem.W.Frag->Sp}(hwell:rW.wellSaid=true)
  (hY:∀(w:World)(h:Heap),YP w h->(K w.params).In h)
  (F:∀(w:World)(mg:Str->Option Value)(fa:Addr)(h:Heap),YP w h->(K w.params).In h->h.Ns mainGlobals mg->mg d.name=some (.ref fa)->
   ∃fd:FuncData,(∀(s:Shared)(us:List Value),us.length=1->BindsTo s fd ⟨us,[]⟩ ([x].zip us))/\
    ∀base:Heap,(K w.params).In base->base.Ns mainGlobals mg->jw rW.prog w (K w.params) mg base lO 12 fa fd [x] (sp (K w.params)))
  (hsp:∀(K:PySem.W.Frag)(H:Hp)(a:Addr)(ns:List Int),ns.length<=17000->Codec.app rW.args rW.asked (ns,())=true->aj K H a (ns.map V.int)->
   sp K [.ref a] H (λv H'=>∃l,v= .ref l/\aj K H' l ((PyVblaan.answers ns).map V.int)) E0):
  PySem.W.WalkOS q loose XP YP rW d [] (λf vs=>PySem.call f vs):=by
 intro w iT s1 mg mb G Y fa o pm cd doc dV kV ho hd hcd hD hmg hg args vals as hpre hlay hrd hwl hlo;obtain⟨⟨ns,u⟩,e1,e2⟩:=PySem.W.os_pre_some hpre;obtain⟨e3,hwi⟩:=Codec.encAll_of_decAll rW.args args _ e1;subst e3;have hl:WellAll w.params s1.heap vals [.list (ns.map .int)]:=hwl;have z:((Codec.inLen 0 17000 ns&&ns.all (Codec.inInt (Int.negSucc 999999999999999999) (Int.ofNat 1000000000000000000)))&&true)=true:=hwi;rw[Bool.and_eq_true,Bool.and_eq_true]at z;have hz:=(Codec.inNat_iff.mp z.1.1).2;have KX:=hY w _ Y;obtain⟨fd,hb,hF⟩:=F w mg fa _ Y KX G.T.g hmg;cases hl with
 |cons l1 l2=>
 cases l2
 refine PySem.W.enter_call (codeAny_mono (XJ (R:= []) (cl:=classAt iT.heap) (ms:=PyVblaan.answers ns) KX G.T.g G.T.b G.T.builtins G.T.nolimit hg l1 (by rw[sizeLine_eq];omega) ⟨rfl,by decide,by decide⟩ hF hb
  (λH a _ hS=>hsp _ H a ns hz e2 hS)) λr' s' hq=>?_)
 obtain⟨u,as',rfl,h1,h2,h3,h4⟩:=hq;exact⟨.inl ⟨u,_,as',rfl,λ_=>rfl,h1,(OpenSpec.post_iff hwell hwi _ _).mpr rfl,λz=>Bool.noConfusion (show false=true from z)⟩,h2,h3,h4⟩
end L2
open PySem PySem.W PyProof.Rows
set_option maxRecDepth 100000 in
set_option maxHeartbeats 0 in
theorem PySem.Challenge.cw_reportstold_s01_answers_holds : PySem.Challenge.rw_reportstold_s01_answers.Holds := by
 refine holds_os (r:=L2.rW) (N:=100000) (LeftO.of_pieces (Yf:=(kHook Rp.KK Rp.ids Rp.ids_eq).obs) (Ya:=(kHook Rp.KK Rp.ids Rp.ids_eq).val) (boot_open T0._proof_4 rfl T0._proof_5) T0._proof_856 T0._proof_854 rfl λw=>funext λos=>Prod.ext (congrArg (λx=>x.1) (T0._proof_887 w os)) (Prod.ext (congrArg (λx=>x.2.1) (T0._proof_887 w os)) (Rp.laid_KK w))) (kHook Rp.KK Rp.ids Rp.ids_eq).of (kHook Rp.KK Rp.ids Rp.ids_eq).keeps (λs e=>xl_of s (Bool.and_eq_true_iff.mp e).left) XL.keeps (Eq.refl _) (Eq.refl _) (Eq.refl _) (λs e=>recFacts_of (Bool.and_eq_true_iff.mp e).right) os_shapes Rp.well T0._proof_2 ⟨rfl,rfl,rfl,rfl,rfl,T0._proof_3⟩ ⟨[.list [.int 16]],by decide +kernel,by decide +kernel⟩ ?hc
 refine L2.walkI (x:="calls") (sp:=Rp.UY) Rp.well (λw h Y=>PySem.W.kIn_of Y) ?F ?S
 case F=>
  intro w mg fa h Y KX G hmg
  have M:=Rp.mods KX G
  obtain⟨f,fd,F,hm,_⟩:=M.Xp.ex
  have e:(Value.ref fa)= .ref f:=Option.some.inj (hmg.symm.trans hm)
  cases e
  refine⟨fd,λs us hu=>?_,λbase kb nb=>Rp.Xt (Rp.mods kb nb) (Rp.tops kb nb) (Rp.all17 (Rp.mods kb nb) (Rp.tops kb nb)) F⟩
  obtain⟨oc,od,kV,doc,pm,an,cdv,ct,osl,rfl,_⟩:=F.ex
  exact match us,hu with | [_],_=> .of_eq rfl
 case S=>
  intro K H a ns hz hask hs
  obtain⟨cs,hl,h1,h2,as,h3,h4⟩:=Rp.Xo (l:=ns) hask
  refine⟨_,cs,as,rfl,by rw[<-hl];exact hs,h1,by rw[<-hl];omega,h3,h2,λq H' s hq=>⟨_,rfl,?_⟩⟩
  rw[h4]at hq
  exact L2.aj.of hq
