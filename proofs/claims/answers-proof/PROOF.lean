import PyProof.Rows.All
import PySem.Challenge.RW_driftclocks_s01_answers
import KE.OsGo
import Open.SpecLaws
import Wide.All
import OpenK.AllK
import Wide.FinOn
import PyProof.EqAt
import PyProof.EqKinds
import PyProof.TupleCall
import KE.BitLaws
import Open.Tree
import Open.Seg
import Open.Head
import KE.OsHead
import KE.OsShapes
import KE.KNest
import KE.KLam
import KE.KSortKey
import KE.KSortTup
import PyProof.Rows.SortMergeAt
import PyProof.Rows.SortRuns
import PyVbdtah
set_option tactic.hygienic false
set_option genInjectivity false
set_option Elab.async false
set_option linter.all false
set_option maxRecDepth 100000
set_option maxHeartbeats 20000000
set_option exponentiation.threshold 5000
set_option genSizeOf false
set_option bootstrap.genMatcherCode false
set_option compiler.extract_closed false
set_option compiler.reuse false
def hb(x:Lean.Syntax):Bool:=(x.find? (·.isOfKind ``Lean.Parser.Term.byTactic)).isSome
open Lean Parser.Tactic in
def pq(p:Syntax):MacroM Syntax:=p.rewriteBottomUpM λx=>do
 let t(p:TSyntax `rcasesPat):=do return(←`(rcasesPatLo|$p:rcasesPat)).raw
 match (⟨x⟩:Term) with|`(($a,$b,*))=>t (←`(rcasesPat|⟨$(⟨#[a.1]++#[mkAtom ","]++b.elemsAndSeps⟩),*⟩))|`(_)=>t (←`(rcasesPat|_))|_=>if x.isIdent&& !x.getId.eraseMacroScopes.isAnonymous then t (←`(rcasesPat|$(⟨x⟩):ident)) else return x
open Lean in
def lf(x y:Term)(z:TSyntax `tactic):MacroM (Ident×TSyntax `tactic):=do if x.raw.isIdent&& !(x.raw.getId==`rfl) then return (⟨x⟩,z) else return (⟨y⟩,←`(tactic|let $x:term:=$y))
open Lean Parser.Tactic in
def lr(p a r e:Term):MacroM Syntax:=do
 let q:=⟨(←pq p)[0]⟩
 let i(s):Term:=⟨mkIdent (e.raw.getId.appendAfter s)⟩
 let z←`(tactic|skip)
 let(u,s)←lf a (i "_u") z
 let(v,t)←lf r (i "_v") z
 let n:=(p.raw.find? λx=>x.isIdent&&x.getId==e.raw.getId).isSome
 let c←if e.raw.isIdent then`(tactic|(try clear $(⟨e⟩):ident)) else pure z
 let o:=e.raw.isIdent&& !n
 let k:Ident:=if o then⟨e⟩ else mkIdent `_k
 let l←if o then pure z else`(tactic|refine(have $k:ident:=$e;?_))
 let w:=if n then c else z
 `(tactic|first|($l;$w;refine(haveI $u:ident:=And.left $k;haveI $v:ident:=And.right $k;?_);(try clear $k);$s;$t)|(refine Exists.elim $e ?_;$c;intro $u:ident $v:ident;$s;$t)|obtain $q:rcasesPatMed:=$e)
open Lean Parser.Tactic in
def lq(p e:Term):MacroM Syntax:=do
 match p with
 |`(($a,$b,*))=>do let b:=b.getElems;lr p a (←if b.size=1 then pure b[0]! else `(($(b[0]!),$(b.extract 1 b.size),*))) e
 |`(_)=>`(tactic|skip)
 |_=>`(tactic|obtain $(⟨(←pq p)[0]⟩):rcasesPatMed:=$e)
open Lean in
def hv(d:TSyntax ``Parser.Term.letDecl):MacroM Syntax:=if hb d then`(tactic|focus(refine(have $d:letDecl;?_);rotate_right)) else`(tactic|focus(refine(haveI $d:letDecl;?_);rotate_right))
local macro_rules|`(tactic|let $p:term:=$e)=>lq p e|`(tactic|let $x:ident:=$e)=>if x.getId==`rfl then`(tactic|obtain $x:ident:=$e)else do hv (←`(letDecl|$x:ident:=$e))|`(tactic|let $d:letDecl)=>hv d
local macro_rules|`(tactic|intro $p*)=>if p.any (λx=>x.raw.isOfKind ``Lean.Parser.Term.tuple||x.raw.getId==`rfl) then do
 let l←p.mapM λx=>if x.raw.isOfKind ``Lean.Parser.Term.tuple then`(tactic|(intro $(Lean.mkIdent `_k):ident;let $x:term:=$(Lean.mkIdent `_k))) else if x.raw.getId==`rfl then`(tactic|rintro $(⟨x⟩):ident) else`(tactic|intro $x:term)
 `(tactic|($[$l];*)) else Lean.Macro.throwUnsupported
local macro_rules|`(tactic|erw[$r,*]$[$l]?)=>`(tactic|simp only[$[$(r.getElems.map λx=>⟨x.raw[1]⟩):term],*]$[$l]?)
local macro_rules|`(tactic|delta $x*$[$l]?)=>`(tactic|unfold $x*$[$l]?)
local macro_rules|`(tactic|show $e)=>`(tactic|refine $e)
local macro_rules|`(tactic|ext)=>`(tactic|simp_all)
local macro_rules|`(tactic|cbv)=>`(tactic|rotate_left)
local macro_rules|`(tactic|exists $e)=>`(tactic|simpa using $e)
local macro_rules|`(tactic|cases $h:ident : $e)=>`(tactic|by_cases $h:ident : $e)
local macro_rules|`($x.$i:fieldIdx)=>match ("3 symm threshold natAbs toNat nodes events length epoch reading size heap objs".splitOn " ")[i.raw.isFieldIdx?.getD 0-2]? with|some "3"|none=>Lean.Macro.throwUnsupported|some n=>`(($x).$(Lean.mkIdent (.mkSimple n)))
local macro_rules|`(($a,$b,*))=>if b.getElems.back!.raw.isOfKind ``Lean.Parser.Term.paren then Lean.Macro.throwUnsupported else`(⟨$a,$b,*⟩)
local macro_rules|`(fun%$k $p* =>$b)=>if k.getAtomVal="λ"&&p.any (λx=>x.raw.isOfKind ``Lean.Parser.Term.tuple)&&p.all (λx=>x.raw.isIdent||x.raw.isOfKind ``Lean.Parser.Term.tuple||x.raw.isOfKind ``Lean.Parser.Term.hole)&&(b.raw.find? (·.isOfKind ``Lean.Parser.Term.syntheticHole)).isNone then`(by intro $(p.map (⟨·.raw⟩))*;exact $b) else Lean.Macro.throwUnsupported
open Lean in
def pb(a:Array (String×Term)):MacroM (String×Term):=do
 let h:=a[0]!.1
 let b:=a.map (·.2)
 let r:=b.extract 1 b.size
 let n(k:Name)(l:Array Syntax):Term:=⟨mkNode k l⟩
 return ("",←if h="λ" then `(fun $(r.pop.map (⟨·.raw⟩))* =>$(r.back!)) else if h="," then `(($(r[0]!),$(r.extract 1 r.size),*)) else if h=",," then `(($(r[0]!),$((r.extract 1 (r.size-1)).push (←`(($(r.back!))))),*)) else if h=":" then `(($(r[0]!) : $(r[1]!))) else if h="[" then `([$r,*]) else if h.front='.'&&(h.drop 1).isNat then pure (n ``Parser.Term.proj #[r[0]!,mkAtom ".",Syntax.mkLit fieldIdxKind (h.drop 1).toString]) else if a.size=3&& !(h="")&& !h.front.isAlpha&& !"_.~?-".contains h.front then pure (n (.mkSimple ("term_"++h++"_")) #[r[0]!,mkAtom h,r[1]!]) else pure (if a.size=1 then b[0]! else Syntax.mkApp b[0]! r))
open Lean in
def ph(s:String):MacroM Term:=do
 let mut k:List (Array (String×Term)):=[#[]]
 for t in ((s.replace "(" "( ").replace ")" " )").splitOn " " do
  match t,k with
  |"(",_=>k:=#[]::k
  |")",a::b::l=>k:=b.push (←pb a)::l
  |_,a::l=>k:=a.push (t,←if t="_" then`(_)else if t="?_" then`(?_)else if t.isNat then pure (quote t.toNat!) else if t.front='-'&&(t.drop 1).isNat then`(-$(quote (t.drop 1).toNat!)) else if t.front='~' then pure (quote (t.drop 1).toString) else if t.front='.'&& !(t.drop 1).isNat then pure ⟨mkNode ``Parser.Term.dotIdent #[mkAtom ".",mkIdent (t.drop 1).toName]⟩ else pure (mkIdent t.toName))::l
  |_,_=>pure ()
 return (←pb k.head!).2
set_option hygiene false in
def phT:Lean.MacroM Lean.Term:=`([(by lia),(by simp),(by decide),(by kernel_rfl),(by omega)])
local macro_rules|`($x:ident)=>let e:=Lean.Macro.throwUnsupported;match x.getId with|.str .anonymous s=>if s.length=2&&"JQUWYZ".contains s.front then do let i:=("Jb Jd Jf Jg Jh Ji Jj Jk Jl Jm Jn Jp Jq Jr Js Jt Ju Jv Jw Jx Jy Jz JA JB JC JD JF JG JH JI JJ JK JL JM JN JO JP JQ JR JS JT JU JV JW JX JY JZ J0 J1 J2 J3 J4 J5 J6 J7 J8 J9 Qa Qb Qc Qe Qg Qh Qi Qj Qk Ql Qm Qn Qo Qp Qq Qr Qs Qt Qu Qv Qw Qx Qy Qz QA QB QC QD QE QF QG QH QI QJ QK QL QM QN QO QP QQ QR QS QT QU QV QW QX QY QZ Q0 Q1 Q2 Q3 Q4 Q5 Q6 Q7 Q8 Q9 Za Zb Zc Zd Ze Zf Zg Zh Zi Zj Zk Zl Zm Zn Zo Zq Zr Zs Zt Zu Zv Zw Zx Zy Zz ZA ZC ZD ZE ZF ZG ZH ZI ZJ ZK ZL ZM ZN ZO ZP ZQ ZR ZS ZT ZU ZV ZW ZX ZY ZZ Z0 Z1 Z2 Z3 Z4 Z5 Z6 Z7 Z8 Z9 Ua Ub Uc Ud Ue Ug Uh Ui Uj Uk Ul Um Uo Up Uq Ur Us Ut Uu Uv Uw Ux Uy Uz UA UB UC UD UE UG UH UI UJ UK UL UM UN UO UP UQ UR US UT UU UW UX UY UZ U0 U1 U2 U3 U4 U5 U6 U7 U8 U9 Wa Wb Wc Wd We Wf Wg Wh Wi Wj Wl Wm Wn Wo Wq Wr Ws Wu Wv Ww Wx Wy Wz WA WB WC WD WE WG WH WI WJ WK WL WM WN WO WQ WR WS WT WU WV WW WX WY WZ W2 W3 W4 W5 W6 W7 W8 W9 Yb Yc Yd Ye Yg Yh Yi Yj Yk Yl Ym Yn Yo Yp Yq Yr Ys Yt Yu Yv Yw Yx Yy Yz YA YB YC YD YE YF YG YH YI YJ YK YL YM YN YO YQ YR YS YT YU YV YW YX YY YZ Y0 Y1 Y2 Y3 Y4 Y5 Y6 Y7 Y8 Y9 Ja Jc Je Jo JE".splitOn " ").idxOf s;match ("(.9 s.events);(.12 s.heap.objs);tC (.int 0);aT (λ h ?_) (λ h ?_);tC (.int 1);Z 0;g.K;1000000000000;Z 1;bb X.prog X.w;aL g A;Inv X yq σ H s;aX Jj;X.env;aE (aU s -1);(.9 s.nodes);List V;Z 2;List Int;.lst ([);.ref a;< g (: (.9 s.events) Int);w.params;bb prog w;Z 3;Nat;aP (aN 2 (mn Jj A) (U Ji (U (ah Jq Jl Jf) aa))) (aC 3);(.12 a.heap.objs);Int;aE M;bA (b9 Jj) (U Ji aa);+ i 1;scope.names;(,, au (bC e Jr));cf Jj;c9 K A S H t s;aP (aN 2 (qQ Jj A) (U JC (U (k8 (jZ Jj) Jl (iA Jh) m9) aa))) (aC 4);bD ~told (V.ref t) ([);bf _;.ref p;a_ (aY (ah (aR dE) (Z 4) Jf)) (aH (bx (U (Z 4) aa))) ba;aD A.bT Ji ~nodes;ah Jq Jl (tC (.int 2));b8 sc;.lst xs;List (List SL);ah Jq Jl Jh;aU s g;X.gV s H scope (jS scope cl C Jr) a;.type ~list;aD A.bT Ji ~events;λ h ?_;+ e 1;aV s;.ref f;(, _ (cy Ja));TA K A S H t s d;dX K A S H p sc kn M;b9 Jj;.tail _ (.head _);aM s;U Jv aa;U Jl aa;Z 4;VbdtCore.ints b;s.parcels;gC Jj 2 (cX (aC 3) (cX (aC 4) gB));T.top;mN X G;ah Jq Jl Jf;rI gd gv;(, _ J);aS s k;.Attribute o m apos;ns.map V.int;(, (λ b o e n h f (keep b o (D b o e) h (A b o e f) (a.base.keep b o e n h f) (a.base.free b o e n f))) (λ b o e n h f ?_) (λ b o e n f ?_) (λ b o e f ?_) (λ b xs e (rW b xs (a.base.rW b xs e))) (λ b o xs e (ql b o xs (a.base.ql b o xs e))) (λ b ps e ?_));V.ref;.inl J;a_ (fS (tB (gT (Z 6))) (aY (ah (yo Jj) (Z 6) (tC (.ref A.gw))))) (n8 7 (tC (.int 4)) (n9 (λ i j (+ i j)))) ba;(, kn deaf more);X.N.Nodup;× ax Obj;jF s (s.lags.eraseIdx i) s.marks;+ x.ev 1;× Str V;:: e es;aD A.fK Jl ~number;(.12 c.heap.objs);× bX (List Int);(, J (, aB Je aB ji aB iE J (k x c _ a (bZ (bZ (bZ (lC a d) a) a) a) ?_)));(.9 s.parcels);hV s (dB s -1);+ Jb 1;== x ~__debug__;aR eC;aR dE;.type ~tuple;aC 2;X.env.locals;∧ (gR g) (∧ (eR e) (eR f));az.refl H;+ k 1;aA c x (.ins A.cw d (bD ~rows (V.ref D) (bD ~known (V.ref k) (bD ~scale (V.int sc) ([)))));iV X.prog X.w X.K X.mg X.base CX k f fd ps sp;bO n M;nA prog w A s kd it f;++ d.lists d.ns;tC (.int -1);Dy JB A env (λ e a (R (.error e) a));RX X A k fs;pv 0;aR fC;cx g N b sc d bu i outer j H0 E;Z 5;+ j 1;= (aE (jF s s.lags (s.marks.eraseIdx i))) (aE (aU s -1));(, 199 200 201 202 203 204 tU (, 134 190 190 tU Qn Qn Qn) (, 134 155 tU Qn Qn) (, 134 tU Qn) (, 169 169 155 176 tU Qn Qn Qn Qn) (, 169 155 176 tU Qn Qn Qn) (, 134 169 162 tU Qn Qn Qn));.ref c;X.env.scope;(, ([ (,, (aZ ~g) 40) (,, (aZ ~e) 41) (,, (aZ ~f) 42) (,, (aZ ~p) 43) (,, (aZ ~i) 44) (,, (aZ ~c) 45)) (anV w) J (, 40 Je tU) (, 41 Je tU) (, 42 Je tU) (, 43 Je tU) (, 44 Je tU) (, 45 Je tU));1000000;wr s k c;bQ (.7 s);List Str;bx (U Jf aa);bD ~view (V.ref v) JQ;λ z (h (cn z));aA m f (.lst (bW c.dropLast));.ref C;.ref t;b.mono Je;U JC aa;λ M j (gM M j j bp);bq M b;.lst (++ (bJ (mv kn ms JW i)) ([ (.int (: i JD))));1000000000001;tC (.ref A.gw);aT (λ h' ?_) (λ h' ?_);i9 K A S H v p sc kn M;aC 3;aH (tC .aW);* sc HV;aD A.gW Ji ~told;= vs ([ (.ref a));aF (aE (aU s c)) (+ b 1) (+ a 1);λ a a a a a qA;.Call (.Name x p) QE ([) pos;1048576;aH (bx (U (tC (.int -8)) aa));iX X.env.cells JL ([);X.gV a w scope ce d;s.toks;pv 1;aE J0;bY st;A.cw;cM s g;aD A.bT Ji ~words;List Nat;t.pl.st _ _;∧ (< g Jb) (∧ (< e Jb) (< f Jb));dB s g;(, (.1 x) (.2 x));aD A.bT Ji ~moments;aD A.bT Ji ~parcels;U Qi aa;U Ji aa;(, ok.mod ok.kind ok.glob ok.blt ok.above ok.inj ok.has ok.yb ok.hd ok.frames ok.DB ok.DC ok.bs ok.m7 ok.Ax ok.Ay ok.km ok.qo);bx aa;Option aO;A.cH;(, d l.top l.nl l.el l.wl l.ml l.pl l.ll l.n l.e l.w l.m l.p l.l l.nd l.ls l.li (λ b h (al _ b (df _ (nL _ h)))) (λ b h (al _ b (df _ (mJ _ h)))));aD A.fK Jl ~wholes;.tup ([ (.ref d.ln) (.ref d.le) (.ref d.lw) (.ref d.lm) (.ref d.lp) (.ref d.ll));kF s g e f x;.Compare a ([ op) ([ b) pos;.Name x pos;x.node;aD ZO Ji ~scale;bI g 3 ~sets_of_nodes ([ ~size) (B3 Tb');bI g 14 ~answer_living ([ ~told ~wholes) (va Jj A Tb' qW);.tup ([ (.int i) x);(, 62 222 243 299 320 341 362 383 404 620 749 1040 1104 1203 1224 38 39 198 205 521 522 530 855 995 1073 1179 1264);(, k g d m os);aU s -1;aN 2 (wL Jj) (U JU (U Qo aa));.ref v;aF M u v;≤ -1 g;bI g 14 ~answer_over ([ ~told ~wholes) (va Jj A Tb' qV);List ax;e.ctorIdx;aq K H a (cO b);.ins C c (bD f (.ref l) fs);(, pw w (KK JA) mg base);a_ (jb (tB (qp (ah JN Ji Jh))) (aY (ah (DZ Jj) (ah JN Ji Jh) (hZ (U Jl (U (tC (.int 0)) aa)))))) (aH (tC (.int 0))) ba;.lst (l.map V.int);Option Nat;(.12 X.iO.heap.objs);= (H a) (Y (.ins C dx fs));fg M C p f;mW s k c;EP X yq a Q;gy _ J;aA (aA H a (.own x)) x (.ins C a ([));(, Qm T.nl T.el T.wl T.ml T.pl T.ll T.n T.e T.w T.m T.p T.l T.nd T.ls T.li (λ b a (m b (T.fr b a))) (λ b a (m b (T.fn b a))));X.prog;λ a a False;List a;s.lags;bA Qb (U (aD A.bT (aD A.g7 JC ~told) ~lines) aa);br a.ok b.ok (a.pl.st _ _);(, (, ab (m _ _ N)) (B.old (λ b a (y.free a))) fr);aC 4;.tup xs;az S H;Is x n d;qi pos (qg ([) Jr);c5 ZO ~tighten 4 (nv Jj A) Ji (U Jv (U Jl (U (hZ (U (ah Q4 Jf (ah Qp JC Ub)) (U (tC (.int 0)) aa))) aa)));s.marks;(.9 s.marks);gO s kn deaf;cx g N b sc d bu j outer a H0 E;∧ (< p (: (.9 s.parcels) Int)) (< i (: (.9 s.nodes) Int));+ Jd 1;X.xe;n9 (λ i j (+ i j));X.K;λ h (h.IsStrIter j (kh x) x t i);cX (aC p) (cX (aC q) gB);start N vs;cx g N d sc f bu A outer s H E;λ _ _ x (x.to (λ _ _ _ e (m _ _ e)));wN A.fK (λ vs ([ (,, (aZ ~number) (vs.getD 0 .aW)) (,, (aZ ~wholes) (vs.getD 1 .aW)) (,, (aZ ~row) (vs.getD 2 .aW)))) 3;jr _ _;&& (kP kn u) (kP kn v);PE X a ta;a.toArray;.lst (ps.map Qv);.Call Qs QE ([) pos;items.toList;cW n (cW n O);aF M p q;TM sc n t M;.Call Qs ([) ([) pos;.bool (lexLt ns ms);.ref q;g.base;x.life;aR jA;(.9 s.lags);&& (&& (== b Ht) (== sc.kind .function)) (== (sc.names.lookup n) (Y .cell));pv 2;aC 1;aC 5;.ins A.gF a (uP nm f hi (+ (.10 n) 1));< k Jt;List aO;c6 s -1;aG d;wa X.N Zb scope own;.int i;az H a;aq.of f;.lst ([ (V.int 0));cV h;aH (tC (.bl au));d6.getD k ([);aD Z3 Ji ~steps;aD Z3 JC ~steps;1000;.ref b;aF (aE (aU s c)) (+ a 1) (+ b 1);jS scope cl C Jr;.type ~dict;(.9 z.cps.toList);aH (tC (.int -9));aH (tC (.int -5));Array Nat;A.dS;x.ev;+ f 1;++ b (:: x c);k _ _ Qw e;aE (tq s (cM s -1) (: (aM s) JD) e k c Ui Jb);.ref f1;Z 6;aA H c (.lst g);U (Z 7) aa;.ret (.done b);bq M g k q;.tail _ Qc;pos.line;t.ok;jC (FE.ok g) fs;x.den;< 0 sc;+ src 1;vW (vT (Kq a.jf.cl (sV a) Zn (i6 a.qL.dW Qc Wu))) (fB (iQ (jY (br (wg (a.c 6)) cb)))) yc;.builtin id;aR kq;yT s kn sc deaf;.ref w;X.A;.Call (.Name ~enumerate p) ([ e) ([) pos;* (: x.life JH) (: (aM s) JH);.ref D;≠ (gx s x k c) 0;.ListComp ae ([ (, R iter ac 0)) scope pos;A.eE;x.num;.lst a;iZ Q;bK b;(, (.6 e) Ja);U JZ aa;X.base;top j;.ref f2;bq M g k p;nv Jj A;pN Jj A;aA c D Jx;(, F.len (λ A outer s H args c vs Q E d (F.run A outer s H args c vs Q E (d.mono h))));.lst vs;+ (+ pl (.9 w)) 1;+ (.9 kn) 1;(, a.n6 a.rt (λ e he (.1 (a.ev e he))) (λ l b (, (.1 (a.wd l b)) (.1 (.2 (a.wd l b))) (.1 (.2 (.2 (a.wd l b)))))) (λ m c (.1 (a.mo m c))));bL.refl _;bB es Jr;X.stack;A.units;Option ax;c.toArray;A.eT;.Attribute o m ap;pv 3;T.nl;pM s kn sc deaf b;(, aB Je aB ji aB iE aB BH J (k x c _ a (bZ (bZ (bZ (bZ (lC a d) a) a) a) a) ?_));bD ~parcel (V.ref f) Zi;cI prog w A s kd it m x g;wK F Zz k;toString i;jt (.13 s) T (.ref j) (.ref k);x.map nW;T.el;cF s k;w.hd".splitOn ";")[i]? with|some z=>ph z|_=>match (←phT).raw[1].getSepArgs[i-349]? with|some z=>return z|_=>e else if s="J" then`(rfl)else e|_=>e
set_option hygiene false in
def a':Lean.Syntax:=Lean.Unhygienic.run `(tacticSeq|rfl)
set_option hygiene false in
def b':Lean.Syntax:=Lean.Unhygienic.run `(tacticSeq|decide)
set_option hygiene false in
def q':Lean.Syntax:=Lean.Unhygienic.run `(tacticSeq|kernel_rfl)
set_option hygiene false in
def n':Lean.Syntax:=Lean.Unhygienic.run `(tacticSeq|first|show .inl rfl|show .inr rfl|assumption|show .inr (.inl rfl)|show .inr (.inr rfl))
set_option hygiene false in
def i':Lean.Syntax:=Lean.Unhygienic.run `(tacticSeq|(repeat intro);kernel_rfl)
set_option hygiene false in
def B':Lean.Syntax:=Lean.Unhygienic.run `(tacticSeq|first|show Ie _ (by decide) (by decide)|rfl)
local macro_rules|`(command|$x:declaration)=>do
 let y:=x.raw
 let k:=y[1].getKind
 let z←`(command|noncomputable def a:=0)
 if y.getPos?==some ⟨0⟩||k== ``Lean.Parser.Command.theorem then Lean.Macro.throwUnsupported else return (if y[0][4].getNumArgs=0&&[``Lean.Parser.Command.definition,``Lean.Parser.Command.abbrev,``Lean.Parser.Command.instance].contains k then y.setArg 0 (y[0].setArg 4 z.raw[0][4]) else y).rewriteBottomUp λ|.atom _ v=>.atom (.synthetic ⟨0⟩ ⟨0⟩) v|.ident _ r v p=>.ident (.synthetic ⟨0⟩ ⟨0⟩) r v p|.node _ k a=>.node .none k a|s=>s
def aj:=@if_neg
def ak:=@if_pos
def cn:=@decide_eq_true
def cV:=@of_decide_eq_true
def e8:=@congrArg
def iK:=@decide_eq_false
def oN:=@decide_eq_true_eq
def qj:=@if_true
def uc:=@if_false
def vM:=@beq_iff_eq
def Hg:=@decide_eq_true_iff
def afA:=@decide_eq_decide
def at0:=@decide_eq_false_iff_not
def auY:=@beq_eq_false_iff_ne
def ava:=@of_decide_eq_false
def avr:=@beq_self_eq_true
open Option renaming some->Y,none->O,map_eq_some_iff->tS,map_some->zW,rec->Af,map->Ag,filter_some->CW,bind_some->Pd,map_eq_none_iff->aeC,ne_none_iff_exists'->ase,filter_eq_some_iff->asj,getD_none->ato,map_map->atW,any->auV
open Bool renaming true->I,false->au,false_ne_true->gZ,and_eq_true->jo,eq_iff_iff->nO,eq_false_or_eq_true->rE,false_and->Hu,and_false->PD,true_and->PK,false_eq_true->aeT,and_eq_false_iff->as1,not_eq_true'->atF,or_eq_true->aus,false_or->auO,true_or->auX
open PySem renaming Addr->ax,Value->aO,model->bb,Shared->bc,wpAny_bind->bg,wpAny->bj,Paired->bw,starEach->bB,eval->bC,World->bS,sizeLine->cz,sizeLine_eq->cP,Heap->c_,Expr->dj,wpAny_pure->dG,OsState->dO,Stmt->eP,mainGlobals->eY,Around->fA,backTo->fI,Params->f_,Program->gz,compareOp->gJ,cellsFrom->iy,IsPair->jt,mem_of_lookup->jP,compEnvC->jS,strIterType->kh,cLine->ki,wpAny_mono->kX,holding->l8,Scope->l_,binaryOp->mX,bootBuiltins->nV,IsZip->nX,standAt->o8,codeAny->o9,keywordEach->qg,backToKw->qi,PyData->o_,wpAny_field->ua,assignEach->ub,Builtin->uf,rawInt->ug,behindInMarks->rM,attributeBase->vK,getMethod->vO,wpAny_Call_Name_kw->xF,foldedSetIterable->xG,treeTable->xU,swapsWith->vN,pushCells->xV,callWith->xW,bindArgs->xX,wpAny_passesOwn->z0,wpAny_seqItems->z9,codeAny_mono->Ac,sliceBounds->Ah,builtinsNs->Aj,DictEntry->Al,bindL->Ap,bindC->Aq,Meets->As,wpAny_setField_rec->CY,valueAt->Dx,notedBy->Dy,assign->Dz,wpAny_truthy_bool->Hk,wpAny_holding->HB,strLen_append->HC,wpAny_rule->HH,wpAny_call->HI,closureFor->HJ,call_meets->HK,getItem->HP,pyNext->HU,richCompare_meets_room->O0,wpAny_pyIter_enum->Pn,wpAny_execs_nil->PH,pushCells_keeps->PJ,wpAny_standAt->P6,wpAny_onRaise->P7,wpAny_attempt->P8,wpAny_letGo->Rf,subscripted->Rg,numAt_eq->Rl,FuncData->Rm,callerA->Ro,Keyword->Rp,wpAny_callSpecial?_slot->aeH,wpAny_updateSeq_pair->aeU,wpAny_pyIter_tuple->ae4,wpAny_newObj_type->afc,wpAny_forIn_list->afp,wpAny_call_entry->afq,letOwnedTupleGo->afx,importedModules->afy,Within->afz,Fin->afP,seqIndex_of->afQ,richCompare->afR,wpAny_Name->afU,typeIs_int->afV,defaultsOf->afW,storeName->afZ,inplaceOp->af0,PassesOwn->af1,compPost->af4,wpAny_newFunctionEnv_cells->asR,wpAny_letOwnedTupleGo_enum->asS,wpAny_isTrue_Compare1->atP,codeAny_call_function->atQ,wpAny_pyIter_revIter->at4,wpAny_newFunctionEnv->at5,wpAny_loadName_local->at6,getD_mem->at7,boot_len->at8,wpAny_loadName_cell->auz,wpAny_Tuple_spliced->auA,wpAny_List_spliced->auL,wpAny_pyIter_list->auP,wpAny_assign_Name->auQ,slot_list_getitem->auR,wpAny_pyIter_zip->au0,wpAny_execs_cons->au1,codeAny_builtin->avb,wpAny_setField->avk,wpAny_newTuple->avl,wpAny_Compare1->avm,recursionLimit->avn,newFunctionEnv->avo,wpAny_newList->avs,plainId_quiet->avt,nums_intItems->avu,call_list_seq->avv
open Vbdtah renaming eventAt->aI,nodeAt->aS,State->bX,act->cq,within->cZ,put->eh,start->eW,step->f9,W->gq,entry->gI,textIn->gQ,closure->hV,past->iU,factText->jq,Parcel->js,least->jR,natWord->kb,Fact->kj,parcelIn->kQ,wider->kU,Res->kW,nodeNamed->lS,viewIn->lX,lastOf->lY,eventIn->mQ,layers->nR,widened->oS,nodeIn->oT,whole->oW,knows->oX,plus->oY,EV->oZ,limitRow->p_,nought->qc,sets->qf,closedAt->rH,readAll->rK,fracRow->rL,View->rR,tightest->tX,asPoints->tY,tableIn->tZ,flipped->t7,Node->t9,notBelow->vG,limits->xM,twoIn->xN,Bound->xO,MOST->xR,readFact->zV,epochOf->zZ,world->z_,Limit->Aa,clockStep->C3,optWord->C_,knownIn->Dc,factsIn->Dd,lifeOf->Dg,factIn->Dh,direct->Di,firstSome->Hf,overFrom->Hl,livingTo->Hm,through->Ho,farther->Hq,points->Hx,chosen->Hy,nodeEvents->O_,worldRow->Pk,ringFrom->Pm,tighter->Pr,tableOf->Pt,lagStep->Pu,clockOf->Pw,steps->PM,Table->PN,need->PX,RATE->PY,Mark->PZ,Lag->Q_,needlessLags->aeJ,readFacts->aeW,couldShow->aeX,pointsIn->ae3,learned->ae7,PARCELS->ae8,rowsOf->afg,rateIn->afh,putAll->afi,pinned->afj,openAt->afk,middle->afl,EVENTS->afm,liars->afs,keeps->aft,ageAt->afu,Event->afv,needlessMarks->asH,withReading->as2,natOrNone->atf,natFromTo->atg,markStep->att,highest->atJ,clashes->atL,fracIn->at1,shown->aut,chain->auu,SHOWN->auv,NODES->auw,MARKS->auy,walk->auH,ring->auI,LAGS->auJ,CUTS->auK
open List renaming range->aQ,length_map->bz,mem_of_getElem?->bM,getElem?_eq_getElem->cy,mem_range->cC,length_append->cE,getElem?_eq_some_iff->cU,replicate->cW,getElem?_map->c8,mem_cons_of_mem->df,mem_append->dC,mem_cons_self->dM,mem_map->eJ,map_append->eV,mem_cons->fQ,mem_singleton->fZ,length_cons->gm,map_cons->hY,take_length->ir,append_nil->iu,zip_cons_cons->jn,getD_eq_getElem?_getD->jO,zip_nil_right->j9,any_cons->ke,map_map->kg,getElem?_of_mem->kL,mem_filter->kR,any_eq_true->lT,map->l7,mem_append_right->mJ,map_congr_left->mK,all_eq_true->mL,nodup_cons->mM,any_nil->mT,rec->mV,length_eq_zero_iff->nI,length_singleton->nJ,mem_append_left->nL,length_take->oQ,range_succ->oR,lookup_cons->p9,length_nil->rJ,take_of_length_le->tT,map_inj_left->tV,length->t_,size_toArray->vE,getElem?_append_left->xB,length_filter_le->xC,mem_filterMap->xE,nodup_nil->xK,getElem?_range->zO,find?_eq_none->zP,foldl_append->zR,getLast?_cons_cons->CS,getElem?_eq_none->CT,take_add_one->CZ,length_range->C0,mem_flatMap->C4,filter_cons->C5,length_set->C7,foldl_cons->C8,dropLast_concat_getLast->G5,getElem?_append_right->G6,findSome?_eq_none_iff->G7,mem_of_find?_eq_some->G8,length_zipWith->G_,length_pos_iff->Ha,findSome?_cons->Hb,length_drop->Hh,ext_getElem->Hi,drop_length->Hj,forIn_cons->Hn,map_id->HE,mem_of_mem_eraseIdx->OV,getElem?_replicate->OX,mem_of_mem_take->O2,filterMap_cons->O4,getElem?_drop->O9,filter_congr->Pc,zipIdx_cons->Ph,getElem_mem->Pj,of_mem_zip->Pq,drop_drop->PB,zipWith->PU,findIdx?_eq_some_iff_getElem->aew,drop_eq_getElem_cons->aez,set_eq_of_length_le->aeA,mem_of_getLast?->aeK,getElem?_set_ne->aeL,getElem?_modify->aeM,map_singleton->aeQ,length_modify->aeR,filter_append->aeS,zip_nil_left->aeY,ext_getElem?->aeZ,append_assoc->ae0,find?_cons->afb,forIn_nil->afo,all_cons->afw,map_nil->afC,lookup->afI,foldl->afN,exists_of_findSome?_eq_some->asa,eq_nil_of_length_eq_zero->asd,getElem?_concat_length->asl,getLast?_eq_some_iff->asn,getElem?_zip_eq_some->aso,length_filterMap_le->asw,length_eraseIdx_le->asE,range_succ_eq_map->asN,head?_eq_getElem?->asO,getElem?_set_self->asP,take_append_drop->asX,getElem?_zipWith->asY,findSome?_append->asZ,eq_nil_or_concat->as0,length_dropLast->as4,dropLast_subset->as5,reverse_append->atc,mem_map_of_mem->atd,filterMap_map->atq,append_of_mem->atr,nodup_append->atB,flatMap_cons->atD,any_eq_false->atE,zipIdx_nil->aul,nil_append->aum,headD_cons->aun,filter_map->auo,count_cons->aup,map_drop->auN,set_set->auW,range'->au4,set->avx
open PySem.Str renaming ofString->aZ,empty->Rh
open Nat renaming le_refl->bf,gcd->dN,le_trans->eO,zero_le->eX,lt_of_le_of_lt->fP,mul_le_mul->f7,ne_of_lt->iw,lt_of_lt_of_le->iJ,mul_pos->iN,le_of_lt->mU,lt_irrefl->oU,lcm->o7,ne_of_gt->vL,zero_add->xP,pow_le_pow_right->zN,log2->Am,toDigits->Dm,lt_trans->Dn,one_pos->Dr,beq->HN,lt_succ_of_lt->Pe,le_of_succ_le->Pf,min_eq_left->Px,dvd_trans->PQ,pow_succ->P2,le_of_eq->P5,lt_trichotomy->ae2,dvd_lcm_left->ae5,div_le_self->afd,sub_self->afE,gcd_comm->afF,pow_add->afM,repr->afY,rec->af3,gcd_pos_of_pos_right->asC,toDigits_of_lt_base->asL,mul_div_cancel_left->asM,pow_le_pow_left->atp,mul_right_comm->aty,eq_zero_or_pos->atz,add_sub_cancel->atA,gcd_one_right->atX,gcd_dvd_right->atY,dvd_lcm_right->atZ,succ_ne_self->aue,lt_succ_self->auf,lt_log2_self->auh,le_add_right->aui,gcd_dvd_left->auj,dvd_mul_left->auk,succ_mul->au2,mul_comm->au3,pow_pos->ave,log2_lt->avf,le_succ->avg
open Option.some renaming inj->bt,injEq->asv
open PySem.W renaming Frag->bH,kas_item->fH,nsIn->jQ,keepIn->mO,findIn->mP,fnOf->rN,CodeHd->vH,instObj->xI,emptyDict->zQ,kla_obj->zU,boot_heap->Ak,codeIn->C9,isFn->Dk,envX->Dl,topFrame->Dw,callWith_K->Hc,kasC_bind->Hd,plainGet->He,mg_of->Hv,hasDictIn->O7,makesIn->Pg,lookIn->Po,kla_fn->Pp,cellsFrom_some->aeB,plainGet_of->aeI,plainOver->aeN,kasC_pure->aeO,takerIn->ae1,methodCall_KW->asr,kla_codeExpr->asy,kla_callFunE->asz,callWith_K0->asI,codeRec_of->asT,kasC_lift->as3,kat_cons->as8,kasC_get->as9,handedIn->ata,kat_yes->atl,abs_get->atm,kat_go->atv,alive->atR,kasC->at9,FnAt->aua,WellAll->avc
open VbdtCore renaming Bytes->bU,frac->cK,natOf->di,whole->dZ,zero->iL,valueOf->j_,between->kM,sub->kT,bytesOf->lR,add->lZ,less->mR,fracText->nM,neg->nS,natText->oO,isDigit->oP,mul->oV,splitAt->p8,cut->qd,digitsUp->rF,intText->tW,isZeroLed->vD,isName->vF,div->vJ,Word->vQ,lengthFuel->xD,fracOf->xH,Frac->xY,bytesIn->zT,floor->zY,atMost->C6,ceil->Df,digitsFast->OZ,isBetween->O3,isLetter->O5,must->Py,MOSTDIGITS->aeF,most->ae9,one->afn,least->ath,intOf->ati,name->atu,row->atM,inv->atO
open PySem.Heap renaming get?_push_of_some->dm,lt_size->dF,get?_push_size->gy,size_push->nQ,SameBut->HA,ExtBut->afH,get?_update_other->asJ,get?_update_self->asV
open Except renaming bind->dQ,error->iM,ok->qh
open Int renaming toNat_natCast->ed,le_of_lt->ja,natAbs_natCast->lQ,natAbs_mul->lU,toNat->o6,zero_sub->rQ,natCast_mul->zX,toNat_of_nonneg->CV,dvd_trans->Dj,mul_pos->Ds,not_lt->Du,mul_ediv_cancel_left->G9,le_refl->HF,mul_le_mul_of_nonneg_right->OS,natAbs_neg->PF,mul_assoc->PR,dvd_add->Rc,eq_ofNat_of_zero_le->aeE,ediv_le_self->ae6,ediv_nonneg->afe,mul_nonneg->afr,add_zero->afG,ofNat->afS,mul_le_mul_of_nonneg_left->asf,mul_lt_mul_of_pos_right->asm,le_of_mul_le_mul_right->asp,fdiv_eq_ediv_of_nonneg->asq,le_of_mul_le_mul_left->asx,pos_of_mul_pos_right->asF,natCast_dvd_natCast->asQ,natCast_ediv->auq,max_eq_right->aur,max_eq_left->auG,zero_add->au5,pow_succ->au6,mul_comm->au7,lt_asymm->au8,le_trans->au9,dvd_sub->avh
open PySem.Value renaming ref->eZ,type->Dt,none->afJ,bool->afK,int->afO,notImplemented->asU,isStrOf->auB,isInt->auS,str->avd
open PyProof.Rows renaming IntsAre->e9,envOfC->l9,Keyed->uh,SortSt->vP,callWith_type1->zM,AllBare->An,Call_->Au,SortKind->HM,tuples'->HQ,listUpdate_at->P_,joinParts_cons->afD,Constant_none->afL,Subscript_->afX,sortRuns'->af2,subscriptTail_builtinR->atx,iadd_int->atU,formatField_int_small->atV,FormattedValue_plain->aud,lt_int->auD,gt_int->auE,ge_int->auF,boot_enumerate->avq,mulOk_of_bits->av4,callWith_builtin1->av5
open False renaming elim->gn
open PySem.AutoSeq1 renaming wpAny_loadPart'->i_,sub_tuple_tuple->aey
open Vbdtah.Bound renaming mk->jr
open PyVbdtah renaming shape->ka,answers_asked->OW,answers->Pb,whole->atj,calls->atk
open Ne renaming symm->mY
open PyFlat renaming calls->nU,call->xS,rows->Dq,row->HG
open PySem.PyData renaming int->nW,eqvAll->vI,depthAll->xJ,eqv->Ae,canLay0->Hr,depth->Hz,canLayAll0->Pa
open Prod.mk renaming inj->qe,injEq->Hw
open PySem.SeqAt renaming shaped->rP,EqAt->Rj
open Sum renaming inr->ud,inl->HL
open Bind renaming bind->ue
open PySem.PassesOwn renaming never->xQ
open PySem.Obj renaming mapSeq->xT,data_mapFields->atw
open PySem.Expr.Name renaming elim->Ai
open Or renaming inr->Ao,inl->HR
open Array renaming length_toList->CU,size_map->Hs,map_push->aff,mk->afT,getElem?_eq_none->asG,toList_append->as7,find?_toList->ate,map_extract->ats,toList_map->atG,toList_inj->atH,ext->avi
open List.cons renaming inj->De,injEq->as6
open Except.ok renaming inj->Dv
open PySem.NameKind renaming free->Ht,cell->afa
open Char renaming toNat->HS
open PySem.Builtin.SmallTypes renaming nextOf->OR,ownedTupleHandOut->ar8
open Classical renaming byContradiction->OT,not_not->awi
open PySem.F renaming plainAttrs_list->OU,slot_zip_next->Pz,slot_list_append->aeD,type_list_append->ash,slot_tuple_iterator_next->asA,slot_list_extend->asW,slot_list_pop->atn,args_zip_next_1->auC,entry_zip_next->auM,slot_int_rmul->auT
open VbdtahNeutral renaming whole->OY,row->O1,asked1->asb,asked->avE
open PySem.Calls renaming spliced_cons->O6,spliced_nil->aeV,Name_function_global->asi,callWith_builtin->asB,Constant_str->atb
open PySem.SeqAt.EqAt renaming int_int->O8,str_int->ass,int_str->asu,same->aub,str_str->av6,str_none->av7,str_bool->av8,none_str->av9,none_int->awa,none_bool->awb,int_none->awc,int_bool->awd,bool_str->awe,bool_none->awf,bool_int->awg,bool_bool->awh
open PySem.MeetsSeq3 renaming plain_eq_loop->P9,entry_eq_loop->avw
open PySem.Expr.Subscript renaming elim->Ra
open PySem.Expr.Attribute renaming elim->Rb
open ForInStep renaming yield->Ri
open PySem.Expr.Tuple renaming elim->Rk
open PySem.Challenge renaming rw_driftclocks_s01_answers->aeu,pw_driftclocks_s01_answers->aev
open PySem.Builtin.List renaming listTooLong->aex,listFitsIndex->av3
open PySem.Around renaming frames_deeper->aeG,under_plainId->asK
open PySem.Builtin.Tuple renaming tupleCompareSizes->aeP
open PySem.Paired renaming cons->afB,length->auc
open Nat.Coprime renaming dvd_of_dvd_mul_left->ar9,symm->asD
open Vbdtah.Fact renaming moment->auZ,word->avj
open PySem.W.KatTups renaming nil->avC,cons->avD
open PySem.W.Looks renaming of_pure->avF,here->avG
open PySem.EqMixed renaming ne_str_int->avH,ne_str_bool->avI,ne_int_str->avJ,ne_bool_str->avK,eq_str_int->avL,eq_str_bool->avM,eq_int_str->avN,eq_bool_str->avO
open PySem.EqNone renaming ne_str_none->avP,ne_none_str->avQ,ne_none_none->avR,ne_none_int->avS,ne_none_bool->avT,ne_int_none->avU,ne_bool_none->avV,eq_str_none->avW,eq_none_str->avX,eq_none_none->avY,eq_none_int->avZ,eq_none_bool->av0,eq_int_none->av1,eq_bool_none->av2
noncomputable section
namespace HD
open PySem PySem.W PyProof.Rows
abbrev rS:OpenSpec:=aeu
abbrev pz:gz:=aev
def sa1:(sreFenced pz.main&&((moduleNames pz.main.body).isEmpty||lookedIntoSs (moduleNames pz.main.body) pz.main.body))=I:=Jo
def sa3:namesResolve pz=I:=Jo
def sa4:pz.boundNames.all (λn=> !worldNames.contains n)=I:=Jo
def sa5:noRoadLSs {strict:= !(afy pz.main.body).all cThrough.contains,foot:=O,bare:=(["vars","dir","locals"]:List Str).filter (readsOut pz pz.main.body)} pz.main.body=I:=Jo
def sa6:namesMeet pz pz.main.body (λa n=>attrL n)=I:=Jo
def sa7:((rS.prog.boundNames.contains rS.name,(!startupNames.contains rS.name)),specDef rS.prog rS.name rS.args.9,rS.args.all Codec.fits,(rS.ret.ok))=((I,(I)),I,I,(I)):=Jo
def pf{a b:Bool}(x:a=I)(y:b=I):(a&&b)=I:=by rw[x,y];rfl
def Rq:chainsOk (view pz [209])=I:=by decide +kernel
def Rr:opensWell pz=I:=by decide +kernel
def Rt:pz.tablesWhole=I:=by decide +kernel
def HW:rS.wellSaid=I:=
 let (a,b):=qe sa7
 let (c,d):=qe b
 let (e,f):=qe d
 let (g,h):=qe a
 pf (pf (pf (pf (pf (pf (pf (pf (pf sa1 sa3) sa4) sa5) sa6) g) h) c) e) f
end HD
namespace L2
open PySem PySem.Spec PyProof.Rows
abbrev jT:=Sum Int Str
def xZ:jT->aO->Bool|.inl k,v=>auS k v|.inr x,v=>auB x v
def af5(w:bS):jT->Int|.inl k=>hashInt k|.inr x=>hashStr w x
def rT:∀{k v},xZ k v=I->(∃i t,k=HL i/\v=afO i t)\/(∃x t,k=ud x/\v=avd x t)
 |.inl i,v,h=>by
  let(t,e):=Value.isInt_shape h;show .inl (i,t,J,e)
 |.inr x,v,h=>by
  let(t,e):=Value.isStrOf_shape h;show .inr (x,t,J,e)
def af6 i t:xZ (.inl i) (.int i t)=I:=by simp[xZ,auS]
def HX x t:xZ (.inr x) (.str x t)=I:=by simp[xZ,auB]
def af7 a b:decide ((HL a:jT)=HL b)=(a==b):=Ja
def af8 a b:decide ((ud a:jT)=ud b)=decide (a=b):=Ja
def af9 a b:decide ((HL a:jT)=ud b)=au:=iK (λq=>nomatch q)
def aga a b:decide ((ud a:jT)=HL b)=au:=iK (λq=>nomatch q)
def x_ prog w:PySem.KeyKind prog w jT where
 is:=xZ
 hash:=af5 w
 inj:=λv a b g f=>by
  rcases rT g with⟨i,t,rfl,rfl⟩|⟨x,t,rfl,rfl⟩
  .rcases rT f with⟨j,u,rfl,e⟩|⟨y,u,rfl,e⟩
   .injection e with c _;rw[c]
   show nomatch e
  rcases rT f with⟨j,u,rfl,e⟩|⟨y,u,rfl,e⟩
  .show nomatch e
  injection e with c _;rw[c]
 byValue:=λk v h=>by
  rcases rT h with⟨i,t,rfl,rfl⟩|⟨x,t,rfl,rfl⟩<;>rfl
 pyHash:=λd h=>by
  rcases rT d with⟨i,t,rfl,rfl⟩|⟨x,t,rfl,rfl⟩
  .show wpAny_pyHash_int h
  show wpAny_pyHash_str h
 eqBool:=λl d h=>by
  rcases rT l with⟨i,t,rfl,rfl⟩|⟨x,t,rfl,rfl⟩
  .rcases rT d with⟨j,u,rfl,rfl⟩|⟨y,u,rfl,rfl⟩
   .rw[af7]at h;show wpAny_eqBool_int h
   rw[af9]at h;show asu i t y u _ _ _ _ h
  rcases rT d with⟨j,u,rfl,rfl⟩|⟨y,u,rfl,rfl⟩
  .rw[aga]at h;show ass x t j u _ _ _ _ h
  rw[af8]at h;show wpAny_eqBool_str h
 «strs»:=λk x t v h=>by
  rcases rT h with⟨i,u,rfl,e⟩|⟨y,u,rfl,e⟩
  .show nomatch e
  injection e with c _
  subst c
  cases v<;>rfl
def agb prog w i t:(x_ prog w).is (.inl i) (.int i t)=I:=af6 i t
def agc prog w x t:(x_ prog w).is (.inr x) (.str x t)=I:=HX x t
set_option genInjectivity true in
inductive V where
 |aW|bl(b:Bool)|int(i:JH)|str(x:Str)|mZ(b:Array UInt8)|Av(b:UInt64)|ref(a:ax)|ty(n:String)
 deriving DecidableEq
def RelV:V->aO->Prop|.aW,u=>u=afJ|.bl b,u=>u=afK b|.int i,u=>∃t,u=afO i t|.str x,u=>∃t,u=avd x t|.mZ b,u=>∃t,u=Value.bytes b t|.Av b,u=>∃t,u=Value.float b t|.ref a,u=>u=eZ a|.ty n,u=>u=Dt n
abbrev bP:=bw RelV
def bP.length(r:bP xs a):=auc r
theorem bP.get:∀{xs}{a}{i:Nat}{x},bP xs a->xs[i]?=Y x->∃u,a[i]?=Y u/\RelV x u
 |_,_,_,_,.nil,e=>by simp at e
 |_,_,0,_,.cons r _,e=>by simp at e;subst e;show(_,J,r)
 |_,_,i+1,x,.cons _ t,e=>by
  let(u,b,c):=bP.get t (by exists e);show(u,by simpa using b,c)
theorem bP.set(r:RelV x u):∀{xs a} i,bP xs a->bP (xs.set i x) (a.set i u)|_,_,_,.nil=>.nil|_,_,0,.cons _ t=>.cons r t|_,_,i+1,.cons q t=>.cons q<|bP.set r i t
theorem bP.append:∀{xs a b c},bP xs b->bP a c->bP (xs++a) (b++c)|_,_,_,_,.nil,s=>s|_,_,_,_,.cons r t,s=>.cons r<|bP.append t s
theorem bP.take:∀{xs a} n,bP xs a->bP (xs.take n) (a.take n)|_,_,0,_=>.nil|_,_,_+1,.nil=>.nil|_,_,n+1,.cons r t=>.cons r<|bP.take n t
theorem bP.drop:∀{xs a} n,bP xs a->bP (xs.drop n) (a.drop n)|_,_,0,r=>r|_,_,_+1,.nil=>.nil|_,_,n+1,.cons _ t=>bP.drop n t
def nY:Option V->Option aO->Prop|some v,Y u=>RelV v u|none,O=>True|a,b=>False
def KV:List (a×V)->List (a×aO)->Prop:=bw λ(p:a×V) (q:a×aO)=>p.1=q.1/\RelV p.2 q.2
def kV:jT->V|.inl i=>.int i|.inr x=>.str x
set_option genInjectivity true in
inductive HO where|lst(xs:Ju)|tup(xs:Ju)|dK(a:List (jT×V))|dT(a:List (List jT×V))|set(S:Int->Bool)(n:JD)|ins(C dx:ax)(fs:List QD)|own(x:ax)|xd(fs:List QD)|met(f x:ax)|Aw(lo hi:JH)|fR(o:Obj)(u:HO)|vR(ps:Array aO)|tab(z:Array aO)(pos:Pos)(qual:Str)|rV(qual:Str)|ext(b:c_->Prop)
abbrev Hp:=ax->Option HO
def aA(H:Hp)(a:ax)(o:HO):Hp:=λb=>if b=a then Y o else H b
def aB:aA H a o a=Y o:=by delta aA;rw[ak J]
def aJ(h:b≠a):aA H a o b=H b:=by delta aA;rw[aj h]
def eK{H:Hp}(h:H a=Y o)(h':H b=Y u)(d:o≠u):a≠b:=Ja
def dH{H:Hp}(h:H a=Y o)(h':H b=O):a≠b:=Ja
section
variable (P:gz) (w:bS)
def kl(H:Hp)(h:c_)(a:ax):HO->Prop
 |.lst xs=>xs.9<=cz/\∃d n,bP xs d/\h.get? a=Y {cls:=J2,data:=.seq d.toArray n}
 |.tup xs=>xs.9<=cz/\∃d:List aO,bP xs d/\IsTup h a d.toArray
 |.dK e=>e.9<=cz/\(a==sysModules)=au/\∃vs,KV e vs/\h.DictOf (x_ P w) a vs
 |.dT e=>e.9<=cz/\(a==sysModules)=au/\∃xs:List (List jT×ax×aO),
   bw (λ(p:List jT×V) (q:List jT×ax×aO)=>p.1=q.1/\H q.2.1=Y (.tup<|p.1.map kV)/\RelV p.2 q.2.2) e xs/\
   ∃o k y,h.get? a=Y o/\o.ExactDict/\o.data=.dict k y/\k.toList=xs.map (entryOfKey<|tupleKind<|x_ P w)/\(xs.map (·.1)).Nodup
 |.set S n=>h.SetOf (intKind P w) a S n
 |.ins C g fs=>H g=Y (.own a)/\fs.9<=WN/\g≠a/\h.get? a=Y (xI C g)/\
   ∃b,h.Ns1 g b/\(∀f,nY (fs.lookup f)<|b f)/\afz b (fs.map (·.1))
 |.own B=>∃o,h.get? a=Y o
 |.xd fs=>∃b,h.Ns1 a b/\∀f,nY (fs.lookup f) (b f)
 |.Aw A hi=>∃t u v,h.get? a=Y {cls:=.type "range",data:=.fields #[.int A t,.int hi u,.int 1 v]}
 |.fR o u=>h.get? a=Y o/\kl H h a u
 |.vR ps=>h.get? a=Y {cls:=.none,data:=.fields ps}
 |.tab z pos i=>∃ps:Array aO,(∃m,ps=z++m)/\h.get? a=Y {cls:=.none,data:=.fields ps}/\TriplesOk ps.toList/\(codeAmong pos ps.toList=O\/∃c,codeAmong pos ps.toList=Y Za/\H c=Y (.rV i))
 |.rV i=>∃l vs t,h.get? a=Y l/\l.data=.fields vs/\vs[1]?=Y (.str i t)
 |.met f x=>h.get? a=Y (PySem.W.methodObj J7<|.ref x)
 |.ext j=>j h/\(∃o,h.get? a=Y o)/\∀r s:c_,j r->(∀o,r.get? a=Y o->s.get? a=Y o)->j s
def gS H h:=∀a o,H a=Y o->kl P w H h a o
end
section
variable {P:gz} {w:bS} {H H':Hp} {h h':c_} {a:ax} {o:HO}
theorem kl.lt(x:kl P w H h a o):a<h.objs.12:=by cases o with|lst xs=>let(_,_,_,_,e):=x;show dF e|tup xs=>let(_,_,_,p):=x;show p.lt|dK b=>let(_,_,_,_,o,_,_,e,_):=x;show dF e|dT b=>let(_,_,_,_,o,_,_,e,_):=x;show dF e|set S n=>let(o,_,_,_,e,_):=x;show dF e|ins C d fs=>let(_,_,_,e,_):=x;show dF e|own y=>let(_,e):=x;show dF e|xd fs=>let(_,(_,_,_,e,_),_):=x;show dF e|Aw g hi=>let(_,_,_,e):=x;show dF e|fR i u=>let(e,_):=x;show dF e|vR ps=>show dF<|x|tab z pos c=>let(_,_,e,_):=x;show dF e|rV c=>let(_,_,_,e,_):=x;show dF e|met f y=>show dF<|x|ext j=>let(_,(_,e),_):=x;show dF e
theorem Paired.HY:∀{c:List e}{d:List g},bw F c d->(∀a b,F a b->G a b)->bw G c d|_,_,.nil,_=>.nil|_,_,.cons r t,f=>.cons (f _ _ r)<|Paired.HY t f
def Paired.imp'{F G}(f:∀a b,F a b->G a b){c:List e}{d:List g}(r:bw F c d):bw G c d:=Paired.HY r f
def kl.ph(x:kl P w H h a o)(k:∀b u,(b=a\/H b=Y (.own a))->h.get? b=Y u->h'.get? b=Y u)
  (B:∀b,H b=Y (.own a)->H' b=Y (.own a)) (D:∀b xs,H b=Y UO->H' b=Y UO) (E:∀b q,H b=Y (.rV q)->H' b=Y (.rV q)):kl P w H' h' a o:=by
 induction o with
 |lst xs=>let(z,l,n,r,e):=x;show(z,l,n,r,W3)
 |tup xs=>let(z,l,r,g,e,c):=x;show(z,l,r,g,W3,c)
 |dK F=>let(z,y,vs,r,g,i,j,e,c):=x;show(z,y,vs,r,g,i,j,W3,c)
 |dT F=>
  let(z,y,xs,r,g,i,j,e,c):=x;show(z,y,xs,Paired.HY r λp q z=>(z.1,D _ _ z.2.1,z.2.2),g,i,j,W3,c)
 |set S n=>let(g,i,j,t,e,c):=x;show(g,i,j,t,W3,c)
 |ins C dx fs=>
  let(d,z,ne,e,m,(s,i,j,A,c),r):=x;show(B _ d,z,ne,W3,m,(s,i,j,k _ _ (.inr d) A,c),r)
 |own y=>let(g,e):=x;show(g,W3)
 |xd fs=>let(m,(s,i,j,e,c),r):=x;show(m,(s,i,j,W3,c),r)
 |Aw ab hi=>let(t,u,v,e):=x;show(t,u,v,W3)
 |fR g u L=>let(e,q):=x;show(k _ _ Qw e,L q)
 |vR ps=>
  let e:h.get? a=Y {cls:=.none,data:=.fields ps}:=x;show k a _ Qw e
 |tab z pos N=>
  let(ps,Q,e,R,c):=x;show(ps,Q,k a _ Qw e,R,c.imp (λz=>z) λ(c,T,A)=>(c,T,E _ _ A))
 |rV N=>
  let(X,vs,t,e,r):=x;show(X,vs,t,W3,r)
 |met f y=>
  let e:=x;show k a _ Qw e
 |ext φ=>let(p,(o,e),st):=x;show(st _ _ p λo q=>k _ _ Qw q,(o,W3),st)
def gS.lt(x:gS P w H h) e:=(x a o e).lt
def gS.fresh(x:gS P w H h)(e:h.objs.12<=a):H a=O:=by cases q:H a with|none=>rfl|some u=>show absurd (iJ (x.lt q) e)<|oU _
def gS.kept(x:gS P w H h)(k:∀b u,h.get? b=Y u->h'.get? b=Y u):gS P w H h':=λa o e=>
 (x a o e).ph (λb u c q=>k b u q) (λc q=>q) (λc c q=>q) λc c q=>q
def gS.laid(x:gS P w H h)(k:∀b u,h.get? b=Y u->h'.get? b=Y u)(g:h.objs.12<=a)(new:kl P w (aA H a o) h' a o):gS P w (aA H a o) h':=λb u e=>by
 let d:=x.fresh g;cases f:b=a
 .subst f;rw[aB]at e;cases e;show new
 rw[aJ f]at e;show (x b u e).ph (λc v i q=>k c v q) (λc q=>by rw[aJ<|dH q d];show q) (λc xs q=>by rw[aJ<|dH q d];show q) λc xs q=>by rw[aJ<|dH q d];show q
end
def Rd(H:Hp) a u:=H a=Y u\/∃o,H a=Y (.fR o u)
def Rd.ok(r:Rd H a u)(x:gS P w H h):kl P w H h a u:=by
 rcases r with r|⟨o,r⟩
 .show x a u r
 let(_,q):=x a _ r;show q
def ya:Option HO->Prop|some (.lst a)=>True|some (.dK a)=>True|some (.dT a)=>True|some (.set a b)=>True|some (.ins a b c)=>True|some (.ext a)=>True|a=>False
section
variable {P:gz} {w:bS} {H:Hp} {h h':c_} {x e:ax} {o':HO}
def gS.write(ok:gS P w H h)(a:ya<|H x)(he:e=x\/H e=Y (.own x))(k:∀b u,b≠e->h.get? b=Y u->h'.get? b=Y u)(g:∃u,h'.get? e=Y u)
  (new:kl P w (aA H x o') h' x o'):gS P w (aA H x o') h':=λb u q=>by
 let i:∀c y,H c=Y (.own y)->c≠x:=λc y r z=>by subst z;rw[r]at a;show a
 cases d:b=x
 .subst d;rw[aB]at q;cases q;show new
 rw[aJ d]at q;cases j:b=e
 .let f:H b=Y (.own x):=by
   lia
  rw[q]at f;cases f;let(v,l):=g;show(v,by rw[j];show l)
 show (ok b u q).ph (λc v m r=>k c v ?_ r) (λc r=>by rw[aJ<|i c b r];show r) (λc xs r=>by rw[aJ<|(λc xs r z=>by subst z;rw[r]at a;show a) c xs r];show r) λc xs r=>by rw[aJ<|(λc q r z=>by subst z;rw[r]at a;show a) c xs r];show r
 grind
end
structure Un(fs ex:Up)(H a:Hp)(h h':c_):Prop where
 keep:∀b o,h.get? b=Y o->H b=O->b∉fs->b∉ex->h'.get? b=Y o
 slot:∀b o,h.get? b=Y o->H b=O->b∈fs->b∉ex->∃c,h'.get? b=Y {o with slots:=c}
 free:∀b o,h.get? b=Y o->H b=O->b∉ex->a b=O
 there:∀b o,h.get? b=Y o->b∉ex->∃d,h'.get? b=Y d
 rW:∀b xs,H b=Y UO->a b=Y UO
 ql:∀b o u,H b=Y (.fR o u)->a b=Y (.fR o u)
 ui:∀b ps,H b=Y (.vR ps)->∃more,a b=Y (.vR<|ps++more)
section
variable {fs fs' ex ex':List ax} {H H1 H2:Hp} {h h1 h2 h':c_} {a x e:ax} {o:HO}
def Un.any(u:Un fs ex H H1 h h1)(q:h.get? b=Y c)(n:H b=O)(d:b∉ex):∃g,h1.get? b=Y {c with slots:=g}:=by
 cases f:b∈fs
 .show u.slot b c q n f d
 show(c.slots,u.keep b c q n f d)
def Un.kept(k:∀b u,h.get? b=Y u->h'.get? b=Y u):Un fs ex H H h h':=
 (λb c q a a a=>k b c q,λb c q a a a=>(c.slots,k b c q),λa a a n a=>n,λb c q a=>(c,k b c q),λa a q=>q,λa a a q=>q,λa ps q=>(#[],by rw[q];simp))
def Un.refl:Un fs ex H H h h:=Un.kept λa a q=>q
def Un.laid(k:∀b u,h.get? b=Y u->h'.get? b=Y u)(d:h.objs.12<=a)(c:H a=O):Un fs ex H (aA H a o) h h' where
 keep:=λb u q e e e=>k b u q
 slot:=λb u q e e e=>(u.slots,k b u q)
 free:=λb u q n e=>by rw[aJ<|iw<|iJ (dF q) d];show n
 there:=λb u q e=>(u,k b u q)
 rW:=λb xs q=>by rw[aJ<|dH q c];show q
 ql:=λb u xs q=>by rw[aJ<|dH q c];show q
 ui:=λb ps q=>(#[],by rw[aJ<|dH q c,q];simp)
def Un.write(d:ya<|H x)(he:e=x\/H e=Y (.own x))(k:∀b u,b≠e->h.get? b=Y u->h'.get? b=Y u)(i:∃u,h'.get? e=Y u):Un fs ex H (aA H x o) h h':=by
 let g:∀b,H b=O->b≠x:=λb n z=>by subst z;rw[n]at d;show d
 let f:∀b,H b=O->b≠e:=Ja
 let c:∀b u,H b=Y u->¬ya (Y u)->b≠x:=Ja
 show(λb u q n a a=>k b u (f b n) q,λb u q n a a=>(u.slots,k b u (f b n) q),λb u q n a=>by rw[aJ<|g b n];show n,λb u q a=>?_,
  λb xs q=>by rw[aJ<|c b _ q λz=>z];show q,λb u xs q=>by rw[aJ<|c b _ q λz=>z];show q,λb ps q=>(#[],by rw[aJ<|c b _ q λz=>z,q];simp))
 grind
end
def HZ(h:c_)(H:Hp):=(aQ h.objs.12).filter λa=>(H a).isSome
def qm h H:=PySem.W.hideAll h<|HZ h H
def agd h H:(qm h H).objs.12=h.objs.12:=PySem.W.hideAll_size _ _
def Ru(e:h.get? b=Y o)(n:H b=O):(qm h H).get? b=Y o:=
 PySem.W.hideAll_get _ e λa=>by
  let q:=(kR.1 a).2;ext
def agf(e:(qm h H).get? b=Y o):h.get? b=Y o/\H b=O:=by
 let a:=PySem.W.of_hideAll (HZ h H) e;show(a,?_);cases q:H b with
 |none=>rfl
 |some x=>
  haveI z:(qm h H).get? b=O:=PySem.W.hideAll_none (HZ h H)<|kR.2 (cC.2<|dF a,by simp[q]);lia
structure Mod(K:bH)(mg:Str->Option aO)(base:c_):Prop where
 rX:K.In base
 glob:base.Ns eY mg
 blt:∃a,base.Ns Aj a/\∀x:Str,x≠"__name__"->a x=nV x
 nolimit:base.NoLimit
structure Cx where
 prog:gz
 w:bS
 K:bH
 mg:Str->Option aO
 base:c_
 A:fA
 N:List Str
 iO:bc
 nZ:Hp
 env:Env
 outer:List Env
 stack:List Env
 ex:List ax
 fn:Str->Bool
 calm:Bool
 pn:List QA
 xe:aO->bc->Prop
def kY(l:List Env):=l.filterMap (·.frame)
abbrev Cx.fs(X:Cx):=kY X.outer
def DA(sc:l_) x:=sc.names.lookup x=Y .local\/sc.names.lookup x=Y .cell\/sc.names.lookup x=Y .free
def Loc(sc:l_) x:=sc.names.lookup x=Y .local\/sc.names.lookup x=Y .cell
def Look(env:Env)(h:c_)(m:Str->Option aO) x u:=
 (env.kindOf x=Y .local/\m x=Y u)\/((env.kindOf x=Y .cell\/env.kindOf x=Y .free)/\∃c,env.cells.lookup x=Y c/\h.IsCell c (Y u))
structure Cx.Ok(X:Cx):Prop where
 mod:Mod U2 X.mg YC
 kind:X.env.scope.kind=.function
 glob:X.env.globals=eY
 blt:X.env.builtins=Aj
 above:Ux<=QR
 inj:∀x y c,X.env.cells.lookup x=Y c->X.env.cells.lookup y=Y c->x=y
 has:∀x,(X.env.kindOf x=Y .cell\/X.env.kindOf x=Y .free)->∃c,X.env.cells.lookup x=Y c
 yb:∀x c,X.fn x=I->X.env.cells.lookup x=Y c->Ux<=c
 hd:X.calm=I->X.A.handled=O
 frames:X.A.frames=Y YR
 DB:YR=X.outer\/(YR=Jr::X.outer/\X.env.frame=Y QR)
 DC:∀b∈X.ex,b≠QR/\∀x c,X.env.cells.lookup x=Y c->c≠b
 bs:∀b o,X.base.get? b=Y o->X.iO.heap.get? b=Y o/\X.nZ b=O
 m7:X.base.objs.12<=Ux
 Ax:∀b o,X.base.get? b=Y o->b∉X.ex
 Ay:∀b∈X.ex,b∉X.fs
 km:X.iO.heap.FunFrames YC X.outer
 qo:∀b∈X.fs,X.nZ b=O
structure Inv(X:Cx)(yq:List QA)(a:List<|Option V)(H:Hp)(s:bc):Prop where
 ok:X.Ok
 os:s.os=X.iO.os
 bare:An s.gens
 base:Un X.fs X.ex X.nZ H X.iO.13 s.13
 loc:∃m,s.heap.Ns QR m/\∀(i:Nat) (x:Str) (v:V),X.N[i]?=Y x->a[i]?=Y (Y v)->DA Zb x->∃u,RelV v u/\Look Jr s.13 m x u
 cell:∀x c,X.env.cells.lookup x=Y c->∃v,s.heap.IsCell c v
 free:H QR=O
 ma:∀x c,X.env.cells.lookup x=Y c->H c=O
 pin:∀p∈X.pn++yq,s.heap.get? p.1=Y p.2/\H p.1=O/\p.1≠QR/\p.1∉X.fs/\∀v,p.2.data≠.cell v
 bo:gS UG X.w H s.13
 len:a.9=X.N.9
section
variable {X:Cx} {yq:List (ax × Obj)} {σ:List (Option V)} {H H':Hp} {s:bc} {h':c_}
def Cx.Ok.agg(ok:X.Ok)(e:X.base.get? b=Y o):b∉X.fs:=λa=>by let:=(ok.km.mem a).1;lia
theorem Inv.bs(a:Jp):∀b o,X.base.get? b=Y o->s.heap.get? b=Y o/\H b=O:=λb o e=>
 (a.base.keep b o (a.ok.bs b o e).1 (a.ok.bs b o e).2 (a.ok.agg e)<|a.ok.Ax b o e,a.base.free b o (a.ok.bs b o e).1 (a.ok.bs b o e).2<|a.ok.Ax b o e)
def Inv.bk(a:Jp):=λb o e=>(a.bs b o e).1
def Inv.mod(a:Jp):=a.ok.mod
def Inv.ju(a:Jp):=a.ok.mod.rX.keeps a.bk
def Inv.fr(a:Jp):∃m,Fr YC QR s.13 m:=
 let (m,b,_):=a.loc
 (m,b,a.bk,eO a.ok.m7 a.ok.above)
def Inv.lt(a:Jp):=let (_,b,_):=a.loc;b.lt
def Inv.sz(a:Jp):=eO a.ok.above<|mU a.lt
def Inv.H_(b:Jp){a:ax}(h:Jd<=a):a∉X.fs:=λc=>by let(_,o,d,_):=b.ok.km.mem c;show absurd (iJ (dF d)<|eO b.sz h)<|oU _
def Inv.uj(a:Jp):∀x c,X.env.cells.lookup x=Y c->c≠X.env.locals:=λx c e z=>by let(v,o,b,hd):=a.cell x c e;let(m,(d,f,g,h,i,_),_):=a.loc;lia
theorem Inv.km(a:Jp):s.heap.FunFrames YC X.outer:=by
 let all:∀l,(∀b∈kY l,b∈X.fs)->X.iO.heap.FunFrames YC l->s.heap.FunFrames YC l:=by
  intro l;induction l with
  |nil=>intro _ _;trivial
  |cons env r h=>
   intro g (i,(L,o,c,j,k,hd),m);let d:=g L (by delta kY;rw[O4,c];show dM);let(n,e):=a.base.slot L o k (a.ok.qo L d) d λz=>a.ok.Ay L z d
   show(i,(L,_,c,j,e,hd),h (λb f=>g b (by delta kY;rw[O4,c];show df _ f)) m)
 show all X.outer (λp f=>f) a.ok.km
theorem Inv.stack(a:Jp):s.heap.FunFrames YC X.stack:=by
 rcases a.ok.DB with e|⟨e,b⟩
 .rw[e];show a.km
 rw[e];let(m,c,_):=a.loc;show .cons (by rw[a.ok.kind];decide) b c (Heap.get?_none_of_le<|eO a.ok.m7 a.ok.above) a.km
def Inv.Az(c:Jp):∀b∈kY YR,b∈QR::X.fs:=λb a=>by
 rcases c.ok.DB with e|⟨e,d⟩
 .ext
 rw[e]at a;delta kY at a;rwa [O4,d]at a
def Inv.Rv(a:Jp):∀b∈kY YR,H b=O:=λb c=>by
 rcases fQ.1 (a.Az b c) with e|c
 .rw[e];show a.free
 let(_,o,d,_):=a.ok.km.mem c;show a.base.free b o d (a.ok.qo b c) λz=>a.ok.Ay b z c
def Inv.step{ch:Up}(a:Jp)
  (t:∀b∈ch,(b∈X.ex\/Ux<=b)/\b≠QR/\(∀x c,X.env.cells.lookup x=Y c->c≠b)/\∀p∈X.pn++yq,p.1≠b)
  (keep:∀b o,b≠QR->b∉X.fs->b∉ch->s.heap.get? b=Y o->H b=O->h'.get? b=Y o)
  (slot:∀b o,b≠QR->b∈X.fs->b∉ch->s.heap.get? b=Y o->H b=O->∃B,h'.get? b=Y {o with slots:=B}) (free:∀b o,b∉ch->s.heap.get? b=Y o->H b=O->H' b=O)
  (there:∀b o,b∉ch->s.heap.get? b=Y o->∃w,h'.get? b=Y w)
  (rW:∀b xs,H b=Y UO->H' b=Y UO) (ql:∀b o u,H b=Y (.fR o u)->H' b=Y (.fR o u)) (ui:∀b ps,H b=Y (.vR ps)->∃more,H' b=Y (.vR<|ps++more))
  (ns:∀m,s.heap.Ns QR m->h'.Ns QR m) (bo:gS UG X.w H' h') (P:An Q):
  Inv X yq σ H' {s with heap:=h',gens:=Q,drawn:=d',toks:=t'}:=by
 let D:∀b o,X.iO.heap.get? b=Y o->b≠X.env.locals:=λb o e=>iw<|iJ (dF e) a.ok.above
 let A:∀b o,X.iO.heap.get? b=Y o->b∉X.ex->b∉ch:=λb o e f h=>by
  rcases (t b h).1 with z|z
  .show f z
  show absurd (iJ (dF e) z)<|oU _
 let E:∀x c,X.env.cells.lookup x=Y c->∀v,s.heap.IsCell c v->h'.IsCell c v:=λx c e v (o,j,hd)=>by
  let y:=λz=>(t c z).2.2.1 x c e J
  cases F:c∈X.fs
  .let(B,q):=slot c o (a.uj x c e) F y j<|a.ma x c e;show(_,q,hd)
  show(o,keep c o (a.uj x c e) F y j<|a.ma x c e,hd)
 show(a.ok,a.os,P,Qu,?_,λx c e=>?_,?_,λx c e=>?_,λp L=>?_,bo,a.len)
 .let(B,g):=a.base.slot b o e n h f;let(R,C):=slot b _ (D b o e) h (A b o e f) g<|a.base.free b o e n f;show(R,C)
 .let(w,g):=a.base.there b o e f;show free b w (A b o e f) g<|a.base.free b o e n f
 .let(w,g):=a.base.there b o e f;show there b w (A b o e f) g
 .let(m1,g):=a.base.ui b ps e;grind
 .let(m,S,T):=a.loc;show(m,ns m S,λi x v g C e3=>?_);let(u,r,l):=T i x v g C e3;show(u,r,?_);rcases l with l|⟨k,c,e,z⟩
  .show .inl l
  show .inr (k,c,e,E x c e _ z)
 .let(v,z):=a.cell x c e;show(v,E x c e v z)
 .let(m,(o,_,_,j,_),_):=a.loc;show free _ o (λz=>(t _ z).2.1 J) j a.free
 .let(v,o,j,hd):=a.cell x c e;show free c o (λz=>(t c z).2.2.1 x c e J) j<|a.ma x c e
 let(e,n,ne,N,d):=a.pin p L;let y:=λz=>(t p.1 z).2.2.2 p L J
 show(keep p.1 p.2 ne N y e n,free p.1 p.2 y e n,ne,N,d)
def Inv.un(a:Jp)(u:Un X.fs [] H H' s.13 h')(bo:gS UG X.w H' h'):Inv X yq σ H' {s with heap:=h',toks:=t'}:=by
 let(m,(o,l,p,d,r),_):=id a.loc;let(q,g):=u.any d a.free Jc;show a.step (ch:=[]) (λw z=>nomatch z) (λb o w c w e n=>u.keep b o e n c Jc) (λb o w c w e n=>u.slot b o e n c Jc) (λb o w e n=>u.free b o e n Jc) (λb o w e=>u.there b o e Jc) u.rW u.ql u.ui (λt h=>by
  let(v,i,j,f,k):=h;rw[d]at f;cases f;show(_,i,j,g,k)) bo a.bare
def Inv.call(d:Jp)(u:Un (kY YR) ch H H' s.13 h')(bo:gS UG X.w H' h')(j:An k)
  (g:∀b∈ch,(b∈X.ex\/Ux<=b)/\b≠QR/\(∀x c,X.env.cells.lookup x=Y c->c≠b)/\∀p∈X.pn++yq,p.1≠b):
  Inv X yq σ H' {s with heap:=h',gens:=k,drawn:=y,toks:=t'}:=by
 let(m,(o,A,B,h,r),_):=id d.loc;let(C,f):=u.any h d.free λz=>(g _ z).2.1 J
 show d.step g (λb o f l a e n=>u.keep b o e n (λz=>(fQ.1<|d.Az b z).elim f l) a) (λb o F F a e n=>u.any e n a) (λb o a e n=>u.free b o e n a) (λb o a e=>u.there b o e a) u.rW u.ql u.ui (λD q=>by
  let(E,t,v,i,w):=q;rw[h]at i;cases i;show(_,t,v,f,w)) bo j
def Inv.turned(f:Jp)(k:∀b o,b≠a->s.heap.get? b=Y o->h'.get? b=Y o)(C:H a=O)(g:a≠QR)
  (i:a∈X.ex\/Ux<=a) (j:∀x c,X.env.cells.lookup x=Y c->c≠a) (l:∀p∈X.pn++yq,p.1≠a):Inv X yq σ H {s with heap:=h',toks:=t'}:=by
 let h:∀b u,H b=Y u->b≠a:=Ja
 show f.step (ch:=[a]) (λb t=>?_) (λb o D D d e D=>k b o (λz=>d<|by simp[z]) e) (λb o D D d e D=>(o.slots,k b o (λz=>d<|by simp[z]) e)) (λD D D D n=>n)
  (λb o d e=>(o,k b o (λz=>d<|by simp[z]) e)) (λD D e=>e) (λD D D e=>e) (λb ps e=>(#[],by rw[e];simp)) (λm w=>?_) (λb u e=>?_) f.bare
 .let e:b=a:=by exists t
  subst e;show(i,g,j,l)
 .let(o,y,A,B,r):=w;show(o,y,A,k _ o (mY g) B,r)
 show (f.bo b u e).ph (λc v d q=>k c v ?_ q) (λD q=>q) (λD D q=>q) λD D q=>q
 rcases d with z|z
 .rw[z];show h b u e
 show h c _ z
def Inv.tok(a:Jp) t:Inv X yq σ H {s with toks:=t}:=a.un Un.refl a.bo
theorem Inv.kept(a:Jp)(k:∀b u,s.heap.get? b=Y u->h'.get? b=Y u):Inv X yq σ H {s with heap:=h',toks:=t'}:=a.un (Un.kept k)<|a.bo.kept k
theorem Inv.laid{a:ax}(c:Jp)(k:∀b u,s.heap.get? b=Y u->h'.get? b=Y u)(d:Jd<=a)(new:kl UG X.w (aA H a o) h' a o):
  Inv X yq σ (aA H a o) {s with heap:=h',toks:=t'}:=c.un (Un.laid k d<|c.bo.fresh d)<|c.bo.laid k d new
theorem Inv.write(a:Jp)(c:ya<|H x)(he:e=x\/H e=Y (.own x))(k:∀b u,b≠e->s.heap.get? b=Y u->h'.get? b=Y u)(d:∃u,h'.get? e=Y u)
  (new:kl UG X.w (aA H x o) h' x o):Inv X yq σ (aA H x o) {s with heap:=h',toks:=t'}:=a.un (Un.write c he k d)<|a.bo.write c he k d new
def Inv.weak(a:Jp)(c:b.9=σ.9)(w:∀(i:Nat) v,b[i]?=Y (Y v)->σ[i]?=Y (Y v)):Inv X yq b H s:=
 (a.ok,a.os,a.bare,a.base,let (m,d,e):=a.loc;(m,d,λi x v f g h=>e i x v f (w i v g) h),a.cell,a.free,a.ma,a.pin,a.bo,c.trans a.len)
def Inv.DD(a:Jp)(h:∀p∈b,s.heap.get? p.1=Y p.2/\H p.1=O/\p.1≠QR/\p.1∉X.fs/\∀v,p.2.data≠.cell v):Inv X b σ H s:=
 (a.ok,a.os,a.bare,a.base,a.loc,a.cell,a.free,a.ma,λp c=>(dC.1 c).elim (λz=>a.pin p<|nL _ z)<|h p,a.bo,a.len)
def Ia{N:Zg}(c:N.Nodup){j:JD}(a:N[i]?=Y x)(b:N[j]?=Y x):i=j:=by let(f,d):=cU.1 a;let(g,e):=cU.1 b;show (List.getElem_inj c).1<|d.trans e.3
def Rx(f:Jp)(hN:Qz)(hi:X.N[i]?=Y x)(t:Loc Zb x)(r:RelV v u)
  (h:∀N,Inv X yq (σ.set i<|Y v) H N->(∃a,HA a s.13 N.13/\(a=QR\/X.env.cells.lookup x=Y a))->Q () N) (hf:autoParam (X.fn x=I\/X.env.scope.names.lookup x=Y .local) n'):bj M A (afZ Jr x u) Q E s:=by
 let(m,P,hl):=id f.loc;haveI ac:i<σ.9:=by rw[f.len];show (cU.1 hi).1
 let uj:=f.uj;haveI ae:∀{a:ax}{h':c_},(∃o,s.heap.get? a=Y o/\H a=O)->HA a s.13 h'->gS UG X.w H h':=λ{a h'} ha g b ob e=>by
  let(_,_,an):=ha;show (f.bo b ob e).ph (λc R w q=>(g.2 c ?_).trans q) (λK q=>q) (λK K q=>q) λK K q=>q
  lia
 rcases t with F|F
 .show wpAny_storeName_local F P (λh' ai g=>?_) (by rw[f.ok.kind];rfl);let(oL,_,_,al,_):=id P;show h _ (f.ok,f.os,f.bare,(λb o e n C t=>(g.2 b<|iw<|iJ (dF e) f.ok.above).trans<|f.base.keep b o e n C t,λb o e n C t=>?_,f.base.free,λb o e t=>?_,f.base.rW,f.base.ql,f.base.ui),(_,ai,λj y S l B T=>?_),λy c e=>?_,f.free,f.ma,λp hp=>?_,ae (oL,al,f.free) g,by exists f.len) (_,g,Qw)
  .let(sl,l):=f.base.slot b o e n C t;show(sl,(g.2 b<|iw<|iJ (dF e) f.ok.above).trans l)
  .let(o',l):=f.base.there b o e t;show(o',(g.2 b<|iw<|iJ (dF e) f.ok.above).trans l)
  .cases D:j=i
   .subst D;rw[hi]at l;cases l;rw[asP ac]at B;cases B;show(u,r,.inl (F,Jc))
   rw[aeL<|mY D]at B;let(u',r',q):=hl j y S l B T;show(u',r',?_);rcases q with⟨k,e⟩|⟨k,c,e,z⟩
   .show .inl (k,?_);let:y≠x:=λe=>D (Ia hN l<|e▸hi)
    ext
   show .inr (k,c,e,z.sameBut g<|uj y c e)
  .let(R,z):=f.cell y c e;show(R,z.sameBut g<|uj y c e)
  let(e,n,ne,nf,d):=f.pin p hp;show((g.2 p.1 ne).trans e,n,ne,nf,d)
 haveI ab:X.fn x=I:=by
  lia
 let(c,w):=f.ok.has x<|.inl F;let(R,z):=f.cell x c w;show wpAny_storeName_cell f.ok.kind F w z λh' af g=>?_;let(oc,am,ao):=id z;show h {s with heap:=h'} (f.ok,f.os,f.bare,(λb o e n C t=>(g.2 b<|iw<|iJ (dF e)<|f.ok.yb x c ab w).trans<|f.base.keep b o e n C t,λb o e n C t=>?_,f.base.free,λb o e t=>?_,f.base.rW,f.base.ql,f.base.ui),(m,P.sameBut g<|mY<|uj x c w,λj y S l B T=>?_),λy L e=>?_,f.free,f.ma,λp hp=>?_,ae (oc,am,f.ma x c w) g,by exists f.len) (c,g,.inr w)
 .let(sl,l):=f.base.slot b o e n C t;show(sl,(g.2 b<|iw<|iJ (dF e)<|f.ok.yb x c ab w).trans l)
 .let(o',l):=f.base.there b o e t;show(o',(g.2 b<|iw<|iJ (dF e)<|f.ok.yb x c ab w).trans l)
 .cases D:j=i
  .subst D;rw[hi]at l;cases l;rw[asP ac]at B;cases B;show(u,r,.inr (.inl F,c,w,af))
  rw[aeL<|mY D]at B;let(u',r',q):=hl j y S l B T;show(u',r',?_);rcases q with q|⟨k,L,e,z'⟩
  .show .inl q
  show .inr (k,L,e,z'.sameBut g ?_);intro rfl;show D<|Ia hN l<|f.ok.inj _ _ _ e w▸hi
 .cases ag:L=c
  .subst ag;show(_,af)
  let(w2,z2):=f.cell y L e;show(w2,z2.sameBut g ag)
 let(e,n,ne,nf,d):=f.pin p hp;show((g.2 p.1 ?_).trans e,n,ne,nf,d);intro q;ext
def Ib(b:Jp)(c:Qz)(hi:X.N[i]?=Y x)(d:Loc Zb x)(r:RelV v u)
  (h:∀a,Inv X yq (σ.set i<|Y v) H a->Q () a) (e:autoParam (X.fn x=I\/X.env.scope.names.lookup x=Y .local) n'):bj M A (afZ Jr x u) Q E s:=
 Rx b c hi d r (λa f g=>h a f) e
def Inv.agh(d:Jp)(e:a.os=s.os)(u:Un (kY YR) ch H H' s.13 a.13)(bo:gS UG X.w H' a.13)(f:An a.gens)
  (g:∀b∈ch,(b∈X.ex\/Ux<=b)/\b≠QR/\(∀x c,X.env.cells.lookup x=Y c->c≠b)/\∀p∈X.pn++yq,p.1≠b):Inv X yq σ H' a:=by
 let(h',h):=a;subst e;show d.call u bo f g
end
abbrev XK:=aO->Option ax->Hp->Prop
abbrev St:=List<|Option V
abbrev VK:=V->Hp->Prop
abbrev TE:=St->Hp->VK->Prop
abbrev TT:=St->Hp->(Bool->Hp->Prop)->Prop
abbrev TA:=St->Hp->(List V->Hp->Prop)->Prop
structure jU where
 nx:St->Hp->Prop
 rt:VK
 bk:St->Hp->Prop:=UH
 ct:St->Hp->Prop:=UH
abbrev TS:=jU->St->Hp->Prop
inductive EP X yq(b:St)(Q:VK) u c:Prop|mk v a(d:Inv X yq b a c)(r:RelV v u)(q:Q v a)
inductive TP X yq(c:St)(Q:Bool->Hp->Prop) b d:Prop|mk a(e:Inv X yq c a d)(q:Q b a)
inductive AP X yq(b:St)(Q:List V->Hp->Prop) c d:Prop|mk vs a(e:Inv X yq b a d)(r:bP vs c)(q:Q vs a)
inductive NP X yq(Q:St->Hp->Prop) c:Prop|mk(a:St) b(d:Inv X yq a b c)(q:Q a b)
inductive RP X yq(Q:VK) u b:Prop|mk v(c:St) a(d:Inv X yq c a b)(r:RelV v u)(q:Q v a)
def SP X yq(D:jU)(f:Flow)(a:bc):=
 match f with
 |.next=>NP X yq D.nx a
 |.brk=>NP X yq D.bk a
 |.cont=>NP X yq D.ct a
 |.ret u=>RP X yq D.rt u a
def PE X e(t:TE):=
 ∀(yq:List QA) (s:bc) (a:St) (H:Hp) (Q:VK),Inv X yq a H s->t a H Q->bj Jm Yp (bC e Jr) UB U0 s
def PT X e(t:TT):=
 ∀(yq:List QA) (s:bc) (a:St) (H:Hp) (Q:Bool->Hp->Prop),Inv X yq a H s->t a H Q->bj Jm Yp (isTrue e Jr (bC e Jr)) (TP X yq a Q) U0 s
def PW X e(t:TT):=
 ∀(whole:Sem aO) (yq:List QA) (s:bc) (a:St) (H:Hp) (Q:Bool->Hp->Prop),Inv X yq a H s->t a H Q->bj Jm Yp (isTrue e Jr whole) (TP X yq a Q) U0 s
def PW.pt(h:PW X e t):PT X e t:=h _
def PA X b(t:TA):=
 ∀(pos:Pos) (yq:List QA) (s:bc) (a:St) (H:Hp) (Q:List V->Hp->Prop),Inv X yq a H s->t a H Q->bj Jm Yp (spliced<|fI pos<|bB b Jr) (AP X yq a Q) U0 s
def PS X st(t:TS):=
 ∀(yq:List QA) (s:bc) (a:St) (H:Hp) (D:jU),Inv X yq a H s->t D a H->bj Jm Yp (exec st Jr) (SP X yq D) U0 s
def iP X st(t:TS):=
 ∀(yq:List QA) (s:bc) (a:St) (H:Hp) (D:jU),Inv X yq a H s->t D a H->bj Jm Yp (execs st Jr) (SP X yq D) U0 s
def bF{b:d->bc->Prop}(h:bj M A t Q E s)(c:∀a s,Q a s->b a s):=kX h c λe e x=>x
section
variable {X:Cx}
def bin(j:PE X a k)(l:PE X b m){c:St}{R:V->V->Hp->Prop}(n:Inv X yq c H s)(h:k c H λx g=>m c g λy d=>R x y d)
  {i:Type}{Q:i->bc->Prop}{f:aO->aO->Sem i}
  (o:∀v u e x y d,Inv X yq c d e->RelV x v->RelV y u->R x y d->bj Jm Yp (f v u) Q U0 e):
  bj Jm Yp (bC a Jr) (λv p=>bj Jm Yp (bC b Jr) (λu q=>bj Jm Yp (f v u) Q U0 q) U0 p) U0 s:=by
 show bF (j yq s c H _ n h) λv r (x,g,t,r1,w)=>bF (l yq r c g _ t w) λu e (y,d,z,A,B)=>o v u e x y d z r1 A B
def Z(i:JD):TE:=λa H Q=>∃v,a[i]?=Y (Y v)/\Q v H
abbrev tC(v:V):TE:=λa H Q=>Q v H
def Ry{pos}(g:X.N[i]?=Y x)(j:DA Zb x)(hd:autoParam (QM=au) b')(k:autoParam ((x=="__classdict__")=au) b'):PE X Z9 (Z i):=by
 intro yq s n H Q b (v,e,h);let(m,o,p):=b.loc;let(u,r,l):=p i x v g e j;let fin:EP X yq n Q u s:=(v,H,b,r,h);rcases l with⟨a,q⟩|⟨a,c,d,f⟩
 .show afU (at6 b.ok.kind a o q fin) hd
 rcases a with a|a
 .show afU (auz b.ok.kind a d f fin) hd
 show afU (wpAny_loadName_free b.ok.kind a d f fin k) hd
def e_:PE X (.Constant WD j pos) (tC WD):=λb b b H b a h=>wpAny_Constant_int (.int i,H,a.tok _,Qq,h)
def agi:PE X (.Constant (.bool b) j pos) (tC<|.bl b):=λc c c H c a h=>Constant_bool (.bl b,H,a,J,h)
def Ic:PE X (.Constant .none j pos) (tC .aW):=λb b b H b a h=>afL (.aW,H,a,J,h)
def agj:PE X (.Constant (.str x) j pos) (tC<|.str x):=λb b b H b a h=>atb (.str x,H,a.tok _,Qq,h)
def Gl(X:Cx) x:=X.env.kindOf x=Y .globalImplicit
def AB{b:St}(a:Inv X yq b H s)(c:Gl X x)(d:X.mg x=Y u)(h:Q u s)
  (hd:autoParam (QM=au) b'):bj Jm Yp (bC Z9 Jr) Q E s:=
 asi a.ok.kind c (Calls.loadGlobal_global (by rw[a.ok.glob];show a.mod.glob.keeps a.bk) d h) hd
def rY{E}{b:St}{pos}(a:Inv X yq b H s)(c:Gl X x)(d:X.mg x=O)(e:nV x=Y u)(h:Q u s)
  (f:autoParam (x≠"__name__") b') (hd:autoParam (QM=au) b'):bj Jm Yp (bC Z9 Jr) Q E s:=by
 let(j,g,i):=a.mod.blt;show asi a.ok.kind c (Calls.loadGlobal_builtin (by rw[a.ok.glob];show a.mod.glob.keeps a.bk) d (by rw[a.ok.blt];show g.keeps a.bk) ((i x f).trans e) h) hd
def Rz(b:Gl X x)(c:X.mg x=Y u)(r:RelV v u)(hd:autoParam (QM=au) b'):PE X Z9 (tC v):=
 λd d d H d a h=>AB a b c (v,H,a,r,h) hd
variable {a b:dj} {ta tb:TE} {pos:Pos}
def PC X op a b(t:TE):=
 ∀(yq:List QA) (s:bc) (c:St) (H:Hp) (Q:VK),Inv X yq c H s->t c H Q->
  bj Jm Yp (bC a Jr) (λv d=>bj Jm Yp (bC b Jr) (λu e=>bj Jm Yp (gJ op v u) (EP X yq c Q) U0 e) U0 d) U0 s
def Ie b(h:op≠.In)(e:op≠.NotIn):rM op b=au:=by
 let c:(op==CmpOp.In)=au:=Ja
 let d:(op==CmpOp.NotIn)=au:=Ja
 cases b with
 |Set a k p=>
  change (k==0&&(op==.In||op==.NotIn)&&_)=au
  rw[c,d];simp
 |_=>rfl
abbrev agk(Q:VK)(x:V) H:=Q (.bl<|decide<|x=.aW) H
abbrev gT(ta:TE):TE:=λc H Q=>ta c H<|agk Q
abbrev agl(Q:VK)(x:V) H:=Q (.bl<|!decide (x=.aW)) H
abbrev qp(ta:TE):TE:=λc H Q=>ta c H<|agl Q
def RelV.RB(r:RelV x v):(v==afJ)=decide (x=.aW):=by cases x with|aW=>cases r;rfl|bl a=>cases r;rfl|int a=>let(t,rfl):=r;rfl|str a=>let(t,rfl):=r;rfl|mZ a=>let(t,rfl):=r;rfl|Av a=>let(t,rfl):=r;rfl|ref a=>cases r;rfl|ty a=>cases r;rfl
def DE(c:Wb):PC X .Is a (.Constant .none j k) (gT ta):=λyq s d H Q e h=>bF (c yq s d H _ e h) λv l (x,f,g,r1,i)=>afL<|is_none_gen (.bl _,f,g,by rw[r1.RB];rfl,i)
def DF(c:Wb):PC X .IsNot a (.Constant .none j k) (qp ta):=λyq s d H Q e h=>bF (c yq s d H _ e h) λv l (x,f,g,r1,i)=>afL<|isnot_none_gen (.bl _,f,g,by rw[r1.RB];rfl,i)
def tB(t:TE):TT:=λd H Q=>t d H λx e=>∃c,x=.bl c/\Q c e
def RD(h:PC X op a b t)(c:autoParam (rM op b=au) B'):PE X Z8 t:=λyq s d H Q e f=>avm (h yq s d H Q e f) c
def um(h:PC X op a b t)(e:autoParam (rM op b=au) B'):PT X Z8 (tB t):=by
 show λyq s f H Q g i=>atP (bF (h yq s f H _ g i) λv n e=>bF e λu o j=>bF j fun c p (x,k,l,r1,m)=>?_) e
 let(d,rfl,q):=m;cases r1;show Hk (k,l,q)
def vT(h:PE X e t)(he:autoParam (∀whole,isTrue e Jr whole=(do let v <-whole;o8 e.pos;l8 [v] (truthy v))) i'):PT X e (tB t):=by
 show λyq s c H Q f g=>isTrue_plain (bF (h yq s c H _ f g) fun v l (x,i,j,r1,k)=>?_)<|he _
 let(d,rfl,q):=k;cases r1;show Hk (i,j,q)
variable {tA tB':TT} {rest:List dj}
abbrev BK:=Bool->Hp->Prop
abbrev agm(u:TT) d(Q:BK) c H:=if c=I then u d H Q else Q au H
abbrev jb(t u:TT):TT:=λc H Q=>t c H<|agm u c Q
abbrev kOr(u:TT) d(Q:BK) c H:=if c=I then Q I H else u d H Q
abbrev fS(t u:TT):TT:=λc H Q=>t c H<|kOr u c Q
abbrev agn(Q:BK) c H:=Q (!c) H
abbrev jV(t:TT):TT:=λc H Q=>t c H<|agn Q
def ago(d:PT X a tA):PW X (.BoolOp .And [a] pos) tA:=by
 show λi yq s f H Q g h=>isTrue_and<|bF (d yq s f H Q g h) λc j e=>?_
 cases c with|true=>show isTrue_and_nil e|false=>show e
def RG(d:PT X a tA):PW X (.BoolOp .Or [a] pos) tA:=by
 show λi yq s f H Q g h=>isTrue_or<|bF (d yq s f H Q g h) λc j e=>?_
 cases c with|false=>show isTrue_or_nil e|true=>show e
def agp(i:PT X a tA)(j:PW X (.BoolOp .And (b::rest) pos) tB'):PW X (.BoolOp .And (a::b::rest) pos) (jb tA tB'):=by
 show λk yq s d H Q l h=>isTrue_and<|bF (i yq s d H _ l h) fun c m (e,f,g)=>?_
 cases c with|true=>show j k yq m d e Q f g|false=>show(e,f,g)
def RH(i:PT X a tA)(j:PW X (.BoolOp .Or (b::rest) pos) tB'):PW X (.BoolOp .Or (a::b::rest) pos) (fS tA tB'):=by
 show λk yq s d H Q l h=>isTrue_or<|bF (i yq s d H _ l h) fun c m (e,f,g)=>?_
 cases c with|true=>show(e,f,g)|false=>show j k yq m d e Q f g
def agq(e:PT X a tA):PT X (.UnaryOp .Not a pos) (jV tA):=λyq s f H Q g h=>isTrue_not<|bF (e yq s f H (λc d=>Q (!c) d) g h) λ_ _ (d,i,j)=>(d,i,j)
def uo(ta tb:TE):TE:=λd H Q=>ta d H λx e=>∃c,x=.bl c/\if c=I then tb d e Q else Q (.bl au) e
def vU(ta tb:TE):TE:=λd H Q=>ta d H λx e=>∃c,x=.bl c/\if c=I then Q (.bl I) e else tb d e Q
def RJ(h:PE X a t):PE X (.BoolOp op [a] pos) t:=λyq s c H Q d e=>BoolOp_one<|h yq s c H Q d e
def DG(i:Wb)(j:PE X (.BoolOp .And (b::rest) pos) tb):PE X (.BoolOp .And (a::b::rest) pos) (uo ta tb):=by
 show λyq s e H Q k h=>BoolOp_and<|bF (i yq s e H _ k h) fun v l (x,f,g,r1,d)=>?_
 let(c,rfl,d):=d;cases r1;apply Hk;cases c with|true=>show j yq l e f Q g d|false=>show(.bl au,f,g,J,d)
def Ig(i:Wb)(j:PE X (.BoolOp .Or (b::rest) pos) tb):PE X (.BoolOp .Or (a::b::rest) pos) (vU ta tb):=by
 show λyq s e H Q k h=>BoolOp_or<|bF (i yq s e H _ k h) fun v l (x,f,g,r1,d)=>?_
 let(c,rfl,d):=d;cases r1;apply Hk;cases c with|false=>show j yq l e f Q g d|true=>show(.bl I,f,g,J,d)
abbrev kIf(a b:TE) d Q c H:=if c=I then a d H Q else b d H Q
abbrev rZ(t:TT)(a b:TE):TE:=λc H Q=>t c H<|kIf a b c Q
def DH(k:PT X c tA)(l:Wb)(m:PE X b tb):PE X (.IfExp c a b pos) (rZ tA ta tb):=by
 show λyq s e H Q n h=>wpAny_IfExp<|bF (k yq s e H _ n h) fun d f (g,i,j)=>?_
 cases d with|true=>show l yq f e g Q i j|false=>show m yq f e g Q i j
end
def aq(K:bH) H a xs:=
 Rd H a JX\/
  ∃(o:Obj) (b:Array aO) (n:JD),K.lookup a=Y o/\o.cls=.type "list"/\o.dict=O/\o.data=.seq b n/\b.12<=cz/\bP xs b.toList
def bR(K:bH) H a xs:=
 Rd H a UO\/
  ∃(o:Obj) (b:Array aO) (n:JD),K.lookup a=Y o/\o.cls=.type "tuple"/\o.data=.seq b n/\b.12<=cz/\bP xs b.toList
def agr:aO->Option V|.none=>Y .aW|.bool b=>Y<|.bl b|.int i c=>Y<|.int i|.str x c=>Y<|.str x|.bytes b c=>Y<|.mZ b|.float b c=>Y<|.Av b|.ref a=>Y<|.ref a|.type n=>Y<|.ty n|c=>O
def RelV.abs(r:RelV x u):agr u=Y x:=by cases x with|aW=>cases r;rfl|bl a=>cases r;rfl|int a=>let(t,rfl):=r;rfl|str a=>let(t,rfl):=r;rfl|mZ a=>let(t,rfl):=r;rfl|Av a=>let(t,rfl):=r;rfl|ref a=>cases r;rfl|ty a=>cases r;rfl
def RelV.inj(r:RelV x u)(q:RelV y u):=bt<|r.abs.symm.trans q.abs
theorem bP.inj:∀{xs a b},bP xs b->bP a b->xs=a|_,_,_,.nil,.nil=>rfl|_,_,_,.cons r t,.cons c t'=>by rw[r.inj c,bP.inj t t']
section
variable {X:Cx} {yq:List (ax × Obj)} {σ:St} {H:Hp} {s:bc} {a:ax} {xs ys:List V}
def aq.of{K}(h:H a=Y JX):aq K H a xs:=.inl<|.inl h
def bR.of{K}(h:H a=Y UO):bR K H a xs:=.inl<|.inl h
def Inv.list(c:Jp)(h:aq U2 H a xs):∃b:List aO,bP xs b/\PlainL s.13 a b.toArray/\xs.9<=cz:=by
 rcases h with h|⟨o,b,n,d,f,hd,g,i,r⟩
 .let(z,b,n,r,e):=h.ok c.bo;show(b,r,(_,n,e,J,J,J),z)
 show(b.toList,r,(o,n,c.ju a o d,f,hd,by exists g),?_);let e:=r.9;ext
def Inv.tuple(c:Jp)(h:bR U2 H a xs):∃b:List aO,bP xs b/\IsTup s.13 a b.toArray/\xs.9<=cz:=by
 rcases h with h|⟨o,b,n,d,f,g,i,r⟩
 .let(z,b,r,p):=h.ok c.bo;show(b,r,p,z)
 show(b.toList,r,(o,c.ju a o d,f,n,by exists g),?_);let e:=r.9;ext
def Inv.DI(b:Jp)(h:aq U2 H a xs)(h':aq U2 H a ys):xs=ys:=by
 let(g,r,(o,n,e,_,_,d),_):=b.list h;let(i,j,(k,l,c,_,_,f),_):=b.list h';rw[e]at c;cases c;rw[d]at f;injection f with m _
 let:g=i:=Ja
 subst this;show r.inj j
def Inv.RK(b:Jp)(h:bR U2 H a xs)(h':bR U2 H a ys):xs=ys:=by
 let(g,r,(o,e,_,n,d),_):=b.tuple h;let(i,j,(k,c,_,l,f),_):=b.tuple h';rw[e]at c;cases c;rw[d]at f;injection f with m _
 let:g=i:=Ja
 subst this;show r.inj j
end
abbrev Cx.qr(X:Cx) E:={X with xe:=E}
abbrev Cx.vV(X:Cx):=X.qr λa a=>False
theorem Cx.Ok.qr{X:Cx}(ok:X.Ok) E:(X.qr E).Ok:=
 Z0
def Cx.Ok.uq{X:Cx}(ok:(X.qr E).Ok):X.Ok:=
 Z0
section
variable {X:Cx} {yq:List (ax × Obj)} {σ:St} {H:Hp} {s:bc} {E:aO->bc->Prop}
theorem Inv.qr(a:Jp) E:Inv (X.qr E) yq σ H s:=(a.ok.qr E,a.os,a.bare,a.base,a.loc,a.cell,a.free,a.ma,a.pin,a.bo,a.len)
theorem Inv.uq(a:Inv (X.qr E) yq σ H s):Inv X yq σ H s:=(a.ok.uq,a.os,a.bare,a.base,a.loc,a.cell,a.free,a.ma,a.pin,a.bo,a.len)
theorem SP.uq(h:SP (X.qr E) yq D f d):SP X yq D f d:=by cases f with|next=>let(a,b,c,q):=h;show(a,b,c.uq,q)|brk=>let(a,b,c,q):=h;show(a,b,c.uq,q)|cont=>let(a,b,c,q):=h;show(a,b,c.uq,q)|ret u=>let(v,a,b,c,r,q):=h;show(v,a,b,c.uq,r,q)
theorem iP.vV{st}(h:iP X.vV st t):iP X st t:=λyq s σ H D a b=>
 kX (h yq s σ H D (a.qr _) b) (λc c q=>q.uq) λc c z=>gn z
end
section
variable {X:Cx} {st:eP} {rest:List eP} {t u:TS} {e:dj} {te:TE} {pos:Pos}
abbrev ba:TS:=λD a H=>D.nx a H
abbrev RL(u:TS)(D:jU):={D with nx:=u D}
abbrev ay(t u:TS):TS:=λD a H=>t (RL u D) a H
def yc:iP X [] ba:=λc c a H c b h=>PH (a,H,b,h)
def eQ(a:PS X st t)(b:iP X rest u):iP X (st::rest) (ay t u):=by
 show λyq s c H D d h=>au1<|bF (a yq s c H {D with nx:=u D} d h) λf g q=>?_
 cases f with
 |next=>
  let(i,j,k,q):=q;show b yq g i j D k q
 |ret v=>show q
 |brk=>show q
 |cont=>show q
def fB(a:PS X st t):iP X [st] t:=by
 show λyq s b H D c h=>au1<|bF (a yq s b H D c h) λf d q=>?_
 cases f with|next=>show PH q|ret v=>show q|brk=>show q|cont=>show q
abbrev AD:TS:=λD a H=>D.ct a H
def ags:PS X (.Continue pos) AD:=λc c a H c b h=>wpAny_Continue (a,H,b,h)
def Inv.quiet{a:St}(b:Inv X yq a H s):interactive Jr=au:=by simp[interactive,b.ok.kind]
abbrev agt(D:jU) a(_:V) H:=D.nx a H
abbrev cG(te:TE):TS:=λD a H=>te a H<|agt D a
def Ih(he:PE X e te)(c:autoParam (vN e O Yd Jr=pure au) a'):PS X (.Expr e pos) (cG te):=λyq s a H D b h=>wpAny_Expr_any (bF (he yq s a H _ b h) λv i (x,d,f,r1,g)=>(a,d,f,g)) b.quiet c
abbrev aH(te:TE):TS:=λD a H=>te a H D.rt
def iQ(he:PE X e te):PS X (.Return (Y e) pos) (aH te):=λyq s a H D b h=>wpAny_Return_some<|bF (he yq s a H _ b h) λv g (x,c,d,r1,f)=>(x,a,c,d,r1,f)
abbrev Ii:TS:=λD a H=>D.rt .aW H
def agu:PS X (.Return O pos) Ii:=λc c a H c b h=>wpAny_Return_none (.aW,a,H,b,J,h)
abbrev agv(t u:TS) D a c H:=if c=I then t D a H else u D a H
abbrev a_(c:TT)(t u:TS):TS:=λD a H=>c a H<|agv t u D a
def vW(l:PT X c m)(n:iP X a t)(o:iP X b u):PS X (.If c a b pos) (a_ m t u):=by
 show λyq s f H D p h=>wpAny_If<|bF (l yq s f H _ p h) fun d g (i,j,k)=>?_
 cases d with|true=>show n yq g f i D j k|false=>show o yq g f i D j k
end
abbrev TG:=V->St->Hp->(St->Hp->Prop)->Prop
abbrev AE:=List V->St->Hp->(St->Hp->Prop)->Prop
def PG X target(t:TG):=
 ∀(yq:List QA) (s:bc) (a:St) (H:Hp) (v:V) (u:aO) (Q:St->Hp->Prop),Inv X yq a H s->RelV v u->t v a H Q->
  bj Jm Yp (Dz target Jr u) (λc b=>NP X yq Q b) U0 s
def yd X c(t:AE):=
 ∀(yq:List QA) (s:bc) (a:St) (H:Hp) (vs:Ju) (b:Wz) (Q:St->Hp->Prop),Inv X yq a H s->bP vs b->t vs a H Q->
  bj Jm Yp (assignInOrder ((ub c Jr).map (·.2)) b) (λe d=>NP X yq Q d) U0 s
abbrev Ij:=V->V->V->Hp->(Hp->Prop)->Prop
def RM X(t:Ij):=
 ∀(yq:List QA) (s:bc) (a:St) (H:Hp) (o i v:V) (b c u:aO) (Q:Hp->Prop),Inv X yq a H s->RelV o b->RelV i c->RelV v u->t o i v H Q->
  bj Jm Yp (setItem b c u) (λf e=>∃d,Inv X yq a d e/\Q d) U0 s
abbrev Ik:=V->V->Hp->VK->Prop
def RN X op(t:Ik):=
 ∀(yq:List QA) (s:bc) (a:St) (H:Hp) (x y:V) (v u:aO) (Q:VK),Inv X yq a H s->RelV x v->RelV y u->t x y H Q->
  bj Jm Yp (af0 op v u) UB U0 s
section
variable {X:Cx} {pos:Pos}
abbrev aC(i:JD):TG:=λv a H Q=>Q (a.set i<|Y v) H
def agw(a:Qz)(hi:X.N[i]?=Y x)(b:Loc Zb x)(c:autoParam (X.fn x=I\/X.env.scope.names.lookup x=Y .local) n'):PG X Z9 (aC i):=λyq s f H v u Q d r h=>auQ<|Ib d a hi b r (λg e=>(_,H,e,h)) c
def gB:AE:=λvs a H Q=>vs=[]/\Q a H
def cX(t:TG)(u:AE):AE:=λvs a H Q=>∃v r,vs=v::r/\t v a H λb c=>u r b c Q
def RO:yd X [] gB:=by intro yq s a H vs c Q b r (e,h);show assignInOrder_nil (a,H,b,h)
def Il(b:PG X e t)(c:yd X a u)
  (d:autoParam ((ub (e::a) Jr).map (·.2)=Dz e Jr::(ub a Jr).map (·.2)) a'):yd X (e::a) (cX t u):=by
 intro yq s f H vs p Q g r (v,q,i,h);subst i;cases r with
 |cons r j=>
  rw[d];show assignInOrder_cons<|bF (b yq s f H _ _ _ g r h) λ_ k (l,m,n,o)=>c yq k l m _ _ Q n j o
def gC(K:bH)(n:JD)(t:AE):TG:=λv b H Q=>∃a xs,v=.ref a/\bR K H a xs/\xs.9=n/\t xs b H Q
def RQ{k}(g:X.calm=I)(h:yd X c t)
  (i:autoParam ((ub c Jr).9=n) a') (j:autoParam ((ub c Jr).findIdx? (·.1)=O) a'):PG X (.Tuple c k pos) (gC U2 n t):=by
 intro yq s f H v u Q d r (a,xs,l,m,p,q);subst l;cases r;let(A,w,x,B):=d.tuple m;show assign_Tuple_tuple (d.ok.hd g) x (by simp[i,<-p,w.9]) j λh' y=>?_
 let z:Inv X yq f H {s with heap:=h'}:=d.kept λb o e=>y b o (iw<|dF e) e
 show h yq _ f H xs _ Q z (by ext) q
abbrev agx a(Q:St->Hp->Prop) H:=Q a H
abbrev agy(t:Ij) v a Q o i H:=t o i v H<|agx a Q
abbrev agz(b:TE) t v a Q o H:=b a H<|agy t v a Q o
abbrev vX(b c:TE)(t:Ij):TG:=λv a H Q=>b a H<|agz c t v a Q
def RR(d:PE X o e)(hi:PE X i f)(g:RM X t)
  (j:autoParam (∀v,Dz (.Subscript o i pos) Jr v=(do
   let a <-l8 [v] (bC o X.env)
   let b <-l8 [v,a] (bC i X.env)
   o8 pos
   l8 [v,a,b] (setItem a b v)
   release [v,a,b] [])) i'):PG X (.Subscript o i pos) (vX e f t):=by
 intro yq s c H v u Q k r h;rw[j];show bg<|HB<|bF (d yq s c H _ k h) λa l (x,m,n,r1,p)=>bg<|HB<|bF (hi yq l c m _ n p) λb q (y,w,z,A,B)=>bg<|P6<|bg<|HB<|bF (g yq q c w x y v a b u _ z r1 A r B) λ_ F (C,D,E)=>wpAny_release (c,C,D,E)
abbrev RU(g:TG)(D:jU) a x H:=g x a H D.nx
abbrev aP(b:TE)(g:TG):TS:=λD a H=>b a H<|RU g D a
def RV(he:PE X e c)(d:PG X a g)(f:autoParam (swapsWithSole [a] e Yd Jr=pure au) a')(i:autoParam (swappedStores [a] e Jr=pure O) a')
  (j:autoParam ((ub [a] Jr).map (·.2)=[Dz a Jr]) a'):PS X (.Assign [a] e pos) (aP c g):=by
 show λyq s b H D k h=>wpAny_Assign_stores (bF (he yq s b H _ k h) fun v l (x,m,n,r1,o)=>?_) f i
 rw[j];show bF (d yq l b m x v _ n r1 o) λr p q=>q
def agA(a:Qz)(hi:X.N[i]?=Y x)(b:Loc Zb x)(he:PE X e c)(d:autoParam (vN e (Y<|.Name x f) Yd Jr=pure au) a')(g:autoParam (X.fn x=I\/X.env.scope.names.lookup x=Y .local) n'):
  PS X (.Assign [.Name x f] e pos) (aP c<|aC i):=by
 show λyq s j H D k h=>wpAny_Assign_Name (bF (he yq s j H _ k h) λv p (y,l,m,r1,n)=>Ib m a hi b r1 (λq o=>(_,l,o,n)) g) d
def n8(i:JD)(b:TE)(c:Ik):TS:=λD a H=>∃x,a[i]?=Y (Y x)/\b a H λy d=>c x y d λz e=>D.nx (a.set i<|Y z) e
def agB(g:Qz)(hi:X.N[i]?=Y x)(d:Loc Zb x)(he:PE X e j)(n:RN X op o)(p:autoParam (X.fn x=I\/X.env.scope.names.lookup x=Y .local) n'):
  PS X (.AugAssign (.Name x ac) op e pos) (n8 i j o):=by
 intro yq s f H D b (v,q,h);let(m,t,A):=b.loc;let(u,r,l):=A i x v hi q (by rcases d with k|k;show .inl k;show .inr<|.inl k);apply wpAny_AugAssign_Name;let go:bj (bb X.prog X.w) X.A (bC e X.env) (λw B=>bj Jm Yp (af0 op u w) (λr C=>bj Jm Yp (afZ Jr x r) (λK=>SP X yq D .next) U0 C) U0 B) U0 s:=by
  show bF (he yq s f H _ b h) λw E (y,F,L,r1,N)=>bF (n yq E f F v y u w _ L r r1 N) λz s2 (zv,P,Q,R,S)=>Ib Q g hi d R (λs3 T=>(_,P,T,S)) p
 rcases l with⟨a,hm⟩|⟨a,c,hc,ab⟩
 .show at6 b.ok.kind a t hm go
 rcases a with a|a
 .show auz b.ok.kind a hc ab go
 rcases d with k|k
 .let:X.env.scope.names.lookup x=Y .free:=a;ext
 let:X.env.scope.names.lookup x=Y .free:=a;lia
def n9(f:Int->Int->Int):Ik:=λx y H Q=>∃i j,x=.int i/\y=.int j/\Q (.int<|f i j) H
def agC:RN X .Add U1:=by intro yq s e H x y v u Q a r1 b (i,j,c,d,q);subst c;subst d;let(t,rfl):=r1;let(t',rfl):=b;show atU (.int _,H,a.tok _,Qq,q)
end
section
variable {X:Cx} {pos:Pos}
abbrev RW(Pv:St->Hp->Prop)(d:St->Hp->Nat)(g:TS)(D:jU) e H b f:=if b=I then g {D with nx:=λa c=>Pv a c/\d a c<d e H,ct:=λa c=>Pv a c/\d a c<d e H,bk:=D.nx} e f else D.nx e f
inductive r6(c:TT) b D a H:Prop|mk Pv d(e:Pv a H)(f:∀a H,Pv a H->c a H (RW Pv d b D a H))
def RY(m:af1 Jm Yp Jr U0)(w:PT X c x)(y:iP X body z):PS X (.While c body [] pos) (r6 x z):=by
 intro yq s o H D A (Pv,p,B,C);show wpAny_While<|codeAny_whileLoop (λn E=>∃e g,Inv X yq e g E/\n=p e g/\Pv e g) ?_ (p o H) (o,H,A,J,B);intro n F (a,q,L,rfl,N);show z0 m<|bF (w yq F a q _ L<|C a q N) fun b P (r,t,u)=>?_;cases b with
 |true=>
  show z0 m<|bF (y yq P a r _ t u) λf Q d=>?_;cases f with
  |next=>
   let(h,i,j,k,l):=d;show(_,l,h,i,j,J,k)
  |cont=>
   let(h,i,j,k,l):=d;show(_,l,h,i,j,J,k)
  |brk=>show d
  |ret v=>show d
 |false=>
  show PH (a,r,t,u)
end
structure It where
 go:Nat->Hp->Prop
 jW:Nat->Hp->V->Hp->Prop
 stop:Nat->Hp->Prop
def n_(X:Cx) yq(H:Hp) b:=
 H b=O/\b≠QR/\b∉X.fs/\(b∈X.ex\/Ux<=b)/\(∀x c,X.env.cells.lookup x=Y c->c≠b)/\∀p∈X.pn++yq,p.1≠b
def Inv.ur{f:St}{b:ax}(a:Inv X yq f H s)(d:Jd<=b)(g:h b=O):n_ X yq h b:=by
 show(g,vL<|iJ a.lt d,a.H_ d,.inr<|eO a.sz d,λx c e z=>?_,λp i z=>?_)
 .let(v,q):=a.cell x c e;show absurd (iJ q.lt<|by ext)<|oU _
 show absurd (iJ (dF (a.pin p i).1)<|by ext)<|oU _
structure qt(P:gz)(w:bS)(K:bH)(l:dj)(f:It)(c:Up)(d:ax)(a:Nat->c_->Prop):Prop where
 mem:d∈c
 obj:∀i h,a i h->∀b∈c,∃o,h.get? b=Y o/\∀v,o.data≠.cell v
 keep:∀i h h',a i h->(∀b∈c,∀o,h.get? b=Y o->h'.get? b=Y o)->a i h'
 item:∀(X:Cx),UG=P->X.w=w->U2=K->X.calm=I->∀(i:Nat) (yq:List QA) (s:bc) (e:St) (H:Hp) (E:aO->bc->Prop),Inv X yq e H s->(∀b∈c,n_ X yq H b)->a i s.13->f.go i H->
  bj (bb P w) Yp (HU<|.ref d) (λr g=>∃u,r=Y u/\
   bj (bb P w) Yp (afx l (.ref d) u) (λ_ k=>∃x j,Inv X yq e j k/\RelV x u/\f.jW i H x j/\a JK k.13/\∀b∈c,j b=O) E g) E s
 done:∀(X:Cx),UG=P->X.w=w->U2=K->X.calm=I->∀(i:Nat) (yq:List QA) (s:bc) (e:St) (H:Hp) (E:aO->bc->Prop),Inv X yq e H s->(∀b∈c,n_ X yq H b)->a i s.13->f.stop i H->
  bj (bb P w) Yp (HU<|.ref d) (λr g=>r=O/\Inv X yq e H g) E s
 self:∀(A:fA) (i:JD) (s:bc) (Q:aO->bc->Prop) (E:aO->bc->Prop),a i s.13->Q (.ref d) s->bj (bb P w) A (pyIter<|.ref d) Q E s
abbrev TI:=St->Hp->(It->Hp->Prop)->Prop
def Im X yq(h:St) i(R:It->Hp->Prop)(j:aO) c:=
 ∃(d:ax) (e:Up) (f:Nat->c_->Prop) (g:It) (a:Hp),j=.ref d/\Inv X yq h a c/\qt UG X.w U2 i g e d f/\f 0 c.13/\(∀b∈e,n_ X yq a b)/\R g a
def PI X b iter(c:TI):=
 ∀(yq:List QA) (s:bc) (a:St) (H:Hp) (R:It->Hp->Prop),Inv X yq a H s->c a H R->
  bj Jm Yp (bC iter Jr) (λv d=>bj Jm Yp (pyIter v) (Im X yq a b R) U0 d) U0 s
def AF(b:s.heap.get? c=Y o)(d:o.cls=.type n)(hd:o.data=.fields vs)
  (f:["enumerate","zip","dict_itemiterator","dict_reverseitemiterator","odict_iterator","itertools.zip_longest","itertools.pairwise"].contains n=au) (a:Q () s):bj M A (afx e Za u) Q E s:=by
 cases e<;>first
  |show dG a
  |(cases u<;>first
    |show dG a
    |(show bg (wpAny_load b ?_)
      rw[d,hd];change bj M A (if (["enumerate","zip","dict_itemiterator","dict_reverseitemiterator","odict_iterator","itertools.zip_longest","itertools.pairwise"].contains n&&vs[0]?==Y (ug _))=I then _ else _) Q E s
      rw[aj Ja];show dG a))
def mf(K:bH)(a:ax):It:=
 (λi H=>∃xs x,aq K H a xs/\xs[i]?=Y x,λi H x b=>b=H/\∀xs,aq K H a xs->xs[i]?=Y x,λi H=>∃xs,aq K H a xs/\xs.9<=i)
def AG(K:bH)(a:ax):It:=
 (λi H=>∃xs x,bR K H a xs/\xs[i]?=Y x,λi H x b=>b=H/\∀xs,bR K H a xs->xs[i]?=Y x,λi H=>∃xs,bR K H a xs/\xs.9<=i)
def m8(a:JH)(n:JD):It:=(λi c=>i<n,λi H x b=>b=H/\x=.int (a+i),λi c=>n<=i)
def agD{K} a f:qt P w K tg (mf K a) [f] f (λi h=>h.IsListIter f a i) where
 mem:=Jc
 obj:=λi h st b g=>by
  let e:b=f:=by exists g
  subst e;let(o,e):=st;ext
 keep:=λi h h' st k=>st.at λo e=>k f Jc o e
 item:=by
  intro X n q hK C i yq s D H E j l st r;subst n q hK;let(xs,x,m,t):=r;let(L,v,p,N):=j.list m;let(u,Q,R):=v.get t;let(y,f1,f2,z,A,B):=l f Jc;show wpAny_pyNext_list_item st p.isList (by exists Q) λh' F S=>?_
  let T:Inv X yq D H {s with heap:=h'}:=j.turned (λb o g e=>(S.2 b g).trans e) y f1 z A B;let(o,e,c,d):=id F;show(u,J,AF e c d (by rfl) (x,H,T,R,(J,λys hy=>by rw[j.DI hy m];show t),F,λb g=>(l b g).1))
 done:=by
  intro X n q hK C i yq s D H E j l st r;subst n q hK;let(xs,m,t):=r;let(L,v,p,N):=j.list m;let(y,f1,f2,z,A,B):=l f Jc;let hl:=v.9;show wpAny_pyNext_list_end (j.ok.hd C) st p.isList (by ext) λh' eb=>(J,j.turned (λb o g e=>eb b o g e) y f1 z A B)
 self:=λV V V V V st h=>wpAny_pyIter_listiter st h
def agE{K} a f:qt P w K tg (AG K a) [f] f (λi h=>h.IsTupleIter f a i) where
 mem:=Jc
 obj:=λi h st b g=>by
  let e:b=f:=by exists g
  subst e;let(o,e):=st;ext
 keep:=λi h h' st k=>st.at λo e=>k f Jc o e
 item:=by
  intro X n q hK C i yq s D H E j l st r;subst n q hK;let(xs,x,m,t):=r;let(L,v,p,N):=j.tuple m;let(u,Q,R):=v.get t;let(y,f1,f2,z,A,B):=l f Jc;show wpAny_pyNext_tuple_item st (p) (by exists Q) λh' F S=>?_
  let T:Inv X yq D H {s with heap:=h'}:=j.turned (λb o g e=>(S.2 b g).trans e) y f1 z A B;let(o,e,c,d):=id F;show(u,J,AF e c d (by rfl) (x,H,T,R,(J,λys hy=>by rw[j.RK hy m];show t),F,λb g=>(l b g).1))
 done:=by
  intro X n q hK C i yq s D H E j l st r;subst n q hK;let(xs,m,t):=r;let(L,v,p,N):=j.tuple m;let(y,f1,f2,z,A,B):=l f Jc;let hl:=v.9;show wpAny_pyNext_tuple_end (j.ok.hd C) st (p) (by ext) λh' eb=>(J,j.turned (λb o g e=>eb b o g e) y f1 z A B)
 self:=λV V V V V st h=>wpAny_pyIter_tupleiter st h
def agF{K} a f n:qt P w K L (m8 f n) [a] a (λi h=>IsRangeIter h a (f+i*1) (n-i) 1) where
 mem:=Jc
 obj:=λi h st b c=>by ext
 keep:=λi h h' st k=>k a Jc _ st
 item:=by
  intro X y z hK j i yq s u H E d g st l;let(m,f1,f2,p,q,r):=g a Jc;show (Walks.range (d.ok.hd j) a f 1 n).item i s _ _ l st λv h' A B x C=>?_
  let(t,rfl):=B;let D:Inv X yq u H {s with heap:=h',toks:=A}:=d.turned (λb o c e=>C b o (by exists c) e) m f1 p q r;show(_,J,AF x J J (by rfl) (.int<|f+i,H,D,(t,?_),(J,J),x,λb c=>(g b c).1));simp
 done:=by
  intro X y z hK j i yq s u H E d g st l;let(m,f1,f2,p,q,r):=g a Jc;show wpAny_pyNext_range_end (d.ok.hd j) st (by let:n<=i:=l;lia) λh' F=>(J,d.turned (λb o c e=>F b o c e) m f1 p q r)
 self:=λN N N N N st h=>wpAny_pyIter_rangeiter st h
section
variable {X:Cx} {tg:dj}
def gU(K:bH)(tl:TE):TI:=λc H R=>tl c H λx b=>∃a,x=.ref a/\(∃xs,aq K b a xs)/\R (mf K a) b
def Io(K:bH)(tl:TE):TI:=λc H R=>tl c H λx b=>∃a,x=.ref a/\(∃xs,bR K b a xs)/\R (AG K a) b
def qu(f:PE X l tl):PI X tg l (gU U2 tl):=by
 show λyq s g H R i h=>bF (f yq s g H _ i h) fun v d (x,j,c,r1,k)=>?_
 let(a,e,(xs,m),q):=k;subst e;cases r1;let(r,t,p,u):=c.list m;show auP p.isList (d.heap.objs.12,[d.heap.objs.12],_,_,j,J,c.kept λb o e=>dm _ e,agD a _,(_,UC,J,J),λb n=>?_,q);haveI e:b=d.heap.objs.12:=by exists n
 subst e;show c.ur JR<|c.bo.fresh JR
def RZ(f:PE X l tl):PI X tg l (Io U2 tl):=by
 show λyq s g H R i h=>bF (f yq s g H _ i h) fun v d (x,j,c,r1,k)=>?_
 let(a,e,(xs,m),q):=k;subst e;cases r1;let(r,t,p,u):=c.tuple m;show ae4 (p) (d.heap.objs.12,[d.heap.objs.12],_,_,j,J,c.kept λb o e=>dm _ e,agE a _,(_,UC,J,J),λb n=>?_,q);let e:b=d.heap.objs.12:=by exists n
 subst e;show c.ur JR<|c.bo.fresh JR
def R0{a:St}{lo}(d:Inv X yq a H s)(f: -(2^62)<=lo)(g:lo<2^62)(h: -(2^62)<=hi)(i:hi<2^62)
  (q:R (m8 lo (hi-lo).6) H):bj Jm Yp (pyIter<|.ref Jd) (Im X yq a tg R) E {s with heap:=s.heap.push {cls:=.type "range",data:=.fields #[.int lo t,.int hi u,.int 1 v]},toks:=j}:=by
 apply wpAny_pyIter_range (IsRange.new ..)<|small_one f g h i;let c:Inv X yq a H {s with heap:=s.heap.push {cls:=.type "range",data:=.fields #[.int lo t,.int hi u,.int 1 v]},toks:=j}:=d.kept λb o e=>dm _ e
 show((s.heap.push {cls:=.type "range",data:=.fields #[.int lo t,.int hi u,.int 1 v]}).objs.12,[(s.heap.push {cls:=.type "range",data:=.fields #[.int lo t,.int hi u,.int 1 v]}).objs.12],_,_,H,J,
  c.kept λb o e=>dm _ e,agF _ lo (hi-lo).6,?_,λb k=>?_,q)
 .haveI l:lo+((0:Nat):Int)*1=lo:=by simp
  haveI m:(((hi-lo).6:Nat):Int)-((0:Nat):Int)=Builtin.Range.rangeSize lo hi 1:=by rw[rangeSize_one];split<;>lia
  rw[l,m];show gy _ J
 haveI e:b=(s.heap.push {cls:=.type "range",data:=.fields #[.int lo t,.int hi u,.int 1 v]}).objs.12:=by exists k
 subst e;show c.ur JR<|c.bo.fresh JR
def kZ(a:TA):TI:=λb H R=>a b H λvs c=>∃j:Int,vs=[.int j]/\ -(2^62)<=j/\j<2^62/\R (m8 0 j.6) c
def AH(a:TA):TI:=λb H R=>a b H λvs c=>∃i j:Int,vs=[.int i,.int j]/\(-(2^62)<=i/\i<2^62/\ -(2^62)<=j/\j<2^62)/\R (m8 i (j-i).6) c
def agG(d:Gl X "range")(f:X.mg "range"=O)(g:PA X [a] i)(k:autoParam (bB [a] Jr=[(au,(bC a Jr))]) a'):PI X tg (.Call (.Name "range" p) [a] [] pos) (kZ i):=by
 show λyq s l H R c h=>Au<|rY c d f boot_range<|zM (bF (g pos yq s l H _ c h) fun u v (vs,w,m,r1,b)=>?_) k J
 let(j,e,b,n,q):=b;subst e;cases r1 with
 |cons r o=>
  cases o;let(t,rfl):=r;show call_range_1<|R0 m Ja Ja b n<|by ext
def agH{p pos}(g:Gl X "range")(k:X.mg "range"=O)(l:PA X [a,b] m)(z:autoParam (bB [a,b] Jr=[(au,(bC a Jr)),(au,(bC b Jr))]) a')(n:autoParam (bB [b] Jr=[(au,(bC b Jr))]) a'):
  PI X tg (.Call (.Name "range" p) [a,b] [] pos) (AH m):=by
 show λyq s o H R f h=>Au<|rY f g k boot_range<|zM (bF (l pos yq s o H _ f h) fun A B (vs,C,u,r1,c)=>?_) (by ext) (by rw[n];rfl)
 let(i,j,e,(c,v,w,x),q):=c;subst e;cases r1 with
 |cons r d=>
  cases d with
  |cons y d=>
   cases d;let(t,rfl):=r;let(t',rfl):=y;show call_range_2<|R0 u c v w x q
def dc(h:TI)(g:TG)(j:TS):TS:=λD a H=>h a H λc k=>∃d:Nat->Nat->St->Hp->Prop,(∃m,d 0 m a k)/\∀i m a H,d i m a H->
 (c.stop i H/\D.nx a H)\/(c.go i H/\∃N:St->Hp->Prop,(∀e b,N e b->∃f,f<m/\d JK f e b)/\∀x b,c.jW i H x b->g x a b λl n=>j {D with nx:=N,ct:=N,bk:=D.nx} l n)
def AI(a:Up)(h:c_):=a.filterMap λb=>(h.get? b).map λo=>(b,(o))
def Ip(a:b∈c)(e:h.get? b=Y o):(b,(o))∈AI c h:=xE.2 (b,a,by rw[e];rfl)
def agI(a:p∈AI c h):p.1∈c/\h.get? p.1=Y p.2:=by let(b,d,e):=xE.1 a;induction q:h.get? b<;>grind
def Inv.pinned{a:St}(c:Inv X yq a H s)(f:∀b∈d,n_ X yq H b)(i:∀b∈d,∃o,s.heap.get? b=Y o/\∀v,o.data≠.cell v):Inv X (yq++AI d s.13) a H s:=
 c.DD λp g=>(dC.1 g).elim (λz=>c.pin p<|mJ _ z) λz=>by
  let(h,e):=agI z;let(j,f1,f2,_):=f p.1 h;grind
def Inv.DJ{b:St}(a:Inv X (yq++pl) b H s):=a.DD λp c=>a.pin p<|mJ _<|nL _ c
def vY(q:af1 Jm Yp Jr U0)(L:X.calm=I)(hi:PI X tg iter wi)(hg:PG X tg g)(a:iP X body tb)
  (hs:autoParam (∀x,xG iter Jr x=pure x) i'):PS X (.For tg iter body [] pos) (dc wi g tb):=by
 show λyq s P H D ae h=>wpAny_For (bF (hi yq s P H _ ae h) λv s1 h1=>bF h1 λam s2 h2=>?_) hs
 let(it,t,Q,an,H2,e,I2,T,af,f2,R,(m0,w0),ag):=h2;subst e;let B:∀{l:Hp},(∀b∈t,l b=O)->∀b∈t,n_ X yq l b:=λhn b a=>(hn b a,(f2 b a).2)
 show codeAny_forLoop_any (λn S=>∃i w l,Inv X yq w l S/\Q i S.13/\(∀b∈t,l b=O)/\R i n w l) ?_ m0 (0,P,H2,I2,af,λb a=>(f2 b a).1,w0);intro n s3 (i,y,A,I3,ab,ac,w3);rcases ag i n y A w3 with⟨stop,qn⟩|⟨go,N,hN,step⟩
 .show z0 q<|bF (T.done X J J J L i yq s3 y A U0 I3 (B ac) ab stop) fun r s4 (C,I4)=>?_;subst C;show PH (y,A,I4,qn)
 show z0 q<|bF (T.item X J J J L i yq s3 y A U0 I3 (B ac) ab go) fun r s4 (u,C,h4)=>?_;subst C;show z0 q<|bF h4 fun _ s5 (x,H5,I5,r5,y5,E,ai)=>z0 q<|bF (hg _ s5 y H5 x u _ (I5.pinned (B ai)<|T.obj _ _ E) r5<|step x H5 y5) fun _ s6 (al,H6,I6,q6)=>z0 q<|bF (a _ s6 al H6 _ I6 q6) λf F p=>?_;let again:∀{c:St}{j:Hp},Inv X (yq++AI t s5.13) c j F->N c j->∃m,m<n/\∃i w l,Inv X yq w l F/\Q i F.13/\(∀b∈t,l b=O)/\R i m w l:=λ{c j} k z=>by
  let(m',hm,w7):=hN c j z;show(m',hm,JK,c,j,k.DJ,T.keep _ _ _ E λb a o e=>(k.pin (b,(o))<|mJ _<|mJ _<|Ip a e).1,λb a=>?_,w7);let(o,e,d):=T.obj _ _ E b a;show (k.pin (b,(o))<|mJ _<|mJ _<|Ip a e).2.1
 cases f with|next=>let(c,j,k,z):=p;show again k z|cont=>let(c,j,k,z):=p;show again k z|brk=>let(c,j,k,p):=p;show(c,j,k.DJ,p)|ret v=>let(x7,c,j,k,r7,p):=p;show(x7,c,j,k.DJ,r7,p)
end
def k7{K}{g:TG}{k:TS}{D:jU}(Pv:Nat->St->Hp->Prop)(o:Pv 0 b H)(r:∀i b H,i<=xs.9->Pv i b H->aq K H a xs)
  (s:∀i x b H,xs[i]?=Y x->Pv i b H->g x b H λd f=>k {D with nx:=Pv JK,ct:=Pv JK,bk:=D.nx} d f) (hd:∀b H,Pv xs.9 b H->D.nx b H):
  ∃h:Nat->Nat->St->Hp->Prop,(∃m,h 0 m b H)/\∀i m b H,h i m b H->
   ((mf K a).stop i H/\D.nx b H)\/((mf K a).go i H/\∃N:St->Hp->Prop,(∀j c,N j c->∃l,l<m/\h JK l j c)/\∀x c,(mf K a).jW i H x c->g x b c λd f=>k {D with nx:=N,ct:=N,bk:=D.nx} d f):=by
 show(λi m b H=>m=xs.9-i/\i<=xs.9/\Pv i b H,(xs.9,Jc,eX _,o),?_);intro i m b H (rfl,hi,p);let q:=r i b H hi p;cases n:i<xs.9
 .show .inr ((xs,xs[i],q,by simp[n]),Pv JK,λj c t=>(xs.9-JK,JE,J,n,t),λx c y=>?_);let(e,y):=y;subst e;show s i x b _ (y xs q) p
 let e:i=xs.9:=Ja
 subst e;show .inl ((xs,q,JR),hd b H p)
def pj{c}{g:TG}{l:TS}{D:jU}(Pv:Nat->St->Hp->Prop)(q:Pv 0 a H)
  (r:∀i a H,i<n->Pv i a H->g (.int<|c+i) a H λd f=>l {D with nx:=Pv JK,ct:=Pv JK,bk:=D.nx} d f) (hd:∀a H,Pv n a H->D.nx a H):
  ∃h:Nat->Nat->St->Hp->Prop,(∃m,h 0 m a H)/\∀i m a H,h i m a H->
   ((m8 c n).stop i H/\D.nx a H)\/((m8 c n).go i H/\∃N:St->Hp->Prop,(∀j b,N j b->∃o,o<m/\h JK o j b)/\∀x b,(m8 c n).jW i H x b->g x a b λd f=>l {D with nx:=N,ct:=N,bk:=D.nx} d f):=by
 show(λi m a H=>m=n-i/\i<=n/\Pv i a H,(n,Jc,eX _,q),?_);intro i m a H (rfl,hi,p);cases k:i<n
 .show .inr (k,Pv JK,λj b s=>(n-JK,JE,J,k,s),λx b y=>?_);let(e,y):=y;subst e y;show r i a _ k p
 let e:i=n:=Ja
 subst e;show .inl (bf _,hd a H p)
def ye Pv b(d:Pv a H)(e:∀a H,Pv a H->c a H (RW Pv b f D a H)):r6 c f D a H:=(Pv,b,d,e)
abbrev R2:=V->V->Hp->VK->Prop
def dD X(f:aO->aO->Sem aO)(r:R2):=
 ∀(yq:List QA) (s:bc) (a:St) (H:Hp) (x y:V) (v u:aO) (Q:VK),Inv X yq a H s->RelV x v->RelV y u->r x y H Q->
  bj Jm Yp (f v u) UB U0 s
def DK X(f:aO->Sem aO)(r:V->Hp->VK->Prop):=
 ∀(yq:List QA) (s:bc) (a:St) (H:Hp) (x:V) (v:aO) (Q:VK),Inv X yq a H s->RelV x v->r x H Q->
  bj Jm Yp (f v) UB U0 s
def ko X f(r:List V->Hp->VK->Prop):=
 ∀(yq:List QA) (s:bc) (a:St) (H:Hp) (xs:Ju) (b:Wz) (Q:VK),Inv X yq a H s->bP xs b->r xs H Q->
  bj Jm Yp (call f b) UB U0 s
abbrev agJ(r:R2) x Q y H:=r x y H Q
abbrev agK r(a:TE) b Q x H:=a b H<|agJ r x Q
abbrev ah(r:R2)(b c:TE):TE:=λa H Q=>b a H<|agK r c a Q
abbrev kUn(r:V->Hp->VK->Prop) Q x H:=r x H Q
abbrev AJ(r:V->Hp->VK->Prop)(a:TE):TE:=λb H Q=>a b H<|kUn r Q
def rI(C:Int->Int->Prop)(g:Int->Int->V):R2:=λx y H Q=>∃i j,x=.int i/\y=.int j/\C i j/\Q (g i j) H
def aR(g:Int->Int->V):R2:=λx y H Q=>∃i j,x=.int i/\y=.int j/\Q (g i j) H
def rU(g:Int->V):V->Hp->VK->Prop:=λx H Q=>∃i,x=.int i/\Q (g i) H
section
variable {X:Cx} {a b c:dj} {ta tb tc:TE} {pos:Pos}
def Iq(j:Wb)(k:PE X b tb){d:St}{R:V->V->Hp->Prop}(l:Inv X yq d H s)
  (h:ta d H λx i=>tb d i λy e=>R x y e) {Q:aO->bc->Prop}{f:aO->aO->Sem aO}
  (m:∀v u g x y e,Inv X yq d e g->RelV x v->RelV y u->R x y e->bj Jm Yp (f v u) Q U0 g):
  bj Jm Yp (bC a Jr) (λv n=>bj Jm Yp (bC b Jr) (λu o=>bj Jm Yp (f v u) Q U0 o) U0 n) U0 s:=by
 show bF (j yq s d H _ l h) λv p (x,i,q,r1,r)=>bF (k yq p d i _ q r) λu g (y,e,t,w,z)=>m v u g x y e t r1 w z
def iz(d:dD X (mX op) r)(e:Wb)(f:PE X b tb):PE X (.BinOp a op b pos) (ah r ta tb):=λyq s g H Q i h=>wpAny_BinOp<|Iq e f i h λv u j x y k l m n q=>d yq j g k x y v u Q l m n q
def R1(e:DK X (unaryOp op) r)(f:Wb):PE X (.UnaryOp op a pos) (AJ r ta):=λyq s d H Q g h=>UnaryOp_<|bF (f yq s d H _ g h) λv i (x,j,k,r1,l)=>e yq i d j x v Q k r1 l
def gD{g:Int->Int->Int}
  (rule:∀(i j:Int) (t u:Tok) s Q E,C i j->Q (.int (g i j) ZK) {s with toks:=ZK+1}->bj Jm Yp (f (.int i t)<|.int j u) Q E s):
  dD X f (rI C λi j=>.int<|g i j):=by
 intro yq s l H x y v u Q d e h (i,j,rfl,rfl,k,q);let(t,rfl):=e;let(t',rfl):=h;show rule i j t t' s _ _ k (.int<|g i j,H,d.tok _,Qq,q)
def R3{g:Int->Int->Int}
  (rule:∀(i j:Int) (t u:Tok) s Q E,Q (.int (g i j) ZK) {s with toks:=ZK+1}->bj Jm Yp (f (.int i t)<|.int j u) Q E s):
  dD X f (aR λi j=>.int<|g i j):=by
 intro yq s k H x y v u Q d e h (i,j,rfl,rfl,q);let(t,rfl):=e;let(t',rfl):=h;show rule i j t t' s _ _ (.int<|g i j,H,d.tok _,Qq,q)
def DL{g:Int->Int->Bool}
  (rule:∀(i j:Int) (t u:Tok) s Q E,Q (.bool<|g i j) s->bj Jm Yp (f (.int i t)<|.int j u) Q E s):
  dD X f (aR λi j=>.bl<|g i j):=by
 intro yq s k H x y v u Q d e h (i,j,rfl,rfl,q);let(t,rfl):=e;let(t',rfl):=h;show rule i j t t' s _ _ (.bl<|g i j,H,d,J,q)
def qw:dD X (mX .Add) (aR λi j=>.int<|i+j):=R3 λa a a a a a a q=>add_int q
def yf:dD X (mX .Sub) (aR λi j=>.int<|i-j):=R3 λa a a a a a a q=>sub_int q
def Ir:dD X (mX .Mod) (rI (λa j=>0<j) λi j=>.int<|i % j):=gD λi j a a a a a d q=>by show mod_int' Ja (by rw[Int.fmod_eq_emod_of_nonneg i Ja];show q)
def unI{g:Int->Int}
  (rule:∀i t s Q E,Q (.int (g i) ZK) {s with toks:=ZK+1}->bj Jm Yp (f<|.int i t) Q E s):
  DK X f (rU λi=>.int<|g i):=by
 intro yq s h H x v Q d e (i,rfl,q);let(t,rfl):=e;show rule i t s _ _ (.int<|g i,H,d.tok _,Qq,q)
def DM:DK X (unaryOp .USub) (rU λi=>.int<|-i):=unI λa a a a a q=>neg_int q
end
def DN:V->V->Bool|.aW,.aW=>I|.aW,.int a=>I|.int a,.aW=>I|.aW,.bl a=>I|.bl a,.aW=>I|.aW,.str a=>I|.str a,.aW=>I|.int a,.int b=>I|.bl a,.bl b=>I|.str a,.str b=>I|.mZ a,.mZ b=>I|.int a,.str b=>I|.str a,.int b=>I|.bl a,.str b=>I|.str a,.bl b=>I|a,b=>au
def dR:R2:=λx y H Q=>DN x y=I/\Q (.bl<|decide<|x=y) H
def iS:R2:=λx y H Q=>DN x y=I/\Q (.bl<|!decide (x=y)) H
def vZ:decide (V.int i=V.int j)=(i==j):=by rw[nO];simp
def R4:decide (V.bl i=V.bl j)=(i==j):=by rw[nO];simp
def R5:decide (V.str i=V.str j)=(i==j):=by rw[nO];simp
def R6:decide (V.mZ i=V.mZ j)=(i.toList==j.toList):=by rw[nO];ext
section
variable {X:Cx} {a b c:dj} {ta tb tc:TE} {pos:Pos}
def fT{d:St}(f:Inv X yq d H s)(q:Q (.bl k) H)(e:k=g):EP X yq d Q (.bool g) s:=by subst e;show(.bl k,H,f,J,q)
def uu:dD X (gJ .Eq) dR:=by
 intro yq s h H x y v u Q d g e (f,q);cases x with
 |aW=>
  cases g;cases y with|aW=>cases e;show avY<|fT d q<|by rfl|bl j=>cases e;show av0<|fT d q<|by rfl|int j=>let(t',rfl):=e;show avZ<|fT d q<|by rfl|str j=>let(t',rfl):=e;show avX<|fT d q<|by rfl|_=>show absurd (f) gZ
 |bl i=>
  cases g;cases y with|aW=>cases e;show av2<|fT d q<|by rfl|bl j=>cases e;show eq_bool<|fT d q R4|str j=>let(t',rfl):=e;show avO<|fT d q<|by rfl|_=>show absurd (f) gZ
 |int i=>
  let(t,rfl):=g;cases y with|aW=>cases e;show av1<|fT d q<|by rfl|int j=>let(t',rfl):=e;show eq_int<|fT d q vZ|str j=>let(t',rfl):=e;show avN<|fT d q<|by rfl|_=>show absurd (f) gZ
 |str i=>
  let(t,rfl):=g;cases y with|aW=>cases e;show avW<|fT d q<|by simp|bl j=>cases e;show avM<|fT d q<|by simp|int j=>let(t',rfl):=e;show avL<|fT d q<|by simp|str j=>let(t',rfl):=e;show eq_str<|fT d q R5|_=>show absurd (f) gZ
 |mZ i=>
  let(t,rfl):=g;cases y with|mZ j=>let(t',rfl):=e;show PySem.W.eq_bytes<|fT d q R6|_=>show absurd (show au=I from f) gZ
 |_=>cases y<;>show absurd (show au=I from f) gZ
def DO:dD X (gJ .NotEq) iS:=by
 intro yq s h H x y v u Q d g e (f,q);cases x with
 |aW=>
  cases g;cases y with|aW=>cases e;show avR<|fT d q<|by simp|bl j=>cases e;show avT<|fT d q<|by simp|int j=>let(t',rfl):=e;show avS<|fT d q<|by simp|str j=>let(t',rfl):=e;show avQ<|fT d q<|by simp|_=>show absurd (f) gZ
 |bl i=>
  cases g;cases y with|aW=>cases e;show avV<|fT d q<|by simp|bl j=>cases e;show ne_bool<|fT d q<|e8 not R4|str j=>let(t',rfl):=e;show avK<|fT d q<|by simp|_=>show absurd (f) gZ
 |int i=>
  let(t,rfl):=g;cases y with|aW=>cases e;show avU<|fT d q<|by simp|int j=>let(t',rfl):=e;show ne_int<|fT d q<|e8 not vZ|str j=>let(t',rfl):=e;show avJ<|fT d q<|by simp|_=>show absurd (f) gZ
 |str i=>
  let(t,rfl):=g;cases y with|aW=>cases e;show avP<|fT d q<|by simp|bl j=>cases e;show avI<|fT d q<|by simp|int j=>let(t',rfl):=e;show avH<|fT d q<|by simp|str j=>let(t',rfl):=e;show ne_str<|fT d q<|e8 not R5|_=>show absurd (f) gZ
 |mZ i=>
  let(t,rfl):=g;cases y with|mZ j=>let(t',rfl):=e;show PySem.W.ne_bytes<|fT d q<|e8 not R6|_=>show absurd (show au=I from f) gZ
 |_=>cases y<;>show absurd (show au=I from f) gZ
def DP:dD X (gJ .Lt) (aR λi j=>.bl<|decide<|i<j):=DL λa a a a a a a q=>auD q
def DQ:dD X (gJ .LtE) (aR λi j=>.bl<|decide<|i<=j):=DL λa a a a a a a q=>le_int q
def DR:dD X (gJ .Gt) (aR λi j=>.bl<|decide<|j<i):=DL λa a a a a a a q=>auE q
def DS:dD X (gJ .GtE) (aR λi j=>.bl<|decide<|j<=i):=DL λa a a a a a a q=>auF q
def qx b(h:autoParam (op≠.In) b')(d:autoParam (op≠.NotIn) b'):rM op b=au:=Ie b h d
def AK(d:dD X (gJ op) r)(e:Wb)(f:PE X b tb)(g:rM op b=au):PE X Z8 (ah r ta tb):=λyq s i H Q j h=>avm (Iq e f j h λv u k x y l m n o q=>d yq k i l x y v u Q m n o q) g
def aY(t:TE):TT:=λd H Q=>t d H λx e=>∃k,x=.bl k/\Q k e
def r8(f:dD X (gJ op) r)(g:Wb)(i:PE X b tb)(j:rM op b=au):PT X Z8 (aY<|ah r ta tb):=by
 show λyq s d H Q l h=>atP (bF (g yq s d H _ l h) fun v m (x,n,o,r1,p)=>bF (i yq m d n _ o p) fun u q (y,t,w,A,B)=>
  bF (f yq q d t x y v u _ w r1 A B) fun c L (z,C,D,E,k,e,F)=>?_) j
 subst e;cases E;show Hk (C,D,F)
def AL:cz<2^63:=by rw[cP];decide
def vals1(r:bP [x] d):∃u,d=[u]/\RelV x u:=by cases r with|cons r1 e=>cases e;show(_,J,r1)
def vals2(r:bP [x,y] e):∃u d,e=[u,d]/\RelV x u/\RelV y d:=by
 cases r with
 |cons r1 f=>
  cases f with|cons g h=>cases h;show(_,_,J,r1,g)
def agL:ko X (.builtin "abs") (λxs H Q=>∃i,xs=[.int i]/\Q (.int<|if i<0 then -i else i) H):=by intro yq s e H xs f Q d r (i,rfl,q);let(u,rfl,t,rfl):=vals1 r;show call_abs_int λu g=>(.int<|if i<0 then -i else i,H,d.tok _,Qq,q)
def agM(f:X.calm=I):ko X (.builtin "min") (λxs H Q=>∃i j,xs=[.int i,.int j]/\Q (.int<|if j<i then j else i) H):=by
 intro yq s g H xs h Q e r (i,j,rfl,q);let(u,l,rfl,(t,rfl),(t',rfl)):=vals2 r;show min_two_ints (e.ok.hd f) λh' m k=>(_,H,e.kept k,?_,q)
 cases d:j<i
 .rw[ak d,ak d];show Qq
 rw[aj d,aj d];show Qq
def agN:ko X (.type "str") (λxs H Q=>∃i,xs=[.int i]/\i.natAbs.log2<1920/\Q (.str Y4) H):=by intro yq s f H xs g Q d r (i,rfl,e,q);let(u,rfl,t,rfl):=vals1 r;show PySem.P.str_of_int e (.str _,H,d.tok _,Qq,q)
def agO:ko X (.builtin "ord") (λxs H Q=>∃x,xs=[.str x]/\x.9=1/\Q (.int (x.cps.getD 0 0:Nat)) H):=by intro yq s f H xs g Q d r (x,rfl,e,q);let(u,rfl,t,rfl):=vals1 r;show ord_of_one e (.int _,H,d.tok _,Qq,q)
end
structure v5(h:c_)(x dx C:ax)(a:Str->Option aO):Prop where
 obj:h.get? x=Y (xI C dx)
 ns:h.Ns1 dx a
 ne:dx≠x
def agP{h:c_}(n:h.Ns1 c d):∃b,h.get? c=Y b/\∀name,Po name b=Y (d name):=by
 let(o,f,m,g,hd,i,_,j):=n;show(o,g,λname=>?_);let e:=j name;delta nsFind findBy at e;rw[<-ate]at e;delta Po;rw[hd];dsimp only;split
 .ext
 rename_i q;rw[q]at e;haveI a:f.toList.any (·.refKey)=au:=by
  rw[atE];intro y k;let(z,t,l):=i y<|Array.mem_toList_iff.1 k;simp[DictEntry.refKey,l]
 grind
def v5.look(b:v5 h x c C d):∃a,PySem.W.InstAt h x (xI C c) C (Y a)/\∀name,Po name a=Y (d name):=
 let (a,e,f):=agP b.ns
 (a,(b.obj,J,J,e),f)
section
variable {prog:gz} {w:bS} {A:fA} {E:aO->bc->Prop} {s:bc} {K:bH} {x dx C f:ax} {mA:Str->Option aO} {name:Str} {v:aO}
def agQ(X:K.In s.13)(a:v5 s.13 x dx C mA)(b:He K C name=I)(c:O7 K C=I)
  (d:mP K Zl name=Y O) (i:mA name=Y v) (e:ata v=I) (h:Q v {s with toks:=ZK+1}):
  bj JB A (getAttr (.ref x) name expr) Q E s:=by
 let(j,g,k):=a.look;show PySem.W.get_value X g (aeI b).1 (PySem.W.findObj_own c d J<|by ext) e h
def agR(X:K.In s.13)(b:v5 s.13 x dx C mA)(a:He K C name=I)
  (c:mP K Zl name=Y (Y J7)) (d:Dk K J7=I) (e:mA name=O) (h:Q (.ref f,([.ref x])) s):
  bj JB A (vO (.ref x) name pl) Q E s:=by
 let(g,i,j):=b.look;show PySem.W.method_fn X i (aeI a).1 (aeI a).2 c (vM.1 d) (by change (Po name g).map (·.isSome)=Y au;rw[j,e];rfl) h
def agS(X:K.In s.13)(a:v5 s.13 x dx C mA)
  (g:mP K Zl "__setattr__"=Y (Y<|.builtin "object.__setattr__")) (i:aeN K C=I) (j:ae1 K C name=Y O) (k:O7 K C=I)
  (l:afz mA ns) (hsz:ns.9<=cz)
  (h:∀h',v5 h' x dx C (λy=>if y=name then Y v else mA y)->HA dx s.13 h'->Q () {s with heap:=h',toks:=ZK+2}):
  bj JB A (setAttr (.ref x) name v) Q E s:=by
 let(r,c,t):=a.look;show PySem.W.set_plain X c g<|PySem.W.osa_open X c i j λb=>?_;let(u,m,n):=PySem.W.any_some k;show bg<|dG<|bg<|bg<|wpAny_loadPart a.obj<|bg<|avG (PySem.W.looks_clsIn X m) ?_;rw[n];show dG<|bg<|dG<|bg<|wpAny_nsSet1 a.ns λh' d e=>?_;let(z,B,D,o,p,q):=d.count<|PySem.Within.cons name v l;show bg<|wpAny_lookBehind o (by rw[p];show pastItsLine_dict<|eO q<|by ext)<|dG<|h _ ((e.2 _<|mY a.ne).trans a.obj,d,a.ne) e
def agT(X:K.In s.13)(b:Pg K C=I)
  (hi:mP K Zl "__init__"=Y (Y J7)) (c:PySem.W.typeIn K J7=Y (.type "function"))
  (h:o9 JB (A.under<|.builtin "type.__call__" (.ref C::vs,a)) (.call J7 (.ref UZ::vs,a)) (PySem.W.InitBack UZ R)
   {s with heap:=(s.heap.push zQ).push (xI C Jd)}):
  o9 JB A (.call Zl (vs,a)) R s:=by
 show PySem.W.make_core (PySem.W.makes_of X b) (PySem.W.looks_findIn X hi) (λself=>PySem.W.bind_fn X self c) Qw h
end
def bD(f:Str)(v:V):List QD->List QD|[]=>[(f,(v))]|(g,x)::r=>if g=f then (g,(v))::r else (g,(x))::bD f v r
theorem R7 f g v:∀fs:List QD,(bD f v fs).lookup g=if g=f then Y v else fs.lookup g
 |[]=>by
  change afI g [(f,(v))]=_
  grind
 |(k,x)::r=>by
  rw[show bD f v ((k,(x))::r)=(if k=f then (k,(v))::r else (k,(x))::bD f v r) from J];cases a:k=f
  .grind
  rw[aj a];cases h:g=k
  .ext
  let b:(g==k)=au:=auY.2 h;erw[afI,b];show R7 f g v r
theorem Iu f v:∀fs:List QD,f∈(bD f v fs).map (·.1)/\∀g,g∈fs.map (·.1)->g∈(bD f v fs).map (·.1)
 |[]=>(by simp[bD],λg h=>by simp at h)
 |(k,x)::r=>by
  let(a,b):=Iu f v r;rw[show bD f v ((k,(x))::r)=(if k=f then (k,(v))::r else (k,(x))::bD f v r) from J];grind
theorem Iv f v:∀fs:List QD,(bD f v fs).9<=fs.9+1
 |[]=>by simp[bD]
 |(k,x)::r=>by
  let a:=Iv f v r;rw[show bD f v ((k,(x))::r)=(if k=f then (k,(v))::r else (k,(x))::bD f v r) from J];cases b:k=f
  .ext
  ext
def nY.some_of(r:nY (Y v) o):∃u,o=Y u/\RelV v u:=by cases o with|none=>show (r).elim|some u=>show(u,J,r)
def nY.none_of(r:nY O o):o=O:=by cases o with|none=>rfl|some u=>show (r).elim
def agU(r:RelV v u):ata u=I:=by cases v with|aW=>cases (r);rfl|bl b=>cases (r);rfl|int i=>let(t,e):=r;cases e;rfl|str x=>let(t,e):=r;cases e;rfl|mZ b=>let(t,e):=r;cases e;rfl|Av b=>let(t,e):=r;cases e;rfl|ref a=>cases (r);rfl|ty n=>cases (r);rfl
section
variable {P:gz} {w:bS} {H H':Hp} {h h':c_} {a C dx:ax} {fs fs':List (Str × V)}
def Iw(bo:gS P w H h)(e:Uy):∃b,v5 h a dx C b/\(∀f,nY (fs.lookup f)<|b f)/\afz b (fs.map (·.1))/\fs.9<=WN/\H dx=Y (.own a):=by let(d,z,ne,c,b,n,r,q):=bo a _ e;show(b,(c,n,ne),r,q,z,d)
end
structure jX(K:bH)(C:ax):Prop where
 pg:He K C Rh=I
 hd:O7 K C=I
 po:aeN K C=I
 sa:mP K Zl "__setattr__"=Y (Y<|.builtin "object.__setattr__")
def jX.get{K}(c:jX K C) f:He K C f=I:=c.pg
def r9 K C f:=mP K Zl f=Y O
def r9.agV{K}(n:r9 K C f):ae1 K C f=Y O:=by delta ae1;rw[show mP K Zl f=Y O from n];rfl
structure DT(K:bH)(C:ax)(m:Str)(f:ax):Prop where
 at_:mP K Zl m=Y (Y J7)
 fn:Dk K J7=I
 kp:mO K J7=I
section
variable {X:Cx} {yq:List (ax × Obj)} {σ:St} {H:Hp} {s:bc} {a C dx:ax} {fs:List (Str × V)} {f:Str} {v:V} {A:fA} {E:aO->bc->Prop}
def Iy(d:Jp)(e:Uy)(c:jX U2 C)(n:r9 U2 C f)(l:fs.lookup f=Y v)
  (h:∀u g,Inv X yq σ H g->RelV v u->Q u g):bj Jm A (getAttr Jy f b) Q E s:=by
 let(m,j,r,_):=Iw d.bo e;let(u,k,i):=nY.some_of (by rw[<-l];show r f);show agQ d.ju j (c.get f) c.hd n k (agU i)<|h u _ (d.tok _) i
def R8(b:Jp)(e:Uy)(c:jX U2 C)(k:DT U2 C m g)(l:fs.lookup m=O)
  (h:Q (.ref g,([.ref a])) s):bj Jm A (vO Jy m pl) Q E s:=by
 let(i,d,r,_):=Iw b.bo e;show agR b.ju d (c.get m) k.at_ k.fn (nY.none_of (by rw[<-l];show r m)) h
def R9(d:Jp)(e:Uy)(c:jX U2 C)(n:r9 U2 C f)(F:fs.9<WN)(p:RelV y u)
  (h:∀k,Inv X yq σ (aA H a<|.ins C dx<|bD f y fs) k->Q () k):bj Jm A (setAttr Jy f u) Q E s:=by
 let(t,i,r,l,_,m):=Iw d.bo e;show agS d.ju i c.sa c.po n.agV c.hd l (by rw[bz,cP];lia) λh' j w=>h _<|d.write (by rw[e];show True.intro) (.inr m) (λb q x z=>(w.2 b x).trans z) (let (o,_,_,B,_):=j.ns;(o,B)) (by rw[aJ i.ne];show m,by let:=Iv f y fs;lia,i.ne,j.obj,_,j.ns,λg=>?_,λg D=>?_)
 .change nY ((bD f y fs).lookup g) (if g=f then Y u else t g)
  rw[R7];cases q:g=f
  .rw[ak q,ak q];show p
  ext
 cases q:g=f
 .rw[q];show (Iu f y fs).1
 show (Iu f y fs).2 g<|l g λz=>D ?_;lia
def Inv.made(d:Jp):Inv X yq σ (aA (aA H Jd<|.own UZ) UZ<|.ins C Jd [])
  {s with heap:=(s.heap.push zQ).push (xI C Jd)}:=by
 let c:(s.heap.push zQ).get? Jd=Y zQ:=gy s.13 J;haveI g:((s.heap.push zQ).push<|xI C Jd).get? UZ=Y (xI C Jd):=by
  let:=gy (s.heap.push zQ) (o:=xI C Jd) J;rwa [nQ]at this
 show (d.laid (o:=.own UZ) (t':=ZK) (λb u q=>dm _ q) Jc (_,c)).laid (λb u q=>dm _ q) Jc ?_;let ne:Jd≠Jd+1:=Jc
 show(by rw[aJ ne,aB],eX _,ne,g,λf=>O,(Heap.Ns1.of_empty<|(zQ,#[],_,c,J,λe he=>absurd he Jc,λa=>rfl)).at λo q=>dm _ q,λf=>True.intro,λy h=>absurd J h)
def R_(b:vK e f env (bC e env)=bC e env)
  (h:bj JB A (bC e env) (λo c=>bj JB A (getAttr o f I) Q E c) E s):bj JB A (bC (.Attribute e f pos) env) Q E s:=
 Attribute_any_ h (by rw[arm_eval_Attribute,b])
end
def Iz(K:bH)(c:TE)(f:Str):TE:=λd H Q=>c d H λx b=>∃a C e fs v,x=.ref a/\b a=Y (.ins C e fs)/\jX K C/\r9 K C f/\fs.lookup f=Y v/\Q v b
def Sa X op(b:V->V->Hp->VK->Prop):=
 ∀(yq:List QA) (s:bc) (a:St) (H:Hp) (x y:V) (u v:aO) (Q:VK),Inv X yq a H s->RelV x u->RelV y v->b x y H Q->bj Jm Yp (af0 op u v) UB U0 s
section
variable {X:Cx} {o e value:dj} {f:Str} {pos pos' tpos:Pos} {ta tv:TE}
def agW(he:PE X e ta)(b:vK e f Jr (bC e Jr)=bC e Jr):PE X (.Attribute e f pos) (Iz U2 ta f):=by
 show λyq s d H Q g h=>R_ b<|bF (he yq s d H _ g h) fun u t (x,i,j,k,a,C,w,fs,v,ex,m,c,n,l,q)=>?_
 subst ex;obtain rfl:u=eZ a:=k;show Iy j m c n l λy z p r=>(v,i,p,r,q)
def IA:V->V->Hp->VK->Prop:=λx y H Q=>∃i j,x=.int i/\y=.int j/\Q (.int<|i+j) H
def agX:Sa X .Add IA:=by intro yq s d H x y u v Q a b c (i,j,rfl,rfl,q);let(t,rfl):=b;let(t',rfl):=c;show atU (.int<|i+j,H,a.tok _,Qq,q)
end
structure cQ(k:JD)(A:fA):Prop where
 hd:A.handled=O
 dp:A.depth+3*k+5<avn
 un:YS+16*k+200<ki
def cQ.mono(r:cQ k A)(h:j<=k):cQ j A:=(r.hd,by let:=r.dp;lia,by let:=r.un;lia)
theorem cQ.deeper(r:cQ QU A) env:cQ k (A.deeper env):=
 (r.hd,by let:=r.dp;change A.depth+1+3*k+5<_;lia,by let:=r.un;change YS+3+16*k+200<_;lia)
def agY{A:fA}:(A.under<|.builtin "type.__call__" (.ref C::a,b)).depth=A.depth+1:=by rfl
def agZ{A:fA}:(A.under<|.builtin "type.__call__" (.ref C::a,b)).units=YS+1:=by rfl
def cQ.make(r:cQ QU A) C a b:cQ k (A.under<|.builtin "type.__call__" (.ref C::a,b)):=
 (r.hd,by let:=r.dp;rw[agY];lia,by let:=r.un;rw[agZ];lia)
theorem cQ.depth(r:cQ k A):A.depth<avn:=by let:=r.dp;lia
theorem cQ.units(r:cQ k A):YS+64<ki:=by let:=r.un;lia
def cQ.DU(r:cQ k A):YS<ki:=by let:=r.un;lia
abbrev aa:TA:=λa H Q=>Q [] H
abbrev LK:=List V->Hp->Prop
abbrev ag0 x(Q:LK) xs H:=Q (x::xs) H
abbrev ag1(a:TA) b Q x H:=a b H<|ag0 x Q
abbrev U(b:TE)(c:TA):TA:=λa H Q=>b a H<|ag1 c a Q
section
variable {X:Cx} {e:dj} {es:List dj} {te:TE} {t:TA} {pos:Pos}
def cb:PA X [] aa:=λb b b b H Q a h=>aeV ([],H,a,.nil,h)
def br(b:PE X e te)(c:PA X es t)(d:autoParam (bB QE Jr=JM::bB es X.env) a'):PA X QE (U te t):=by intro pos yq s a H Q f h;rw[d];show O6<|bF (b yq s a H _ f h) λu g (x,i,j,r1,k)=>bF (c pos yq g a i _ j k) λp q (xs,l,m,n,o)=>(x::xs,l,m,.cons r1 n,o)
def hZ(t:TA):TE:=λb H Q=>t b H λxs a=>xs.9<=cz/\∀p,a p=O->Q JS (aA a p UO)
def bx(t:TA):TE:=λb H Q=>t b H λxs a=>xs.9<=cz/\∀p,a p=O->Q JS (aA a p JX)
def AM(h:PA X es t):PE X (.Tuple es k pos) (hZ t):=by
 show λyq s d H Q f g=>auA<|bF (h pos yq s d H _ f g) fun i a (xs,j,c,r,z,q)=>(by rw[<-r.9];show z,(.ref JG,aA j JG UO,c.laid (λb u e=>dm _ e) JR ?_,J,q _<|c.bo.fresh JR))
 show(z,i,r,(_,UC,J,_,J))
def jY(h:PA X es t):PE X (.List es pos) (bx t):=by
 show λyq s d H Q f g=>auL<|bF (h pos yq s d H _ f g) fun i a (xs,j,c,r,z,q)=>(by rw[<-r.9];show z,(.ref JG,aA j JG JX,c.laid (λb u e=>dm _ e) JR ?_,J,q _<|c.bo.fresh JR))
 show(z,i,0,r,UC)
end
abbrev Sp:=List V->Hp->VK->XK->Prop
abbrev yg:=List Env->Hp->bc->XK->aO->bc->Prop
structure og(P:gz)(w:bS)(K:bH)(mg:Str->Option aO)(base:c_)(A:fA)(outer:List Env)(s:bc)(H:Hp):Prop where
 frames:A.frames=Y outer
 mod:Mod K mg base
 bs:∀b o,base.get? b=Y o->s.heap.get? b=Y o/\H b=O
 m7:base.objs.12<=Jd
 km:s.heap.FunFrames base outer
 qo:∀b∈kY outer,H b=O
 bo:gS P w H s.13
 bare:An s.gens
def CE outer P w H(s:bc)(Q:VK) u(a:bc):=
 ∃v b,a.os=s.os/\An a.gens/\Un (kY outer) [] H b s.13 a.13/\gS P w b a.13/\RelV v u/\Q v b
def CR(b:yg) outer P w H s Q E(r:Result)(a:bc):=
 match r with
 |.ok (.ret u)=>CE outer P w H s Q u a
 |.ok c=>False
 |.error e=>b outer H s E e a
structure iV(P:gz)(w:bS)(K:bH)(mg:Str->Option aO)(base:c_)(c:yg)(k:JD)(f:ax)(fd:Rm)(ps:Zg)(a:Sp):Prop where
 len:∀vs H Q E,a vs H Q E->vs.9=ps.9
 run:∀(A:fA) (outer:List Env) (s:bc) (H:Hp) (args:Args) (b:Wz) (vs:Ju) (Q:VK) (E:XK),cQ k A->og P w K mg base A outer s H->BindsTo s fd args (ps.zip b)->bP vs b->a vs H Q E->
  o9 (bb P w) A (.call J7 args) (CR c outer P w H s Q E) s
theorem iV.mono{K}(F:iV P w K mg base a j f fd ps b)(h:j<=k):
  iV P w K mg base a k f fd ps b:=YJ
def iV.imp{K}(F:iV P w K mg base a k f fd ps b)
  (h:∀vs H Q E,c vs H Q E->b vs H Q E):iV P w K mg base a k f fd ps c:=
 (λvs H Q E q=>F.len vs H Q E<|h _ _ _ _ q,λA outer s H args d vs Q E e he g i j=>F.run A outer s H args d vs Q E e he g i<|h _ _ _ _ j)
def og.make{K}(e:og P w K mg base A outer s H) C a b:
  og P w K mg base (A.under<|.builtin "type.__call__" (.ref C::a,b)) outer s H:=(by first|show e.frames|(simpa [pushEnvs] using e.frames),e.mod,e.bs,e.m7,e.km,e.qo,e.bo,e.bare)
section
variable {X:Cx} {yq:List (ax × Obj)} {σ:St} {H:Hp} {s s':bc}
def Inv.AN(a:Jp):og UG X.w U2 X.mg YC Yp YR s H:=
 (a.ok.frames,a.ok.mod,a.bs,eO a.ok.m7 a.sz,a.stack,a.Rv,a.bo,a.bare)
def Inv.after(a:Jp)(h:CE YR UG X.w H s Q u s'):EP X yq σ Q u s':=by let(v,c,os,bare,un,bo,r,q):=h;let(f,g,d,t,e):=s';obtain rfl:e=s.os:=os;show(v,c,a.call un bo bare λb z=>absurd z Jc,r,q)
end
def ag2(a:Sp)(b:Ju)(E:XK)(t:TA):TE:=λc H Q=>t c H λvs d=>a (vs++b) d Q E
def Sb(C:ax)(m:Str)(d:Sp)(e:Ju)(E:XK)(f:TE)(t:TA):TE:=λb H Q=>f b H λx c=>∃a g fs,x=.ref a/\c a=Y (.ins C g fs)/\fs.lookup m=O/\
 t b c λvs h=>d (x::(vs++e)) h Q E
def Binds(K:bH) fd(ps:Zg) b:=
 ∀(s:bc) (a:Wz),K.In s.13->(a++b).9=ps.9->BindsTo s fd (a,[]) (ps.zip<|a++b)
def Binds.all{K}(h:∀a:List aO,a.9=ps.9->xX fd (a,[])=pure (ps.zip a)):Binds K fd ps []:=λs a c b=>by ext;show .of_eq<|h a b
def yh(b:yg) X E:=∀(yq:List QA) (c:St) (H:Hp) (s:bc) (e:aO) (a:bc),Inv X yq c H s->b YR H s E e a->X.xe e a
section
variable {X:Cx} {CX:yg} {k:Nat} {f C:ax} {fd:Rm} {ps:List Str} {sp:Sp} {dvs:List V} {ds:List aO} {E:XK} {x m:Str} {p pos apos:Pos} {e o:dj} {es:List dj} {ta:TE} {t:TA}
def DV{d:St}(F:QW)(i:cQ k Yp)(j:Binds U2 fd ps ds)(hd:bP dvs ds)(l:yh CX X E)
  (b:Inv X yq d H s) (r:bP vs c) (h:sp (vs++dvs) H Q E):bj Jm Yp (call J7 c) (EP X yq d Q) U0 s:=by
 let g:=r.append hd;show HI<|Ac (F.run Yp YR s H (c,[]) (c++ds) (vs++dvs) Q E i b.AN (j s c b.ju (by rw[<-g.9];show F.len _ _ _ _ h)) g h) λr n a=>?_;cases r with
 |error e=>show l yq d H s e n b a
 |ok q=>
  cases q with|ret u=>show b.after a|next=>show gn a|brk=>show gn a|cont=>show gn a
def ag3(F:QW)(c:cQ k Yp)(d:Gl X x)(g:X.mg x=Y J7)(i:mO U2 J7=I)(j:Binds U2 fd ps ds)(hd:bP dvs ds)(l:yh CX X E)
  (n:PA X QE t) (u:autoParam (QM=au) b') (he:autoParam (bB QE Jr=JM::bB es X.env) a') (hpl:autoParam ((fI pos YQ).any (·.1)=au) a'):
  PE X ZF (ag2 sp dvs E t):=by
 show λyq s v H Q a h=>xF<|AB a d g (Hc (h₀:=YC) a.ok.mod.rX i (bF (n pos yq s v H _ a h) λw y (vs,z,b,r,q)=>(b.ju,DV F c j hd l b r q)) he hpl) u
def ag4{pl}(he:PE X o ta)(c:jX U2 C)(b:DT U2 C m f)(F:QW)(v:cQ k Yp)(w:Binds U2 fd ps ds)(hd:bP dvs ds)(y:yh CX X E)(z:PA X QE t)
  (A:autoParam (bB QE Jr=JM::bB es X.env) a') (hpl:autoParam ((fI pos YQ).any (·.1)=au) a')
  (B:autoParam (bC We Jr=(do
   let d <-bC o X.env
   o8 apos.atName
   let (f,first) <-l8 [d] (vO d m pl)
   xW pos f first (fI pos<|bB QE Jr) UR)) a'):
  PE X We (Sb C m sp dvs E ta t):=by
 show λyq s g H Q i h=>asr (bF (he yq s g H _ i h) fun u D (x,L,j,N,a,S,fs,ex,P,l,q)=>?_) B
 subst ex;obtain rfl:u=eZ a:=N;show R8 j P c b l<|Hc (h₀:=YC) i.ok.mod.rX b.kp (bF (z pos yq D g L _ j q) λT s2 (vs,H2,n,r,R)=>(n.ju,DV (vs:=.ref a::vs) F v w hd y n (.cons J r) R)) A hpl
def ag5(he:PE X o ta)(c:jX U2 C)(d:DT U2 C m f)(F:QW)(i:cQ k Yp)(j:Binds U2 fd ps ds)(hd:bP dvs ds)(n:yh CX X E)
  (r:autoParam (bC Wj Jr=(do
   let g <-bC o X.env
   o8 apos.atName
   let (f,first) <-l8 [g] (vO g m pl)
   xW pos f first (fI pos<|bB [] Jr) UR)) a'):
  PE X Wj (Sb C m sp dvs E ta aa):=by
 show λyq s v H Q w h=>asr (bF (he yq s v H _ w h) fun u A (x,B,b,y,a,D,fs,ex,z,l,q)=>?_) r
 subst ex;obtain rfl:u=eZ a:=y;show R8 b z c d l<|asI b.ju d.kp<|DV (vs:=[.ref a]) F i j hd n b (.cons J .nil) q
structure Mk(K:bH)(C f:ax):Prop where
 makes:Pg K C=I
 init:mP K Zl "__init__"=Y (Y J7)
 fn:Dk K J7=I
 kp:mO K Zl=I
def Sd{i:St}(M:Mk U2 C f)(F:QW)(n:cQ QU Yp)(q:Binds U2 fd ps ds)(hd:bP dvs ds)
  (w:yh CX X E) (c:Inv X yq i H s) (r:bP vs a)
  (h:∀x d,H x=O->H d=O->d≠x->sp (.ref x::(vs++dvs)) (aA (aA H d<|.own x) x<|.ins C d []) (λv y=>v=.aW/\Q (.ref x) y) E):
  bj Jm Yp (call Zl a) (EP X yq i Q) U0 s:=by
 let j:=h UZ Jd (c.bo.fresh<|avg _) (c.bo.fresh JR)<|iw<|auf _;let g:=Inv.made (C:=C) c;let l:bP (V.ref UZ::(vs++dvs)) (eZ UZ::(a++ds)):=.cons J<|r.append hd;haveI z:(eZ UZ::a++ds).9=ps.9:=by
  let e:=l.9;rw[F.len _ _ _ _ j]at e;show e.3
 show HI (agT c.ju M.makes M.init (vM.1 M.fn) (Ac (F.run _ YR _ _ (eZ UZ::a,[]) (eZ UZ::(a++ds)) _ _ E (n.make C a [])
  (g.AN.make C a []) (q _ (eZ UZ::a) g.ju z) l j) λr A b=>?_))
 cases r with
 |error e=>show w yq i _ _ e A g b
 |ok B=>
  cases B with
  |ret u=>
   let(v,D,L,N,ev,P):=g.after b;subst ev;show(N,(V.ref UZ,D,L,J,P))
  |next=>show gn b
  |brk=>show gn b
  |cont=>show gn b
end
structure fe(N P:Zg)(sc:l_):Prop where
 kind:sc.kind=.function
 co:sc.isCoroutine=au
 gen:sc.isGenerator=au
 nd:N.Nodup
 pre:N.take P.9=P
 par:∀x∈P,sc.names.lookup x=Y .local\/sc.names.lookup x=Y .cell
 ag6:∀y∈sc.names,y.2≠.free
theorem Se{kindOf}:∀{a m},(∀v,(x,(v))∉a)->Ap kindOf a m x=m x
 |[],c,d=>rfl
 |(n,v)::r,m,h=>by
  delta Ap;rw[Se λw b=>h w<|df _ b];split
  .grind
  rfl
theorem Sf{kindOf}:∀{a m},(∀v,(x,(v))∉a)->Aq kindOf a m x=m x
 |[],c,d=>rfl
 |(n,v)::r,m,h=>by
  delta Aq;rw[Sf λw b=>h w<|df _ b];split
  .rfl
  grind
theorem Sg{kindOf}:∀{P:List Str}{vs}{i:JD}{m},P.Nodup->P[i]?=Y x->vs[i]?=Y v->kindOf x=Y .local->
  Ap kindOf (P.zip vs) m x=Y v
 |[],f,g,j,k,h,l,n=>by simp at h
 |f::g,[],j,k,l,n,h,o=>by simp at h
 |p::P,w::vs,0,m,c,a,b,d=>by
  simp at a b;subst a;subst b;change Ap kindOf ((p,(w))::P.zip vs) m p=_
  delta Ap;rw[Se λv e=>(mM.1 c).1 (Pq e).1,ak d];simp
 |p::P,w::vs,i+1,m,c,a,b,d=>by
  delta Ap;show Sg (mM.1 c).2 (by exists a) (by exists b) d
theorem Sh{kindOf}:∀{P:List Str}{vs}{i:JD}{m},P.Nodup->P[i]?=Y x->vs[i]?=Y v->kindOf x≠Y .local->
  Aq kindOf (P.zip vs) m x=Y v
 |[],f,g,j,k,h,l,n=>by simp at h
 |f::g,[],j,k,l,n,h,o=>by simp at h
 |p::P,w::vs,0,m,c,a,b,d=>by
  simp at a b;subst a;subst b;change Aq kindOf ((p,(w))::P.zip vs) m p=_
  delta Aq;rw[Sf λv e=>(mM.1 c).1 (Pq e).1,aj d];simp
 |p::P,w::vs,i+1,m,c,a,b,d=>by
  delta Aq;show Sh (mM.1 c).2 (by exists a) (by exists b) d
def start(N:Zg)(vs:Ju):St:=vs.map Y++cW (N.9-vs.9) O
def uw(d:yg)(P:gz)(w:bS)(K:bH)(mg:Str->Option aO)(base:c_)(N:Zg)(a:Str)(scope:l_)(f:ax)(b:aO)(A:fA)(outer:List Env)(s:bc)(H:Hp)(E:XK):Cx where
 prog:=P
 w:=w
 K:=K
 mg:=mg
 base:=base
 A:=A.deeper<|l9 a scope Jd f b
 N:=N
 iO:=s
 nZ:=H
 env:=l9 a scope Jd f b
 outer:=outer
 stack:=l9 a scope Jd f b::outer
 ex:=[]
 calm:=I
 fn:=λi=>I
 pn:=[]
 xe:=λe g=>bj (bb P w) (A.deeper<|l9 a scope Jd f b) (leaving (l9 a scope Jd f b) e) (λi c=>d outer H s E e c) (λh c=>d outer H s E h c) g
def Si{sc:l_}(h:sc.names.lookup x=Y .cell):∃c,(iy n sc.names []).lookup x=Y c:=Option.isSome_iff_exists.1<|aeB sc.names n []<|.inl h
def Sj{K}
  (S:fe N ps scope) (hd:A.handled=O) (a:og P w K mg base A outer s H) (T:vs.9=ps.9) (r:bP vs t)
  (x:InCallC s Jd (Ap (l9 m scope Jd f n).kindOf (ps.zip t) λV=>O) (iy UZ JL []) (Aq (l9 m scope Jd f n).kindOf (ps.zip t) λV=>O) F):
  Inv (uw L P w K mg base N m scope f n A outer s H E) [] U5 H F:=by
 let hpl:ps.9<=N.9:=by let:=e8 t_ S.pre;rw[oQ]at this;lia
 let(l,X,rfl,B):=x.done;let o:∀b:ax,b∉(uw L P w K mg base N m scope f n A outer s H E).ex:=λb z=>absurd (show b∈[] from z) Jc
 show((a.mod,S.kind,J,J,JR,λy z c l d=>?_,λy g=>?_,λy c V h=>?_,λV=>hd,aeG a.frames,.inr (J,J),λb z=>absurd z<|o b,a.bs,a.m7,λb V V=>o b,λb z=>absurd z<|o b,a.km,a.qo),
  rfl,a.bare,Un.kept B,(_,x.toInCall.ns,λi y v l d h3=>?_),λy c h=>(_,x.cell y c h),a.bo.fresh JR,λy c h=>?_,λp j=>absurd (show p∈[] from j) Jc,a.bo.kept B,?_)
 .show name_of_addr x.apart (jP l)<|jP d
 .let g:scope.names.lookup y=Y .cell\/scope.names.lookup y=Y .free:=g;rcases g with g|g
  .show Si g
  show absurd J<|S.ag6 _<|jP g
 .show mU<|x.above y c<|jP h
 .let hi:i<vs.9:=by
   delta start at d;cases hi:i<vs.9
   .show hi
   rw[G6<|by exists hi]at d;rw[OX]at d;split at d<;>cases d
  let Q:vs[i]?=Y v:=by
   delta start at d;rw[xB<|by simpa using hi,c8]at d;induction e:vs[i]?<;>ext
  let(u,C,R):=r.get Q;let j:ps[i]?=Y y:=by
   rw[<-S.pre,List.getElem?_take_of_lt Ja];show l
  let D:ps.Nodup:=by rw[<-S.pre];show S.nd.sublist<|List.take_sublist _ _
  show(u,R,?_);rcases S.par y (bM j) with k|k
  .show .inl (k,Sg D j C k)
  let(c,e):=Si k;show .inr (.inl k,c,e,?_);let q:=x.cell y c e;rwa [Sh D j C (by change scope.names.lookup y≠_;rw[k];decide)]at q
 .show a.bo.fresh<|mU<|x.above y c<|jP h
 delta start;change _=N.9
 ext
def ag7{K kV}
  {D:Array Z2}{N ps:Zg}{j:Sp}(F:K.lookup f=Y (oc,od,.func<|rN name g params body scope L kV R pm T bu ct,D)) (X:C9 K bu g=I) (S:fe N ps scope)
  (len:∀vs H Q E,j vs H Q E->vs.9=ps.9)
  (ab:∀A outer s H vs Q E,cQ k (A.deeper<|l9 g scope Jd f bu)->j vs H Q E->
   ∃t,iP (uw z P w K mg base N g scope f bu A outer s H E) body t/\t {nx:=λ_ a=>Q .aW a,rt:=Q} U5 H):
  iV P w K mg base z QU f (rN name g params body scope L kV R pm T bu ct) ps j:=by
 show(len,λA outer s H args us vs Q E l h hb r B=>?_);let C:=h.mod.rX.keeps λb o e=>(h.bs b o e).1
 haveI ac:∀y∈ps.zip us,scope.names.lookup y.1=Y .local\/(scope.names.lookup y.1=Y .cell/\((iy UZ JL []).lookup y.1).isSome=I):=fun(n,v) hy=>by
  rcases S.par n (Pq hy).1 with q|q
  .show .inl q
  show .inr (q,aeB _ _ _<|.inl q)
 show atQ l.depth (C _ _ F) J S.co S.gen J (asT C X)<|hb _ _ _ _<|asR S.kind ac λenv he s1 x=>?_;subst he;show((h.mod.nolimit.keeps λb o e=>(h.bs b o e).1).keeps x.toInCall.keep,codeAny_func ?_);let(t,ht,hq):=ab A outer s H vs Q E (l.deeper _) B;show kX (ht [] s1 U5 H _ (Sj S l.hd h (len _ _ _ _ B) r x) hq) (λfl m d=>?_) λe m d=>d
 let fin:∀{i:St}{a:Hp}{v:V}{u:aO},Inv (uw z P w K mg base N g scope f bu A outer s H E) [] i a m->RelV v u->Q v a->CE outer P w H s Q u m:=
  λ{i a v u} c p q=>(v,a,c.os,c.bare,c.base,c.bo,p,q)
 cases fl with
 |ret u=>
  let(v,i,a,c,p,q):=d;show fin c p q
 |next=>
  let(i,a,c,q):=d;show fin (v:=V.aW) c J q
 |brk=>
  let(_,_):=d;ext
 |cont=>
  let(_,_):=d;ext
section
variable {X:Cx} {x:Str} {p pos:Pos} {e:dj} {es:List dj} {t:TA} {id T:String} {r:List V->Hp->VK->Prop}
abbrev Sk(r:List V->Hp->VK->Prop) Q xs H:=r xs H Q
abbrev bA(r:List V->Hp->VK->Prop)(t:TA):TE:=λa H Q=>t a H<|Sk r Q
def v7(c:ko X Yl r)(d:Gl X x)(f:X.mg x=O)(g:nV x=Y Yl)(i:PA X QE t)(j:autoParam (x≠"__name__") b')(k:autoParam (QM=au) b')
  (he:autoParam (bB QE Jr=JM::bB es X.env) a') (hpl:autoParam ((fI pos YQ).any (·.1)=au) a'):PE X ZF (bA r t):=by
 show λyq s a H Q b h=>xF<|rY b d f g (av5 (bF (i pos yq s a H _ b h) λl m (vs,n,o,r1,q)=>c yq m a n vs l Q o r1 q) he hpl) j k
def IB(c:ko X (.type T) r)(d:Gl X x)(f:X.mg x=O)(g:nV x=Y (.type T))(i:PA X QE t)(j:autoParam (x≠"__name__") b')(k:autoParam (QM=au) b')
  (he:autoParam (bB QE Jr=JM::bB es X.env) a') (hpl:autoParam ((fI pos YQ).any (·.1)=au) a'):PE X ZF (bA r t):=by
 show λyq s a H Q b h=>xF<|rY b d f g (zM (bF (i pos yq s a H _ b h) λl m (vs,n,o,r1,q)=>c yq m a n vs l Q o r1 q) he hpl) j k
end
end L2
namespace HT
open PySem PyProof.Rows
def lexLt:List Int->List Int->Bool|[],[]=>au|[],b::c=>I|b::c,[]=>au|x::xs,y::a=>if x=y then lexLt xs a else decide (x<y)
def IC x y xs a:lexLt (x::xs) (y::a)=if x=y then lexLt xs a else decide (x<y):=J
def Sl:lexLt [] []=au:=J
def Sn y a:lexLt [] (y::a)=I:=J
def So x xs:lexLt (x::xs) []=au:=J
def DW A s a t c u:∃e,Rj A s (.int a t) (.int c u) e/\(e=I↔a=c):=
 (a==c,O8 a t c u,Jc)
def Sr A s a t c u prog w E Q(h:Q (.bool<|decide<|a<c) s):
  bj JB A (afR .Lt (.int a t)<|.int c u) Q E s:=
 (auD h:bj JB A (gJ .Lt (.int a t)<|.int c u) Q E s)
section
open PySem.SeqAt
open PySem.AutoSeq1 (wpAny_loadPart')
open PySem.MeetsSeq PySem.MeetsSeq2 PySem.MeetsSeq3
def ag8 l b(items j:Array aO)(n L:JD)(N P:YT)(Q S:Array Z2)(ns ms:Jw)(hi:e9 Wf ns)(E:e9 j.toList ms):
  As (uf.«tuple.__lt__» ([.ref l,.ref b],[]))
   (λK R s=>s.heap.get? l=Y {cls:=QP,dict:=N,data:=.seq items n,slots:=Q}/\s.heap.get? b=Y {cls:=QP,dict:=P,data:=.seq j L,slots:=S}/\
    R (.ok<|.ret Wl) s):=
 .of_wp λprog w A R s h=>by
  let(p,g,d,r,os):=s;let(T,X,h):=h;let f2:=aey;let z1:items.12=ns.9:=by rw[<-hi.9];simp
  let z2:j.12=ms.9:=by rw[<-E.9];simp
  wp_walk using i_ T,i_ X,afp _ (λrest b B=>b.1=O/\B=(p,g,d,r,os)/\∃(vs v:List aO) (k m:Jw),rest=vs.zip v/\
   e9 vs k/\e9 v m/\k.9+j.12=m.9+items.12/\R (.ok<|.ret<|.bool<|lexLt k m) (p,g,d,r,os)) _
  case turn=>
   intro(y,x) rest b B (C,rfl,vs,v,k,m,f,D,z,o,i);cases D with
   |nil=>rw[aeY]at f;cases f
   |cons a t ab=>
    cases z with
    |nil=>rw[j9]at f;cases f
    |cons c u ac=>
     injection f with ae af
     injection ae with hy hx
     subst hy hx;rw[IC]at i;simp at o;let(e,he,F):=DW A.in1 (p,g,d,r,os) a t c u;show bg<|he prog w _ _ ?_;cases e with
     |true=>
      rw[ak<|F.1 J]at i;wp_walk;show(J,J,_,_,_,_,af,ab,ac,JE,i)
     |false=>
      rw[aj λq=>absurd (F.2 q) gZ]at i;let ag:=Sr A.in1 (p,g,d,r,os) a t c u prog w;wp_walk using ag;show(_,J,by exists i)
  case fin=>
   intro(b1,b2) B (C,rfl,vs,v,k,m,f,D,z,o,i);simp only at C;subst C;let H:lexLt k m=decide (items.12<j.12):=by
    cases D with
    |nil=>
     cases z with
     |nil=>
      erw[rJ]at o;rw[Sl];show (iK JE).3
     |cons c u hw=>
      erw[rJ,gm]at o;rw[Sn];show (cn JE).3
    |cons a t H=>
     cases z with
     |nil=>
      erw[rJ,gm]at o;rw[So];show (iK JE).3
     |cons c u hw=>
      rw[jn]at f;cases f
   rw[H]at i;wp_walk;show(_,J,by simpa [aeP] using i)
  case h=>
   show(J,J,Wf,j.toList,ns,ms,J,hi,E,JE,h)
end
section
variable {prog:gz} {w:bS} {A:fA} {E:aO->bc->Prop} {s:bc}
def ag9(e:IsTup s.13 l items)(f:IsTup s.13 b a)(hi:e9 Wf ns)(g:e9 a.toList ms)
  (i:YS<ki) (h:Q Wl s):bj JB A (gJ .Lt (.ref l) WO) Q E s:=by
 let((cls,j,data,k),c,m,n,hd):=id e;let((u,o,data2,p),d,q,r,t):=id f;subst m hd q t;show O0 (op:=.Lt) (_,c,J) (_,d,J) PySem.F.slot_tuple_lt PySem.F.entry_tuple_lt (PySem.F.args_tuple_lt_2 _ _) (ag8 l b items a n r j o k p ns ms hi g)
  (c,d,show afK (lexLt ns ms)≠asU/\Q Wl s from ((λx=>nomatch x),h)) i
def iW(n d:JD):Option Int->Nat|none=>d|some v=>if v<0 then (v+(n:JH)).6 else min v.6 n
def Ss n d:iW n d O=d:=J
def DX(n d k:JD):iW n d (Y k)=min k n:=by rfl
def aha v(n d:JD):(if v<0 then max (v+(n:JH)) 0 else min v n)=((iW n d (Y v):Nat):Int):=by
 change (if v<0 then max (v+n) 0 else min v n)=(((if v<0 then (v+n).6 else min v.6 n):Nat):Int)
 grind
end
end HT
namespace L2
open PySem PySem.Spec PyProof.Rows
abbrev TO:=St->Hp->(Option Int->Hp->Prop)->Prop
def PO X e(t:TO):=
 ∀(yq:List QA) (s:bc) (a:St) (H:Hp) (Q:Option Int->Hp->Prop),Inv X yq a H s->t a H Q->
  bj Jm Yp (evalPart e Jr) (λu c=>∃o b,Inv X yq a b c/\IsPart u o/\Q o b) U0 s
abbrev m9:TO:=λa H Q=>Q O H
def iA(t:TE):TO:=λa H Q=>t a H λx b=>∃i,x=.int i/\Q (Y i) b
def intsAre_of:∀{a},bP Qt a->e9 a ns:=by
 induction ns with
 |nil=>intro a r;rw[afC]at r;cases r;show .nil
 |cons n ns b=>
  intro a r;cases r with
  |cons r1 c=>
   let(t,e):=r1;subst e;show .cons n t<|b c
section
variable {X:Cx} {e:dj} {te:TE} {lo hi:Option dj} {tl th:TO} {pos p2:Pos}
def Su:PO X O m9:=λyq s b H Q a h=>dG (O,H,a,.none,h)
def DY(h:PE X e te):PO X (Y e) (iA te):=by
 show λyq s a H Q b c=>bF (h yq s a H _ b c) fun u j (x,d,f,r1,g)=>?_
 let(i,rfl,q):=g;let(t,rfl):=r1;show(Y i,d,f,.int i t,q)
def v8 X(r:V->Option Int->Option Int->Hp->VK->Prop):=
 ∀(yq:List QA) (s:bc) (a:St) (H:Hp) (x:V) (v vl b:aO) (lo hi:Option Int) (c:ax) (Q:VK),Inv X yq a H s->RelV x v->s.heap.IsSliceOf c vl b .none->IsPart vl lo->IsPart b hi->r x lo hi H Q->
  ∃T id,typeLookup (.type T) "__getitem__"=pure (Y Yl)/\s.TypeIs v T/\bj Jm Yp (HP v Za) UB U0 s
abbrev RS:=V->Option Int->Option Int->Hp->VK->Prop
abbrev ahb(r:RS) x l Q u H:=r x l u H Q
abbrev ahc r(th:TO) a x Q l H:=th a H<|ahb r x l Q
abbrev ahd r(tl th:TO) a Q x H:=tl a H<|ahc r th a x Q
abbrev k8(r:RS)(te:TE)(tl th:TO):TE:=λa H Q=>te a H<|ahd r tl th a Q
def Sv(g:v8 X r)(he:PE X e te)(i:PO X lo tl)(j:PO X hi th):PE X (.Subscript e (.Slice lo hi O p2) pos) (k8 r te tl th):=by
 show λyq s a H Q k h=>afX<|bF (he yq s a H _ k h) fun v m (x,n,o,r1,p)=>wpAny_Slice<|bF (i yq m a n _ o p) fun vl t (l,w,y,pl,z)=>bF (j yq t a w _ y z) fun d c (u,f,A,B,C)=>dG ?_
 let D:Inv X yq a f {c with heap:=c.heap.push {cls:=.type "slice",data:=.fields #[vl,d,.none]}}:=A.kept λb N q=>dm _ q
 let(T,id,E,F,L):=g yq {c with heap:=c.heap.push {cls:=.type "slice",data:=.fields #[vl,d,.none]}} a f x v vl d l u QG Q D r1 (Heap.IsSliceOf.new ..) pl B C;show tail_any F E L<|by rfl
def h_(xs:Ju) lo hi:=(xs.drop<|HT.iW xs.9 0 lo).take<|HT.iW xs.9 xs.9 hi-HT.iW xs.9 0 lo
def ahe xs lo hi:(h_ xs lo hi).9<=xs.9:=by delta h_;ext;lia
def DZ(K:bH):R2:=λx y H Q=>∃a b ns ms,x=.ref a/\y=.ref b/\bR K H a Qt/\bR K H b (ms.map V.int)/\Q (.bl<|HT.lexLt ns ms) H
def ahf(d:X.A.units<ki):dD X (gJ .Lt) (DZ U2):=by intro yq s l H x y v u Q c f g (a,b,ns,ms,rfl,rfl,h,i,q);cases f;cases g;let(m,r1,j,_):=c.tuple h;let(n,k,p2,_):=c.tuple i;show HT.ag9 j p2 (intsAre_of r1) (intsAre_of k) d (.bl<|HT.lexLt ns ms,H,c,J,q)
end
def oh(n:JD)(i:JH):=if 0<=i then (if i<n then Y i.6 else O) else if -(n:JH)<=i then Y (i+n).6 else O
def jw{a:Type}(xs:UI) i:=(oh xs.9 i).bind λj=>xs[j]?
def Sw(h:oh n i=Y j):seqIndex? i n=Y j/\j<n/\ -n<=i/\i<n:=by
 delta oh at h;cases b:0<=i
 .rw[ak b]at h;cases a:i<n
  .rw[ak a]at h;let e:=bt h;show(by rw[afQ b a,e],JE,JE,a)
  ext
 rw[aj b]at h;cases a: -n<=i
 .rw[ak a]at h;let e:=bt h;show(by rw[seqIndex_neg JE a,e],JE,a,JE)
 ext
def Sx(h:jw xs i=Y v):∃j,seqIndex? i xs.9=Y j/\xs[j]?=Y v/\j<xs.9/\ -xs.9<=i/\i<xs.9:=by
 delta jw at h;cases e:oh xs.9 i with
 |none=>rw[e]at h;cases h
 |some j=>
  rw[e]at h;let(a,b,c,d):=Sw e;show(j,a,h,b,c,d)
def dI{j:JD}{v:a}(h:xs[j]?=Y v):jw xs j=Y v:=by
 let b:=(cU.1 h).1;haveI e:oh xs.9 j=Y j:=by
  delta oh;ext
 delta jw;rw[e];show h
def Sy b:=∀o i,Rg b au o i=operate [o,i] (HP o i)
def qy X(r:R2):=
 ∀(value slice:dj) (yq:List QA) (s:bc) (a:St) (H:Hp) (x y:V) (v u:aO) (Q:VK),Inv X yq a H s->RelV x v->RelV y u->r x y H Q->
  Rg slice au v u=operate [v,u] (HP v u)->bj Jm Yp (subscriptTail value slice v u) UB U0 s
def Sz X id(r:V->List V->Hp->VK->Prop):=
 ∀(yq:List QA) (s:bc) (a:St) (H:Hp) (x:V) (xs:Ju) (v:aO) (b:Wz) (Q:VK),Inv X yq a H s->RelV x v->bP xs b->r x xs H Q->
  bj Jm Yp (call Yl<|v::b) UB U0 s
section
variable {X:Cx} {a b:dj} {ta tb:TE} {pos:Pos}
def gK(c:qy X r)(d:Wb)(e:PE X b tb)(f:Sy b):PE X (.Subscript a b pos) (ah r ta tb):=λyq s g H Q i h=>afX<|Iq d e i h λv u j x y k l m n q=>c a b yq j g k x y v u Q l m n q<|f _ _
def aX(K:bH):R2:=λx y H Q=>∃p xs i v,x=.ref p/\y=.int i/\aq K H p xs/\jw xs i=Y v/\Q v H
def cf(K:bH):R2:=λx y H Q=>∃p xs i v,x=.ref p/\y=.int i/\bR K H p xs/\jw xs i=Y v/\Q v H
def jx:qy X (aX U2):=by
 intro value slice yq s l H x y v u Q e m n h f;let(p,xs,i,z,rfl,rfl,o,he,q):=h;cases m;let(t,rfl):=n;let(A,r,pl,L):=e.list o;let(j,c,B,N,C,D):=Sx he;let(w,g,E):=r.get B;let F:=r.9;let P:=AL;let fin:EP X yq l Q w s:=(z,H,e,E,q);cases k:0<=i
 .haveI d:i.6=j:=by
   rw[afQ k D]at c;show bt c
  show item_listR pl.isList k JE (by rw[d];exists g) fin f
 haveI d:(i+A.toArray.12).6=j:=by
  rw[seqIndex_neg JE C]at c;rw[vE,<-F];show bt c
 show atx pl.isList.typeIs auR.lookup
  (wpAny_getItem_list_neg pl.isList Ja (by rw[vE]<;>lia) Ja (by rw[d];exists g) (J,fin)) f
def oj:qy X (cf U2):=by
 intro value slice yq s o H x y v u Q c d e h f;let(p,xs,i,z,rfl,rfl,g,he,q):=h;cases d;let(t,rfl):=e;let(A,r,pl,B):=c.tuple g;let(j,k,l,C,D,E):=Sx he;let(w,m,n):=r.get l;let F:=AL;show atx pl.typeIs slot_tuple_getitem.lookup
  (getItem_tuple pl Ja Ja (by rw[vE,<-r.9];show k) (by exists m) (J,(z,H,c,n,q))) f
def ahg(c:Wz) n j u:xT (·.setIfInBounds j u) {cls:=J2,data:=.seq YU n}={cls:=J2,data:=.seq (c.set j u).toArray n}:=by simp[xT]
theorem Inv.lst{d:St}(f:Inv X yq d H s)(h:H p=Y JX):
  ∃(c:List aO) (n:JD),bP xs c/\s.heap.get? p=Y {cls:=J2,data:=.seq YU n}/\xs.9<=cz:=by
 let(z,c,n,r,e):=f.bo p _ h;show(c,n,r,e,z)
def Inv.ahh{d:St}{g:Wz}(l:Inv X yq d H s)(h:H p=Y JX)
  (m:s.heap.get? p=Y {cls:=J2,data:=.seq g.toArray n}) (i:f {cls:=J2,data:=.seq g.toArray n}={cls:=J2,data:=.seq YU j}) (r:bP k c) (o:k.9<=cz) t:
  Inv X yq d (aA H p<|.lst k) {s with heap:=s.heap.update p f,toks:=t}:=by
 haveI e:(s.heap.update p f).get? p=Y {cls:=J2,data:=.seq YU j}:=by
  rw[asV f m (by rw[i]<;>rfl),i]
 show l.write (by rw[h];trivial) Qw (λb u v q=>(asJ _ _<|mY v).trans q) (_,e) ?_;show(o,c,j,r,e)
def v9:V->V->V->Hp->(Hp->Prop)->Prop:=λo i v H Q=>∃p xs k j,o=.ref p/\i=.int k/\H p=Y JX/\oh xs.9 k=Y j/\Q (aA H p<|.lst<|xs.set j v)
def SD:RM X v9:=by
 intro yq s w H o i v D E u Q f x y z (p,xs,k,j,rfl,rfl,g,A,q);cases x;let(t,rfl):=y;let(h,n,r,c,F):=f.lst g;let(d,L,B,C):=Sw A;let N:=r.9;let P:=AL;let l:Inv X yq w (aA H p<|.lst<|xs.set j v) {s with heap:=s.heap.update p (xT (·.setIfInBounds j u))}:=
  f.ahh g c (ahg h n j u) (r.set z j) (by ext) ZK
 cases m:0<=k
 .haveI e:k.6=j:=by
   rw[afQ m C]at d;show bt d
  show PySem.W.ki_setAt c m Ja (by ext) (by rw[e];show(_,l,q))
 haveI e:(k+h.toArray.12).6=j:=by
  rw[seqIndex_neg Ja B]at d;ext
 show PySem.W.ki_setBack c Ja (by ext) Ja (by rw[e];show(_,l,q))
def ahi c hi n:(Ah c hi O n).1=((HT.iW n 0 c:Nat):Int)/\(Ah c hi O n).2.1=((HT.iW n n hi:JD):Int)/\(Ah c hi O n).2.2=1:=by
 show(?_,?_,J)
 .cases c with
  |none=>simp[Ah,HT.iW]
  |some i=>
   erw[Ah,HT.iW,ato,show (1:Int) >0 by decide,qj];cases h:i<0
   .erw[h,qj]<;>omega
   erw[h,uc]<;>omega
 cases hi with
 |none=>simp[Ah,HT.iW]
 |some i=>
  erw[Ah,HT.iW,ato,show (1:Int) >0 by decide,qj];cases h:i<0
  .erw[h,qj]<;>omega
  erw[h,uc]<;>omega
def ahj(c:Wz) d hi:slicePick YU d hi O=((c.drop<|HT.iW c.9 0 d).take<|HT.iW c.9 c.9 hi-HT.iW c.9 0 d).toArray:=by let(e,f,g):=ahi d hi c.toArray.12;delta slicePick;rw[e,f,g];erw[sliceRange_one,pick_run]<;>rfl
def jZ(K:bH):V->Option Int->Option Int->Hp->VK->Prop:=λx c hi H Q=>∃a xs,x=.ref a/\aq K H a xs/\∀p,H p=O->Q JS (aA H p<|.lst<|h_ xs c hi)
def D0:v8 X (jZ U2):=by intro yq s l H x v vl m c hi n Q d f g pl h (a,xs,rfl,i,q);cases f;let(o,r,e,j):=d.list i;let k:=r.9;show("list",_,auR.lookup,e.isList.typeIs,wpAny_getItem_list_slice e.isList g pl h .none Jc ?_<|by ext);rw[ahj,<-k];show(.ref Jd,_,d.laid (λb p q=>dm _ q) JR ?_,J,q _<|d.bo.fresh JR);show(eO (ahe xs c hi) j,_,0,(r.drop<|HT.iW xs.9 0 c).take<|HT.iW xs.9 xs.9 hi-HT.iW xs.9 0 c,UC)
def r_:V->Bool|.aW=>I|.bl a=>I|.int a=>I|.str a=>I|a=>au
def qz:V->V->Bool|.aW,.aW=>I|.bl a,.bl b=>a==b|.bl a,.int b=>(if a then 1 else 0)==b|.int a,.bl b=>a==(if b then 1 else 0)|.int a,.int b=>a==b|.str a,.str b=>a==b|c,d=>au
def ahk(d:RelV y u)(c:RelV x v)(f:r_ y=I)(e:r_ x=I):Rj A s u v (qz y x):=by
 cases y with
 |aW=>
  cases d;cases x with|aW=>cases c;show aub _|bl b=>cases c;show awb b|int b=>let(t,rfl):=c;show awa b t|str b=>let(t,rfl):=c;show av9 b t|_=>show absurd (e) gZ
 |bl a=>
  cases d;cases x with|aW=>cases c;show awf a|bl b=>cases c;show awh a b|int b=>let(t,rfl):=c;show awg a b t|str b=>let(t,rfl):=c;show awe a b t|_=>show absurd (e) gZ
 |int a=>
  let(t',rfl):=d;cases x with|aW=>cases c;show awc a t'|bl b=>cases c;show awd a t' b|int b=>let(t,rfl):=c;show O8 a t' b t|str b=>let(t,rfl):=c;show asu a t' b t|_=>show absurd (e) gZ
 |str a=>
  let(t',rfl):=d;cases x with|aW=>cases c;show av7 a t'|bl b=>cases c;show av8 a t' b|int b=>let(t,rfl):=c;show ass a t' b t|str b=>let(t,rfl):=c;show av6 a t' b t|_=>show absurd (show au=I from e) gZ
 |_=>show absurd (show au=I from f) gZ
def sf x(u:aO):=match u with
 |.none=>qz .aW x
 |.bool b=>qz (.bl b) x
 |.int i a=>qz WD x
 |.str z a=>qz (.str z) x
 |a=>au
def SE(r:RelV y u)(f:r_ y=I):sf x u=qz y x:=by cases y with|aW=>cases r;rfl|bl b=>cases r;rfl|int i=>let(t,rfl):=r;rfl|str z=>let(t,rfl):=r;rfl|_=>show absurd (f) gZ
theorem ID:∀{xs c},bP xs c->xs.all r_=I->c.any (sf x)=xs.any λy=>qz y x
 |_,_,.nil,_=>rfl
 |y::xs,u::c,.cons r t,f=>by
  rw[afw,jo]at f;rw[ke,ke,SE r f.1,ID t f.2]
theorem IE(e:RelV x v)(g:r_ x=I):∀{xs d},bP xs d->xs.all r_=I->∀u∈d,Rj A s u v (sf x u)
 |_,_,.nil,_=>λu c=>by cases c
 |y::xs,u::d,.cons r t,f=>λh c=>by
  rw[afw,jo]at f;rcases fQ.1 c with rfl|c
  .rw[SE r f.1];show ahk r e f.1 g
  show IE e g t f.2 h c
def D1 x(xs:Ju):=xs.any λy=>qz y x
def SF(K:bH)(neg:Bool):R2:=λx y H Q=>∃p xs,y=.ref p/\(aq K H p xs\/bR K H p xs)/\r_ x=I/\xs.all r_=I/\Q (.bl<|if neg then !D1 x xs else D1 x xs) H
def ahl:dD X (gJ .NotIn) (SF U2 I):=by
 intro yq s k H x y v u Q e f h (p,xs,rfl,c,g,fs,q);cases h;rcases c with c|c
 .let(d,r,pl,i):=e.list c;show SeqAt.notIn_listAt (sf x) pl.isList (λw j=>IE f g r fs w<|by ext) (.bl _,H,e,J,?_);rwa [show d.toArray.any (sf x)=d.any (sf x) by simp,ID r fs]
 let(d,r,pl,i):=e.tuple c;show SeqAt.notIn_tupleAt (sf x) pl (λw j=>IE f g r fs w<|by ext) (.bl _,H,e,J,?_);rwa [show d.toArray.any (sf x)=d.any (sf x) by simp,ID r fs]
def ahm:ko X (.builtin "len") (λxs H Q=>∃p c,xs=[.ref p]/\(aq U2 H p c\/bR U2 H p c)/\Q (.int c.9) H):=by
 intro yq s k H xs l Q e r (p,c,rfl,d,q);let(u,rfl,h):=vals1 r;cases h;let m:=AL;rcases d with d|d
 .let(i,f,pl,j):=e.list d;let g:=f.9;show Calls.call_len_list pl.isList (by erw[vE]<;>omega) (.int c.9,H,e.tok _,(ZK+1,by rw[vE,g]),q)
 let(i,f,pl,j):=e.tuple d;let g:=f.9;show len_tuple pl (by erw[vE]<;>omega) (.int c.9,H,e.tok _,(ZK+1,by rw[vE,g]),q)
def ahn:ko X (.builtin "len") (λxs H Q=>∃z,xs=[.str z]/\z.9<=cz/\Q (.int z.9) H):=by intro yq s d H xs e Q c r (z,rfl,f,q);let(u,rfl,t,rfl):=vals1 r;let g:=AL;show len_str Ja (.int z.9,H,c.tok _,Qq,q)
def aho:ko X J2 (λxs H Q=>∃p d,xs=[.ref p]/\(aq U2 H p d\/bR U2 H p d)/\∀l,H l=O->Q (.ref l) (aA H l<|.lst d)):=by
 intro yq s w H xs z Q k r (p,d,rfl,h,q);let(u,rfl,x):=vals1 r;cases x;let fin:∀c,bP d c->d.9<=cz->∀h' f,(∀b v,s.heap.get? b=Y v->h'.get? b=Y v)->
   h'.get? Jd=Y {cls:=J2,dict:=O,data:=.seq YU f,slots:=#[]}->EP X yq w Q (.ref Jd) {s with heap:=h'}:=λc g i h' f j e=>
  (.ref Jd,_,k.laid j JR (show kl UG X.w _ h' _ (.lst d) from (i,c,f,g,e)),J,q _<|k.bo.fresh JR)
 rcases h with h|h
 .let(c,g,pl,i):=k.list h;let y:=g.9;let(o,m,t,n,hd):=pl.isList;show avv p Qw m t hd (λh' f j e=>fin c g i h' f j e) (by simp<;>omega)
 let(c,g,pl,i):=k.tuple h;let y:=g.9;let(o,m,t,n,hd):=pl;show avv p (.inr J) m t hd (λh' f j e=>fin c g i h' f j e) (by simp<;>omega)
def ahp:ko X QP (λxs H Q=>∃p c,xs=[.ref p]/\((aq U2 H p c/\∀l,H l=O->Q (.ref l) (aA H l<|.tup c))\/(bR U2 H p c/\Q JS H))):=by
 intro yq s j H xs w Q d r (p,c,rfl,h);let(u,rfl,n):=vals1 r;cases n;rcases h with⟨f,q⟩|⟨f,q⟩
 .let(g,i,pl,k):=d.list f;let x:=i.9;show call_tuple_list pl.isList (λh' t=>?_) (by ext);let m:Inv X yq j H {s with heap:=h'}:=d.kept t;let v:Inv X yq j (aA H h'.objs.12<|.tup c) {s with heap:=h'.push {cls:=QP,data:=.seq g.toArray}}:=
   m.laid (λb o e=>dm _ e) JR ((k,g,i,IsTup.new _ _))
  show(.ref h'.objs.12,_,v,J,q _<|m.bo.fresh JR)
 let(g,i,pl,k):=d.tuple f;show call_tuple_same pl (.ref p,H,d,J,q)
def IF(K:bH)(T:String)(x:V)(H:Hp):Prop:=match x with
 |.str a=>T="str"
 |.int a=>T="int"
 |.ref p=>(T="list"/\∃xs,aq K H p xs)\/(T="tuple"/\∃o,K.lookup p=Y o/\o.cls=.type "tuple"/\o.dict=O)\/
   (T="dict"/\((∃c,H p=Y (.dK c))\/∃c,H p=Y (.dT c)))\/(T="set"/\∃S n,H p=Y (.set S n))
 |a=>False
def SG{j:St}(f:Inv X yq j H s)(r:RelV x v)(ty:IF U2 T x H):
  s.TypeIs v T/\∀a,v=.ref a->∃h,s.heap.get? a=Y h/\h.dict=O:=by
 cases x with
 |str z=>
  let(t,rfl):=r;cases (ty);show(typeIs_str s z t,λb e=>nomatch e)
 |int i=>
  let(t,rfl):=r;cases (ty);show(afV s i t,λb e=>nomatch e)
 |ref p=>
  cases r;rcases ty with⟨rfl,xs,k⟩|⟨rfl,o,d,l,hd⟩|⟨rfl,d⟩|⟨rfl,S,n,d⟩
  .let(q,_,pl,_):=f.list k;show(pl.isList.typeIs,λa e=>?_);cases e;let(o,n,e,c,hd,_):=pl;show(o,e,hd)
  .show((o,f.ju p o d,l),λa e=>?_);cases e;show(o,f.ju _ o d,hd)
  .haveI z:∃o,s.heap.get? p=Y o/\o.ExactDict:=by
    rcases d with⟨m,d⟩|⟨m,d⟩
    .let(_,_,_,_,o,_,_,e,ex,_):=f.bo p _ d;show(o,e,ex)
    let(_,_,_,_,o,_,_,e,ex,_):=f.bo p _ d;show(o,e,ex)
   let(o,e,ex):=z;show((o,e,ex.1),λa g=>?_);cases g;show(o,e,ex.2.1)
  let(o,_,_,_,e,ex,_):=f.bo p _ d;show((o,e,ex.1),λa g=>?_);cases g;show(o,e,ex.2.1)
 |_=>show gn ty
def IG(K:bH)(T:String)(r:V->List V->Hp->VK->Prop)(d:TE):TE:=λe H Q=>d e H λx c=>IF K T x c/\r x [] c Q
abbrev ahq(r:V->List V->Hp->VK->Prop) x Q xs H:=r x xs H Q
abbrev kBM K T r(t:TA) c Q x H:=IF K T x H/\t c H (ahq r x Q)
abbrev ff(K:bH)(T:String)(r:V->List V->Hp->VK->Prop)(d:TE)(t:TA):TE:=λc H Q=>d c H<|kBM K T r t c Q
variable {o e:dj} {es:List dj} {to:TE} {t:TA} {name:Str} {apos cpos:Pos} {T id:String} {r:V->List V->Hp->VK->Prop}
def ahr(f:PlainAttrs T)(slot:Slot T name id)(g:typeOf Yl=pure (.type "method_descriptor"))(i:Sz X id r)(j:PE X o to)
  (k:autoParam (vK o name Jr (bC o Jr)=bC o X.env) a') (l:autoParam ((apos.endLine==cpos.line)=I) a'):PE X (.Call (.Attribute o name apos) [] [] cpos) (IG U2 T r to):=by
 show λyq s c H Q m h=>wpAny_Call_method0_late k l<|bF (j yq s c H _ m h) fun v n (x,p,d,r1,ty,q)=>?_
 let(u,w):=SG d r1 ty;show(T,id,f,slot,g,u,w,asB J<|PySem.evalArgs_none<|i yq n c p x [] v [] Q d r1 .nil q)
def IH(g:PlainAttrs T)(slot:Slot T name id)(i:typeOf Yl=pure (.type "method_descriptor"))(j:Sz X id r)(k:PE X o to)(l:PA X QE t)
  (m:autoParam (vK o name Jr (bC o Jr)=bC o X.env) a')
  (n:autoParam (((fI cpos<|bB QE Jr).all (λx=> !x.1)&&(qi cpos<|qg [] Jr).all (λx=>x.1.isSome)
   &&decide ((e::es).9+([]:List Rp).9+(if ([]:List Rp).isEmpty then 0 else 1) <30))=I) a')
  (p:autoParam ((apos.endLine==cpos.line)=I) a') (q:autoParam (bB QE Jr=JM::bB es X.env) a') (u:autoParam ((fI cpos YQ).any (·.1)=au) a'):
  PE X (.Call (.Attribute o name apos) QE [] cpos) (ff U2 T r to t):=by
 show λyq s c H Q w h=>wpAny_Call_method_late m n p J<|bF (k yq s c H _ w h) fun v y (x,z,d,r1,ty,A)=>?_
 let(B,C):=SG d r1 ty;show(T,id,g,slot,i,B,C,?_);let f:=l cpos yq y c z _ d A;rw[q]at f⊢;show asB (by change (au||(fI cpos YQ).any (·.1))=au;rw[u]<;>rfl)<|Calls.evalArgs_plain<|bF f λD E (vs,F,L,N,P)=>j yq E c F x vs v D Q L r1 N P
end
def ux X id(r:V->List V->Hp->VK->Prop):=
 ∀(yq:List QA) (s:bc) (a:St) (H:Hp) (x:V) (xs:Ju) (v:aO) (b:Wz) (Q:VK),Inv X yq a H s->RelV x v->bP xs b->r x xs H Q->
  bj Jm Yp (call Yl<|v::b) UB U0 s
def bP.one:∀{x a},bP [x] a->∃u,a=[u]/\RelV x u|_,_,.cons r .nil=>(_,J,r)
def bP.zero:∀{a},bP [] a->a=[]|_,.nil=>rfl
theorem bP.dropLast(h:bP xs a):bP xs.dropLast a.dropLast:=by
 induction h with
 |nil=>show .nil
 |cons r t b=>
  cases t with|nil=>show .nil|cons q t'=>show .cons r b
theorem bP.rep(h:bP xs a):∀k:Nat,bP (cW k xs).flatten (cW k a).flatten
 |0=>.nil
 |k+1=>by
  show bP.append h<|bP.rep h k
theorem foldl_rep a:∀k (b:List aO),
  afN (λc d=>c++d) b.toArray (cW k Wc)=(b++(cW k a).flatten).toArray
 |0,b=>by simp
 |k+1,b=>by
  let e:b.toArray++Wc=(b++a).toArray:=Jc
  haveI f:(b++a)++(cW k a).flatten=b++(cW QU a).flatten:=by grind
  rw[<-f,<-foldl_rep a k (b++a),<-e,List.replicate_succ,C8]
section
variable {X:Cx} {yq:List (ax × Obj)} {σ:St} {H:Hp} {s:bc} {l b:ax} {xs ys zs:List V}
def Inv.v_{a:Wz}(d:Jp)(g:H l=Y JX)
  (e:s.heap.get? l=Y {cls:=J2,data:=.seq Wc n}) (h:f Wc=YU) (i:bP ys c) (j:ys.9<=cz):
  Inv X yq σ (aA H l<|.lst ys) {s with heap:=s.heap.update l<|xT f,toks:=t'}:=by
 let q:=PySem.IsL.update e f;rw[h]at q;show d.write (by rw[g];show trivial) Qw (λo u k m=>(asJ s.13 (xT f)<|mY k).trans m) (_,q) ?_;show(j,c,_,i,q)
def Inv.D3(c:Jp)(d:bP ys a)(e:ys.9<=cz):
  Inv X yq σ (aA H Jd<|.lst ys) {s with heap:=s.heap.push {cls:=J2,data:=.seq Wc},toks:=t'}:=
 c.laid (λb b q=>dm _ q) JR (e,a,0,d,UC)
def Inv.fresh(a:Jp):=a.bo.fresh JR
def Inv.m_(c:Jp)(d:H l=Y JX):xs.9<=cz/\∃(a:List aO) (n:JD),bP xs a/\xs.9=a.9/\s.heap.get? l=Y {cls:=J2,data:=.seq Wc n}:=by let(z,a,n,r,e):=c.bo l _ d;show(z,a,n,r,r.9,e)
def SH(h:n<=cz):aex n=au:=iK Ja
end
section
variable {X:Cx}
def gb:V->List V->Hp->VK->Prop:=λx vs H Q=>∃l xs y,x=.ref l/\vs=[y]/\H l=Y JX/\xs.9<cz/\Q .aW (aA H l<|.lst<|xs++[y])
def D4:ux X "list.append" gb:=by intro yq s h H x vs v i Q a c d (l,xs,y,rfl,rfl,b,j,q);cases c;let(u,rfl,f):=d.one;let(z,g,n,r,k,e):=a.m_ b;show HK aeD (_,e,J) F.entry_list_append (F.args_list_append_2 _ _) (PySem.list_append l g.toArray n u<|by ext) (e,(.aW,_,a.v_ b e Jc (r.append<|.cons f .nil) ?_,J,q));grind
def yi:V->List V->Hp->VK->Prop:=λx vs H Q=>∃l b xs a,x=.ref l/\vs=[.ref b]/\H l=Y JX/\H b=Y Yx/\xs.9+a.9<=cz/\Q .aW (aA H l<|.lst<|xs++a)
def ahs:ux X "list.extend" yi:=by
 intro yq s t H x vs v w Q c g h (l,b,xs,y,rfl,rfl,f,i,A,q);cases g;let(u,rfl,j):=h.one;cases j;let(z,a,n,r,B,e):=c.m_ f;let(C,d,k,m,D,o):=c.m_ i;haveI hsz:a.toArray.12+d.toArray.12<=cz:=by ext
 haveI p:¬(!a.toArray.isEmpty&&aex (a.toArray.12+d.toArray.12))=I:=by
  rw[SH hsz,PD];ext
 show HK asW (_,e,J) F.entry_list_extend (F.args_list_extend_2 _ _)
  (AutoSeq1.list_extend_list_list_0 l Wc n b d.toArray k p Ja Ja) (e,o,?_)
 show(.aW,_,c.v_ f e Jc (r.append m) ?_,J,q);simp;omega
def II:V->List V->Hp->VK->Prop:=λx vs H Q=>∃l xs y,x=.ref l/\vs=[]/\H l=Y JX/\xs[xs.9-1]?=Y y/\Q y (aA H l<|.lst xs.dropLast)
def aht:ux X "list.pop" II:=by intro yq s j H x vs v k Q a c d (l,xs,y,rfl,rfl,b,f,q);cases c;let g:=d.zero;subst g;let(z,h,n,r,m,e):=a.m_ b;let(u,o,i):=r.get f;show HK atn (_,e,J) F.entry_list_pop (F.args_list_pop_1 _) (MeetsSeq.list_pop_last l h.toArray n u (by ext)<|by ext) (e,(y,_,a.v_ b e (by ext) r.dropLast ?_,i,q));rw[as4];lia
def ic:R2:=λx y H Q=>∃l b xs a,x=.ref l/\y=.ref b/\H l=Y JX/\H b=Y Yx/\xs.9+a.9<=cz/\∀p,H p=O->Q JS (aA H p<|.lst<|xs++a)
def sg:dD X (mX .Add) ic:=by
 intro yq s o H x y v u Q a f g (l,b,xs,p,rfl,rfl,h,i,t,q);cases f;cases g;let(z,c,n,r,w,e):=a.m_ h;let(A,d,B,j,C,k):=a.m_ i;show PySem.P.add_list e k ?_ (by ext);let m:YU++d.toArray=(c++d).toArray:=Jc
 rw[m];show(.ref _,_,a.D3 (r.append j) (by rw[cE];omega),J,q _ a.fresh)
def yj:R2:=λx y H Q=>∃l k xs,x=.ref l/\y=.int k/\H l=Y JX/\ -(2^63)<=k/\k<2^63/\xs.9*k.6<=cz/\
 ∀p,H p=O->Q JS (aA H p<|.lst (cW k.6 xs).flatten)
def ahu{a:Type}(xs:UI) k:(cW k xs).flatten.9=k*xs.9:=Jc
def SI:dD X (mX .Mult) yj:=by
 intro yq s L H x y v u Q b f g (l,k,xs,rfl,rfl,h,i,j,o,q);cases f;let(t,rfl):=g;let(z,a,n,r,N,e):=b.m_ h;let p:a.toArray.12*k.6<=cz:=by ext
 let w:¬a.toArray.12*k.6 > (2^63-1) / 8:=by
  let:cz<=(2^63-1) / 8:=Je
  lia
 let A:¬(!av3 k)=I:=by
  rw[fitsIndex_both i j];lia
 let B:¬aex (a.toArray.12*k.6)=I:=by
  rw[SH p];ext
 let C:afN (λc d=>c++d) #[] (cW (if a.toArray.isEmpty=I then 0 else k.6) Wc)=(cW k.6 a).flatten.toArray:=by
  let D:∀m:Nat,afN (λc d=>c++d) #[] (cW m Wc)=(cW m a).flatten.toArray:=λm=>by
   let:=foldl_rep a m [];show this
  rw[D];cases a<;>ext
 show wpAny_binaryOp_repeat_ref (by rfl) (_,e,J) (λE=>afV E k t) noFill_list_mul F.fills_int_mul auT repeat_list F.slot_int_index.lookup
  (HK auT (afV s k t) F.entry_int_rmul (F.args_int_rmul_2 _ _) (int___rmul___int_list k t l Wc n)
   (e,J,(_,e,J),HK F.slot_list_mul (_,e,J) F.entry_list_mul (F.args_list_mul_2 _ _) (AutoListH.list___mul___list_int_3 l Wc n k t A w B) (e,?_)))
 rw[C];show(.ref _,_,b.D3 (r.rep k.6) (by rw[ahu,au3];show o),J,q _ b.fresh)
end
section
variable {prog:gz} {w:bS} {A:fA} {E:aO->bc->Prop} {s:bc}
end
theorem bP.ints:∀{ns a},bP Qt a->e9 a ns
 |[],a,h=>by
  cases h;show IntsAre.nil
 |n::ns,a,h=>by
  cases h with
  |cons r t=>
   let(k,rfl):=r;show IntsAre.cons n k<|bP.ints t
theorem SJ:∀{a ns},e9 a ns->bP Qt a|_,_,.nil=>by rw[afC];show Paired.nil|_,_,.cons n t h=>by rw[hY];show afB ((t,J))<|SJ h
def bP.SK(r:bP [V.ref a] b):b=[eZ a]:=by
 cases r with
 |cons r t=>
  cases t;cases r;rfl
section
variable {prog:gz} {w:bS} {A:fA} {E:aO->bc->Prop} {s:bc} {l:ax} {its:List aO} {ns:List Int} {Q:aO->bc->Prop}
def ahv(g:A.handled=O)(d:s.heap.IsList l its.toArray)(hi:e9 its ns)(q:0<ns.9)
  (h:∀h' c M t',(∀b o,s.heap.get? b=Y o->h'.get? b=Y o)->M∈ns->(∀a,a∈ns->a<=M)->Q (.int M t') {s with heap:=h',toks:=c}):bj JB A (call (.builtin "max") [.ref l]) Q E s:=by
 let(xs,e):=hi.allInts.items;let f:numsOf (intItems xs).toList=ns:=by rw[<-e];show hi.numsOf
 rw[avu]at f;subst f;rw[e]at d;let hsz:0<xs.12:=by ext
 show PySem.max_intList g d hsz λv h' c i k=>?_
 let(t,rfl):=intItems_at i;let(r,m):=argBest_gt (numAt xs)<|xs.12-1;show h h' c _ t k (by rw[Rl];show at7 (by rw[bz,CU];omega)) λa n=>?_
 let(j,p,rfl):=mem_getD n;rw[bz,CU]at p;rw[<-Rl];show m j JE
def ahw(g:A.handled=O)(d:s.heap.IsList l its.toArray)(hi:e9 its ns)(q:0<ns.9)
  (h:∀h' c M t',(∀b o,s.heap.get? b=Y o->h'.get? b=Y o)->M∈ns->(∀a,a∈ns->M<=a)->Q (.int M t') {s with heap:=h',toks:=c}):bj JB A (call (.builtin "min") [.ref l]) Q E s:=by
 let(xs,e):=hi.allInts.items;let f:numsOf (intItems xs).toList=ns:=by rw[<-e];show hi.numsOf
 rw[avu]at f;subst f;rw[e]at d;let hsz:0<xs.12:=by ext
 show PySem.min_intList g d hsz λv h' c i k=>?_
 let(t,rfl):=intItems_at i;let(r,m):=argBest_lt (numAt xs)<|xs.12-1;show h h' c _ t k (by rw[Rl];show at7 (by rw[bz,CU];omega)) λa n=>?_
 let(j,p,rfl):=mem_getD n;rw[bz,CU]at p;rw[<-Rl];show m j JE
end
section
variable {X:Cx}
def yk(K:bH):List V->Hp->VK->Prop:=λvs H Q=>∃(a:ax) (ns:Jw),vs=[V.ref a]/\aq K H a Qt/\0<ns.9/\∀m,m∈ns->(∀y,y∈ns->y<=m)->Q (.int m) H
def AO(K:bH):List V->Hp->VK->Prop:=λvs H Q=>∃(a:ax) (ns:Jw),vs=[V.ref a]/\aq K H a Qt/\0<ns.9/\∀m,m∈ns->(∀y,y∈ns->m<=y)->Q (.int m) H
def ahx(c:X.calm=I):ko X (.builtin "max") (yk U2):=by intro yq s k H vs l Q b r (a,ns,rfl,d,e,q);let(n,f,g,_):=b.list d;rw[bP.SK r];show ahv (b.ok.hd c) g.isList f.ints e λh' o m t' h i j=>(.int _,H,b.kept h,Qq,q m i j)
def ahy(c:X.calm=I):ko X (.builtin "min") (AO U2):=by intro yq s k H vs l Q b r (a,ns,rfl,d,e,q);let(n,f,g,_):=b.list d;rw[bP.SK r];show ahw (b.ok.hd c) g.isList f.ints e λh' o m t' h i j=>(.int _,H,b.kept h,Qq,q m i j)
end
mutual
inductive Dp(K:bH)(H:Hp):V->o_->Prop|aW:Dp K H .aW .none|bl(b:Bool):Dp K H (.bl b) (.bool b)|int(i:JH):Dp K H WD WD|str(x:Str):Dp K H (.str x) (.str x)|lst{a:ax}{xs:Ju}{c:List o_}:aq K H a xs->om K H xs c->Dp K H Jy (.list c)|tup{a:ax}{xs:Ju}{c:List o_}:bR K H a xs->om K H xs c->Dp K H Jy (.tuple c)
inductive om(K:bH)(H:Hp):List V->List o_->Prop|nil:om K H [] []|cons{v:V}{vs:Ju}{d:o_}{a:List o_}:Dp K H v d->om K H vs a->om K H (v::vs) (d::a)
end
section
variable {X:Cx} {yq:List (ax × Obj)} {σ:St} {H:Hp} {s:bc}
mutual
theorem Dp.reads(a:Jp):∀(d:o_) (v:V) (u:aO),Dp U2 H v d->RelV v u->∃as,Reads s.13 u d as
 |.none,p,q,h,r=>by
  cases h;cases r;show(_,Reads.none)
 |.bool b,p,q,h,r=>by
  cases h;cases r;show(_,Reads.bool b)
 |.int i,p,q,h,r=>by
  cases h;let(t,rfl):=r;show(_,Reads.int i t)
 |.str x,p,q,h,r=>by
  cases h;let(t,rfl):=r;show(_,Reads.str x t)
 |.list c,p,q,h,r=>by
  cases h with
  |lst e f=>
   cases r;let(g,j,(o,n,k,l,_,hd),_):=a.list e;let(as,m):=Dp.readsAll a c _ g f j;show(_,Reads.list k l hd m)
 |.tuple c,p,q,h,r=>by
  cases h with
  |tup e f=>
   cases r;let(g,j,(o,k,l,n,hd),_):=a.tuple e;let(as,m):=Dp.readsAll a c _ g f j;show(_,Reads.tuple k l hd m)
 |.dict p,q,w,h,y=>by cases h
theorem Dp.readsAll(b:Jp):∀(a:List o_) (vs:Ju) (c:Wz),om U2 H vs a->bP vs c->∃as,ReadsAll s.13 c a as
 |[],l,m,h,r=>by
  cases h;cases r;show(_,ReadsAll.nil)
 |d::a,l,m,h,r=>by
  cases h with
  |cons e f=>
   cases r with
   |cons r1 g=>
    let(as,i):=Dp.reads b d _ _ e r1;let(k,j):=Dp.readsAll b a _ _ f g;show(_,ReadsAll.cons i j)
end
end
section
variable {X:Cx}
def pk(K:bH):R2:=λx y H Q=>∃d e,Dp K H x d/\Dp K H y e/\rP d=I/\rP e=I/\Q (.bl<|Ae d e) H
def IJ(K:bH):R2:=λx y H Q=>∃d e,Dp K H x d/\Dp K H y e/\rP d=I/\rP e=I/\Q (.bl<|!Ae d e) H
def ahz(b:X.A.units+64<ki):dD X (gJ .Eq) (pk U2):=by intro yq s j H x y v u Q a c f (d,e,hd,he,g,h,q);let(as,r1):=Dp.reads a d x v hd c;let(k,i):=Dp.reads a e y u he f;show SeqAt.compareEq_shaped r1 i g h b (.bl _,H,a,J,q)
def ahA(b:X.A.units+64<ki):dD X (gJ .NotEq) (IJ U2):=by intro yq s j H x y v u Q a c f (d,e,hd,he,g,h,q);let(as,r1):=Dp.reads a d x v hd c;let(k,i):=Dp.reads a e y u he f;show SeqAt.compareNe_shaped r1 i g h b (.bl _,H,a,J,q)
end
abbrev SM(h:c_) c v:=h.IsCell c v
def ahB(scope sc:l_):l_:=
 {scope with names:=scope.names.map fun(n,k)=>if (k==.free&&sc.kind==.function&&sc.names.lookup n==Y .cell) then (n,(.cell)) else (n,(k))}
def iX(cells:List<|Str×ax):List (Str×NameKind)->List (Str×ax)->List (Str×ax)|[],a=>a|(n,k)::r,a=>if k==.free then iX cells r ((n,((cells.lookup n).getD 0))::a) else iX cells r a
theorem SN env f
  (g:∀n k c,f (n,(k)) c=if k==.free then (do let a <-cellOf env n;pure (.yield<|(n,a)::c)) else pure (.yield c)):
  ∀names b,(∀y∈names,y.2=.free->∃c,env.cells.lookup y.1=Y c)->forIn names b f=pure (iX env.cells names b)
 |[],b,m=>by rw[afo];rfl
 |(n,k)::r,b,h=>by
  rw[Hn,g];let i:=λb=>SN env f g r b λy j=>h y<|df _ j
  delta iX;cases d:(k==Ht)=I
  .rw[ak d,ak d];let(c,l):=h (n,(k)) dM (by exists d);haveI e:cellOf env n=pure c:=by delta cellOf;rw[l]
   ext
  rw[aj d,aj d];show i _
def ahC(h:∀y∈JL,y.2=.free->∃c,env.cells.lookup y.1=Y c):HJ scope env=pure (iX env.cells JL []):=by erw[HJ];rw[SN env _ (λn k c=>rfl) scope.names [] h];rfl
theorem mem_lookup{a:Type}:∀{l:List (Str×a)}{n}{c},(n,(c))∈l->∃b,l.lookup n=Y b
 |(k,v)::r,n,c,h=>by
  rw[p9];cases d:n==k with
  |true=>show Qq
  |false=>
   rcases fQ.1 h with e|h
   .lia
   show mem_lookup h
theorem D5:∀{names a n c},(n,(c))∈iX cells names a->(n,(c))∈a\/((n,(.free))∈names/\c=(cells.lookup n).getD 0)
 |[],f,g,i,h=>.inl h
 |(m,k)::r,a,n,c,h=>by
  delta iX at h;split at h
  .rename_i e;rcases D5 h with h|⟨b,d⟩
   .grind
   show .inr (df _ b,d)
  rcases D5 h with h|⟨b,d⟩
  .show .inl h
  show .inr (df _ b,d)
theorem IK:∀{names a p},p∈a->p∈iX cells names a
 |[],b,c,h=>h
 |(m,k)::r,a,p,h=>by
  delta iX;split
  .show IK<|df _ h
  show IK h
theorem IL:∀{names a n},(n,(.free))∈names->(n,((cells.lookup n).getD 0))∈iX cells names a
 |(m,k)::r,a,n,h=>by
  delta iX;rcases fQ.1 h with e|h
  .cases e;show IK dM
  split
  .show IL h
  show IL h
theorem AQ:∀{names}{h:c_}{f}{x}{c},(x,(c))∈iy h.objs.12 names f->
  (x,(c))∈f\/((x,(.cell))∈names/\h.objs.12<=c/\SM (xV h names) c O)
 |[],j,l,m,o,h=>.inl h
 |(n,k)::r,h,f,x,c,a=>by
  delta iy at a;delta xV;split at a
  .rename_i b;rw[ak b];haveI b:k=.cell:=by exists b
   rw[<-nQ h {cls:=.type "cell",data:=.cell O}]at a;rcases AQ a with a|⟨g,d,i⟩
   .rcases fQ.1 a with e|a
    .cases e;show .inr (b▸dM,JR,_,PJ r _ _ _ UC,J)
    show .inl a
   rw[nQ]at d;show .inr (df _ g,Pf d,i)
  rename_i b;rw[aj b];rcases AQ a with a|⟨g,d,i⟩
  .show .inl a
  show .inr (df _ g,d,i)
theorem D6:∀{names n a p},p∈a->p∈iy n names a
 |[],b,c,d,h=>h
 |(m,k)::r,n,a,p,h=>by
  delta iy;split
  .show D6<|df _ h
  show D6 h
theorem IM:∀{names n a x},(x,(.cell))∈names->∃c,(x,(c))∈iy n names a
 |(m,k)::r,n,a,x,h=>by
  delta iy;rcases fQ.1 h with e|h
  .cases e;show(n,D6 dM)
  split
  .show IM h
  show IM h
theorem IP:∀{names}{h:c_}{f:List (Str×ax)}{x y}{c},(∀p∈f,p.2<h.objs.12)->(∀x y c,(x,(c))∈f->(y,(c))∈f->x=y)->
  (x,(c))∈iy h.objs.12 names f->(y,(c))∈iy h.objs.12 names f->x=y
 |[],l,m,o,q,s,t,hi,e,d=>hi _ _ _ e d
 |(n,k)::r,h,f,x,y,c,j,hi,e,d=>by
  delta iy at e d;split at e
  .rename_i g;rw[ak g]at d;rw[<-nQ h {cls:=.type "cell",data:=.cell O}]at e d;show IP (λp i=>?_) (λx y c a b=>?_) e d
   .rw[nQ];rcases fQ.1 i with rfl|i
    .ext
    show Pe<|j p i
   grind
  rename_i g;rw[aj g]at d;show IP j hi e d
def ahD{code}
  (h:Q (newEnv scope Jd globals (iy UZ JL closure) a func code (Y b) d)
   {s with heap:=xV (s.heap.push {cls:=WS,data:=.dict #[]}) JL}):
  bj M A (avo scope globals closure [] a func code (Y b) d) Q E s:=by
 erw[avo,Option.isSome_some,qj];show bg<|wpAny_alloc<|bg<|wpAny_layCells _ (λn k c=>rfl) JL closure _ _ ?_;rw[show ({s with heap:=s.heap.push {cls:=WS,data:=.dict #[]}}:bc).heap.objs.12=s.heap.objs.12+1 from nQ ..];show bg<|dG<|dG h
theorem IQ{sc:l_}:∀{names:List (Str×NameKind)}{x}{k},
  (names.map fun(n,k)=>if (k==Ht&&sc.kind==.function&&sc.names.lookup n==Y .cell) then (n,(afa)) else (n,(k))).lookup x=Y k->
  ∃d,names.lookup x=Y d/\(k=d\/(d=.free/\k=.cell))
 |[],f,g,h=>by simp at h
 |(n,b)::r,x,k,h=>by
  let e:=@IQ sc r x k;let h':afI x ((if Ws=I then (n,(afa)) else (n,(b)))::(r.map _))=Y k:=h;cases a:x==n with
  |true=>
   erw[p9,a];cases c:Ws=I
   .rw[ak c]at h';erw[p9,a]at h';ext
   ext
  |false=>
   erw[p9,a];cases c:Ws=I
   .rw[ak c]at h';erw[p9,a]at h';show e h'
   rw[aj c]at h';erw[p9,a]at h';show e h'
structure wa(N:Zg)(sc scope:l_)(own:List<|Str×Nat):Prop where
 kind:scope.kind=.function
 uniq:∀y∈JL,scope.names.lookup y.1=Y y.2
 ix:∀p∈own,N[p.2]?=Y p.1
 free:∀y∈JL,y.2=.free->sc.names.lookup y.1=Y .cell\/sc.names.lookup y.1=Y .free
 own:∀y∈JL,y.2=.local\/y.2=.cell->y.1∈own.map (·.1)\/y.1∉N
def cD(a:St):List Nat->St|[]=>a|v::vs=>(cD a vs).set v O
theorem IS a:∀vs:List Nat,(cD a vs).9=a.9|[]=>rfl|v::vs=>by delta cD;rw[C7,IS a vs]
theorem IU:∀{vs},(cD a vs)[i]?=Y (Y x)->a[i]?=Y (Y x)/\i∉vs
 |[],h=>(h,Jc)
 |v::vs,h=>by
  delta cD at h;cases hi:v=i
  .subst hi;cases d:v<(cD a vs).9
   .ext
   ext
  rw[aeL hi]at h;let(b,c):=IU h;show(b,by simp;show(λe=>hi e.3,c))
abbrev Cx.gV(X:Cx)(s:bc)(H:Hp)(scope:l_)(a:Env)(b:Up):Cx:={X with iO:=s,nZ:=H,env:=a,outer:=YR,ex:=b,fn:=λx=>scope.names.lookup x==Y .cell,pn:=[],xe:=UH}
section
variable {X:Cx} {yq:List (ax × Obj)} {σ:St} {H:Hp} {s:bc}
def ahE(d:Jp)(ok:WC)(hN:Qz)(C:∀b∈fp,n_ X yq H b/\b<Jd):
  Inv (X.gV s H scope (jS scope (iy UZ JL ZI) Jd Jr) fp) [] (cD σ<|own.map (·.2)) H {s with heap:=xV (s.heap.push {cls:=WS,data:=.dict #[]}) JL}:=by
 let ae:∀y∈JL,y.2=.free->∃c,X.env.cells.lookup y.1=Y c:=λy n e=>by
  rcases ok.free y n e with k|k
  .show d.ok.has _<|.inl k
  show d.ok.has _<|.inr k
 generalize F:jS scope (iy UZ JL ZI) Jd Jr=f;let N:∀b o,s.heap.get? b=Y o->(xV (s.heap.push {cls:=WS,data:=.dict #[]}) JL).get? b=Y o:=λb o e=>PJ _ _ _ _<|dm _ e
 let P:f.locals=s.heap.objs.12:=by rw[<-F];rfl
 let x:f.cells=iy UZ JL ZI:=by rw[<-F];rfl
 let S:f.scope=ahB scope X.env.scope:=by rw[<-F];rfl
 rw[<-nQ s.13 {cls:=WS,data:=.dict #[]}]at x;let L:∀{y c},(y,(c))∈iX X.env.cells JL []->X.env.cells.lookup y=Y c/\c<s.heap.objs.12:=λ{y c} h=>by
  rcases D5 h with h|⟨g,rfl⟩
  .cases h
  let(c,hc):=ae _ g J;rw[hc];let(w,z):=d.cell _ _ hc;show(J,z.lt)
 let mem:∀{y c},f.cells.lookup y=Y c->(X.env.cells.lookup y=Y c/\c<Jd)\/(Jd+1<=c/\SM (xV (s.heap.push {cls:=WS,data:=.dict #[]}) JL) c O):=λ{y c} e=>by
  rw[x]at e;rcases AQ (jP e) with h|⟨_,A,h3⟩
  .show .inl<|L h
  ext
 let look:∀{y},scope.names.lookup y=Y .free->∃c,f.cells.lookup y=Y c/\X.env.cells.lookup y=Y c:=λ{y} T=>by
  let n:=jP T;let(Q,j):=mem_lookup<|D6<|IL n;rw[<-x]at j;show(Q,j,?_);rw[x]at j;rcases AQ (jP j) with h|⟨g,_,_⟩
  .show (L h).1
  let:=ok.uniq _ g;lia
 let af:(X.gV s H scope f fp).Ok:=by
  show(d.ok.mod,by change f.scope.kind=_;rw[S];show ok.kind,by change f.globals=_;rw[<-F];show d.ok.glob,by change f.builtins=_;rw[<-F];show d.ok.blt,by change Jd<=f.locals;rw[P];show bf _,
   λy z c t D=>?_,λy n=>?_,λy c z e=>?_,d.ok.hd,d.ok.frames,Qw,λb u=>(?_,λy c e z=>?_),d.bs,eO d.ok.m7 d.sz,λb o e u=>?_,λb u z=>?_,d.stack,d.Rv)
  .let t:f.cells.lookup y=Y c:=t;rw[x]at t D;show IP (λp E=>?_) (λy z c a b=>d.ok.inj y z c (L a).1 (L b).1) (jP t)<|jP D;ext;show Pe (L E).2
  .show ∃c,f.cells.lookup y=Y c
   let key:∀k,f.kindOf y=Y k->(k=.cell\/k=.free)->∃c,f.cells.lookup y=Y c:=λk B ab=>by
    delta Env.kindOf at B;rw[S]at B;let(v,e,r):=IQ B;let:v=.cell\/v=.free:=Ja
    rcases this with rfl|rfl
    .let(c,h):=IM<|jP e;let(Q,j):=mem_lookup h;show(Q,by rw[x];show j)
    let(c,g,_):=look e;show(c,g)
   rcases n with n|n
   .show key _ n Qw
   show key _ n<|.inr J
  .let z:(scope.names.lookup y==Y afa)=I:=z;let z:scope.names.lookup y=Y .cell:=by exists z
   rw[x]at e;rcases AQ (jP e) with h|⟨_,A,_⟩
   .rcases D5 h with h|⟨g,_⟩
    .cases h
    let q:=ok.uniq _ g;ext
   rw[nQ]at A;show Pf A
  .change b≠f.locals
   rw[P];show iw (C b u).2
  .let e:f.cells.lookup y=Y c:=e;rcases mem e with⟨g,_⟩|⟨g,_⟩
   .show (C b u).1.2.2.2.2.1 y c g z
   let A:Jd+1<=b:=by rw[<-z];show g
   show absurd (iJ (C b u).2<|Pf A)<|oU _
  .rcases (C b u).1.2.2.2.1 with z|z
   .show d.ok.Ax b o e z
   show absurd (iJ (dF e)<|eO d.ok.m7 z)<|oU _
  rcases fQ.1 (d.Az b z) with z|z
  .show (C b u).1.2.1 z
  show (C b u).1.2.2.1 z
 show(af,J,d.bare,Un.kept N,(λK=>O,?_,λi y av t D l=>?_),λy c e=>?_,?_,λy c e=>?_,λp E=>?_,d.bo.kept N,by rw[IS];show d.len)
 .change Heap.Ns _ f.locals _
  rw[P];show Heap.Ns.keeps (Heap.Ns.new ..) λb o e=>PJ _ _ _ _ e
 .let(D,ag):=IU D;let R:scope.names.lookup y=Y .free/\(f.kindOf y=Y .cell\/f.kindOf y=Y .free):=by
   let key:∀k,f.scope.names.lookup y=Y k->k=.local\/k=.cell\/k=.free->scope.names.lookup y=Y .free/\(f.kindOf y=Y .cell\/f.kindOf y=Y .free):=λk B ab=>by
    let ac:=B;rw[S]at B;let(v,e,r):=IQ B;let no:¬(v=.local\/v=.cell):=λhh=>by
     rcases ok.own _ (jP e) hh with j|j
     .let(p,E,ai):=eJ.1 j;let l:=ok.ix p E;let:p.1=y:=ai;rw[this]at l;show ag<|eJ.2 (p,E,Ia hN l t)
     show j<|bM t
    rcases r with rfl|⟨rfl,rfl⟩
    .rcases ab with rfl|rfl|rfl
     .show absurd Qw no
     .show absurd (.inr J) no
     show(e,.inr ac)
    show(e,.inl ac)
   rcases l with l|l|l
   .show key _ l Qw
   .show key _ l<|.inr Qw
   show key _ l<|.inr<|.inr J
  let(m,hn,T):=d.loc;let(w,r,q):=T i y av t D<|(ok.free _ (jP R.1) J).elim (λk=>.inr<|.inl k) λk=>.inr<|.inr k;show(w,r,.inr (R.2,?_));let(c,g,A):=look R.1;rcases q with⟨k,_⟩|⟨_,Q,j,z⟩
  .let k:X.env.scope.names.lookup y=Y .local:=k;rcases ok.free _ (jP R.1) J with v|v<;>rw[show X.env.scope.names.lookup y=_ from v]at k<;>cases k
  rw[A]at j;cases j;show(c,g,z.keeps N)
 .let e:f.cells.lookup y=Y c:=e;rcases mem e with⟨g,_⟩|⟨_,z⟩
  .let(w,z):=d.cell y c g;show(w,z.keeps N)
  show(_,z)
 .change H f.locals=O
  rw[P];show d.bo.fresh JR
 .let e:f.cells.lookup y=Y c:=e;rcases mem e with⟨g,_⟩|⟨g,_⟩
  .show d.ma y c g
  show d.bo.fresh<|Pf g
 show absurd (E) Jc
def ahF(a:Jp)(c:H D=Y JX)(g:xs.9<cz)(r:RelV y v)
  (h:∀d,Inv X yq σ (aA H D<|.lst<|xs++[y]) d->Q .none d):bj Jm Yp (call (.builtin "list.append") [.ref D,v]) Q E s:=by
 let(m,i,n,f,e):=a.bo D _ c;let o:=f.9;show append_at (hsz:=by rw[vE];omega) e λh' j k=>h {s with heap:=h'}<|a.write (by rw[c];trivial) Qw (λb u l q=>(j.2 b l).trans q) (_,k) (by rw[cE];show g,i++[v],n+1,f.append<|.cons r .nil,?_)
 ext
def wb X(a:List dj)(t:TT):=
 ∀(yq:List QA) (s:bc) (σ:St) (H:Hp) (Q:Bool->Hp->Prop),Inv X yq σ H s->t σ H Q->
  bj Jm Yp (forIn a I λc r=>if r=I then do let ok <-isTrue c X.env (bC c X.env);pure (Ri ok) else pure (Ri r)) (TP X yq σ Q) U0 s
def k9:TT:=λa H Q=>Q I H
def qA:wb X [] k9:=λb b b H b a h=>wpAny_tests_nil (H,a,h)
def IV(h:PT X c t):wb X [c] t:=λyq s σ H Q a b=>wpAny_tests_one<|h yq s σ H Q a b
end
def yl{b:d->bc->Prop}(h:bj M A t Q UH s)(c:∀a s,Q a s->b a s):bj M A t b E s:=kX h c λe e z=>gn z
def ahG(b:Nat->bc->Prop)
  (q:∀n s,b n s->bj JB A (HU g) (λr d=>match r with
   |none=>R (.ok .next) d
   |some v=>bj JB A (afx target g v) (λF i=>bj JB A (Dz target env v) (λF j=>
     bj JB A (forIn t I λc r=>if r=I then do let ok <-isTrue c env (bC c env);pure (Ri ok) else pure (Ri r)) (λok f=>
      if ok=I then bj JB A (bC u env) (λx k=>
       bj JB A (call (.builtin "list.append") [y,x]) (λF l=>∃m,m<n/\b m l) Q1 k) Q1 f
      else ∃m,m<n/\b m f) Q1 j) Q1 i) Q1 d) Q1 s)
  n (h:b n s):
  o9 JB A (.compLoop (.ListComp u [(target,iter,t,0)] scope pos) 0 g y env) R s:=by
 show codeAny_loop J b (λn s z=>wpAny_noted ?_) n h;rw[compTurn_list];show bg<|P6<|bg<|kX (q n s z) (λr d o=>?_) λF F h'=>h';cases r with
 |none=>show dG o
 |some v=>
  show bg<|kX o (λF i B=>bg<|kX B (λF j C=>bg<|kX C (λok f p=>?_) λF F h'=>h') λF F h'=>h') λF F h'=>h';cases ok with
  |false=>show dG (J,p)
  |true=>
   show bg<|bg<|kX p (λx k D=>bg<|kX D (λF l E=>dG<|dG (J,E)) λF F h'=>h') λF F h'=>h'
section
variable {X:Cx}
def jy(p:TI)(g:TG)(q:TT)(r:TE)(vs:ZR):TE:=λc H Q=>p c H λd k=>∀D,k D=O->∃e:Nat->Nat->Hp->Prop,(∃m,e 0 m<|aA k D Jx)/\∀i m H,e i m H->
 (d.stop i H/\Q Ys H)\/(d.go i H/\∃f:Hp->Prop,(∀a,f a->∃l,l<m/\e JK l a)/\∀x a,d.jW i H x a->g x (cD c vs) a λh s=>cD h vs=cD c vs/\q h s λb n=>
  if b=I then r h n λy o=>∃j,o D=Y (.lst j)/\j.9<cz/\f (aA o D<|.lst<|j++[y]) else f n)
def SO{A:St}
  (hc:X.calm=I) (hN:Qz) (ab:Inv X yq A H s) (hi:PI X R iter wi) (ok:WC)
  (hg:∀s H C cl d,PG (X.gV s H scope WR d) R g) (ht:∀s H C cl d,wb (X.gV s H scope WR d) ac tt)
  (he:∀s H C cl d,PE (X.gV s H scope WR d) ae te) (hs:∀x,xG iter Jr x=pure x)
  (h:jy wi g tt te (own.map (·.2)) A H Q)
  (a3:∀D C t m l,Inv X yq A l t->Q Ys l->t.heap.Ns C m->n_ X yq l C->af4 Jm Yp U0 use af Ys C (.ok .next) t):
  bj Jm Yp (comprehension Yu scope Jr bn (newList []) au (bC iter Jr) use) af U0 s:=by
 let a4:∀y∈JL,y.2=.free->∃c,X.env.cells.lookup y.1=Y c:=λy hy e=>by
  rcases ok.free y hy e with k|k
  .show ab.ok.has _<|.inl k
  show ab.ok.has _<|.inr k
 show wpAny_comprehension_free J hs (ahC a4) ok.kind (λy hy e=>by rw[ok.uniq y hy,e])
  (bF (hi yq s A H _ ab h) λxv s1 hx=>bF hx λbs N h2=>?_)
 let(it,d,S,bv,E,e,I2,T,am,f2,q):=h2;subst e;show afc (ahD ?_) (by change 0<=cz;decide);generalize hD:N.heap.objs.12=D;let(an,(m0,w0),a5):=q D<|I2.bo.fresh<|P5 hD;generalize ao:({N with heap:=N.heap.push {cls:=J2,data:=.seq [].toArray}}:bc)=a;let I3:Inv X yq A (aA E D Jx) a:=by
  rw[<-ao];show I2.laid (λb o e=>dm _ e) (P5 hD) (eX _,[],0,.nil,?_);rw[<-hD];show gy _ J
 let h3:a.13=N.heap.push {cls:=J2,data:=.seq [].toArray}:=by rw[<-ao]
 let sz:∀b∈d,b<N.heap.objs.12:=λb f=>by
  let(o,e,_):=T.obj _ _ am b f;show dF e
 let B:∀b∈d,n_ X yq (aA E D Jx) b/\b<a.heap.objs.12:=λb f=>by
  let ap:=sz b f;show((?_,(f2 b f).2),by rw[h3,nQ];show Pe ap);rw[aJ (by rw[<-hD];show iw ap)];show (f2 b f).1
 let a6:S 0 a.13:=T.keep _ _ _ am λb K o e=>by rw[h3];show dm _ e
 let I4:=ahE I3 ok hN B;let pg:=hg a (aA E D Jx) JG (iy (JG+1) JL ZI) d;let pt:=ht a (aA E D Jx) JG (iy (JG+1) JL ZI) d;let pe:=he a (aA E D Jx) JG (iy (JG+1) JL ZI) d;change o9 _ _ (.compStart Yu 0 (.ref it) Ys<|jS scope (iy (JG+1) JL ZI) JG Jr) (af4 Jm Yp U0 use af Ys JG) {a with heap:=xV (a.heap.push {cls:=WS,data:=.dict #[]}) JL}
 let ar:=λb f=>(B b f).1.1
 generalize a7:jS scope (iy (JG+1) JL ZI) JG Jr=ce at I4 pg pt pe⊢;let cL:ce.locals=a.heap.objs.12:=by subst a7;rfl
 generalize b0:aA E D Jx=w at I3 I4 pg pt pe w0 ar B;generalize a8:({a with heap:=xV (a.heap.push {cls:=WS,data:=.dict #[]}) JL}:bc)=s4 at I4⊢;let as:S 0 s4.13:=T.keep _ _ _ a6 λb K o e=>by rw[<-a8];show PJ _ _ _ _<|dm _ e
 let ag:∀{av:St}{l:Hp}{t:bc},Inv ZJ [] av l t->(∀b∈d,l b=O)->∀b∈d,n_ ZJ [] l b:=λ{av l t} F hn b f=>
  (hn b f,(F.ok.DC b f).1,F.ok.Ay b f,.inl f,λx c e=>(F.ok.DC b f).2 x c e,λp hp=>absurd (hp) Jc)
 let aw:o9 Jm Yp (.compLoop Yu 0 (.ref it) Ys ce) (af4 Jm Yp U0 use af Ys JG) s4:=by
  show ahG (λn t=>∃i l,Inv ZJ [] (cD A<|own.map (·.2)) l t/\S i t.13/\(∀b∈d,l b=O)/\an i n l) ?_ m0 (0,w,I4,as,ar,w0);intro n s5 (i,P,I5,a0,n5,w5);rcases a5 i n P w5 with⟨stop,qq⟩|⟨go,Nx,a9,step⟩
  .let td:=T.done ZJ J J J hc i [] s5 _ P UH I5 (ag I5 n5) a0 stop;show yl td fun r s6 (hr,L)=>?_
   subst hr;let I7:=I3.agh L.os L.base L.bo L.bare λb f=>((B b f).1.2.2.2.1,(B b f).1.2.1,(B b f).1.2.2.2.2.1,(B b f).1.2.2.2.2.2)
   let nC:P JG=O:=by
    let z:=L.free;rwa [cL]at z
   let(m,hn,_):=L.loc;rw[cL]at hn;show a3 D JG s6 m P I7 qq hn<|I3.ur JR nC
  let ti:=T.item ZJ J J J hc i [] s5 _ P UH I5 (ag I5 n5) a0 go;show yl ti fun r s6 (u,hr,h6)=>?_
  subst hr;show yl h6 fun _ s7 (x,H7,I7,r7,y7,ai,n7)=>?_
  show yl (pg _ s7 _ H7 x u _ (I7.pinned (ag I7 n7)<|T.obj _ _ ai) r7<|step x H7 y7) fun _ s8 (al,H8,I8,a1,q8)=>yl (pt _ s8 al H8 _ I8 q8) fun b s9 (H9,I9,q9)=>?_
  let fin:∀{t:bc}{l:Hp},Inv ZJ ([]++AI d s7.13) al l t->Nx l->∃m,m<n/\∃i l,Inv ZJ [] (cD A<|own.map (·.2)) l t/\S i t.13/\(∀b∈d,l b=O)/\an i m l:=λ{t l} F nx=>by
   let(m',hm,w'):=a9 l nx;let a2:∀b∈d,∀o,s7.heap.get? b=Y o->t.heap.get? b=Y o/\l b=O:=λb f o e=>
    let z:=F.pin (b,(o))<|mJ _<|mJ _<|Ip f e;(z.1,z.2.1)
   show(m',hm,JK,l,(F.DJ (yq:=[])).weak (by rw[<-a1,IS]) λj v e=>?_,T.keep _ _ _ ai λb f o e=>(a2 b f o e).1,λb f=>?_,w')
   .rw[<-a1]at e;show (IU e).1
   let(o,e,_):=T.obj _ _ ai b f;show (a2 b f o e).2
  cases b with
  |false=>
   erw[aeT,uc]at q9⊢;show fin I9 q9
  |true=>
   erw[qj]at q9⊢;show yl (pe _ s9 al H9 _ I9 q9) fun z b1 (yv,b2,be,bi,b3,bk,bl,nx)=>?_
   show ahF (X:=ZJ) be bk bl bi λb4 bm=>fin bm nx
 show codeAny_compStart_list aw<|T.self Yp 0 _ _ _ as aw
def ahH(d:X.calm=I)(i:Qz)(hi:PI X c iter j)(ok:WC)
  (k:∀s H C cl a,PG J1 c g) (l:∀s H C cl a,wb J1 n p)
  (he:∀s H C cl a,PE J1 r t) (u:autoParam (∀x,xG iter Jr x=pure x) i'):
  PE X (.ListComp r [(c,iter,n,0)] scope pos) (jy j g p t<|own.map (·.2)):=by
 show λyq s P H Q v h=>SO d i v hi ok k l he u h λD C R m w y q z f=>(m,z,λS A=>?_)
 let(B,f1,f2,E,F,L):=f;show(.ref D,w,y.turned (λb o N e=>(A.2 b N).trans e) B f1 E F L,J,q)
def ahI(r:X.calm=I)(j:Qz)(t:X.N[i]?=Y y)(k:X.env.scope.names.lookup y=Y .local)
  (u:vN (.ListComp l [(d,iter,n,0)] scope pos) (Y<|.Name y py) w.line Jr=pure I) (hi:PI X d iter A) (ok:WC)
  (B:∀s H C cl c,PG (X.gV s H scope WR c) d g) (E:∀s H C cl c,wb (X.gV s H scope WR c) n F)
  (he:∀s H C cl c,PE (X.gV s H scope WR c) l N) (P:autoParam (∀x,xG iter Jr x=pure x) i'):
  PS X (.Assign [.Name y py] (.ListComp l [(d,iter,n,0)] scope pos) w) (aP (jy A g F N<|own.map (·.2))<|aC i):=by
 intro yq s σ H D Q h;rw[exec_Assign_Name_used _ _ _ _ u];show bg<|P6<|bg<|bg<|bF (SO r j Q hi ok B E he P h λL C R m S T q hn f=>auQ<|Rx (v:=V.ref L) T j t (.inl k) J (fun s2 I2 (a,sb,ha)=>?_)<|.inr k) λK R hq=>dG<|dG hq;let(f0,f1,f2,f3,p,f5):=f;haveI ab:C≠a:=by
  rcases ha with z|z
  .rw[z];show f1
  show λe=>p y a z e.3
 show(m,hn.sameBut sb ab,λh3 ac=>(_,S,I2.turned (λb o hb e=>(ac.2 b hb).trans e) f0 f1 f3 p f5,q))
def ahJ(a:env.scope.kind=.function)(b:env.scope.names.lookup y=Y .local)(c:(py.line==Yd)=I)
  (d:(scope.names.any fun(n,k)=>n==y&&(k==.local||k==.cell))=au):vN (.ListComp g h scope pos) (Y<|.Name y py) l env=pure I:=by
 let e:env.kindOf y=Y .local:=b;haveI f:env.blockKind=.function:=by delta Env.blockKind;rw[a];rfl
 show e8 pure (?_:(env.blockKind==.function&&env.kindOf y==Y .local&&py.line==Yd&& !_)=I);rw[f,e,c,d];rfl
end
def ahK{j}{g:TG}{s:TT}{t:TE}{u:Hp->Prop}(Pv:Nat->Hp->Prop)(w:Pv 0<|aA z D Jx)
  (A:∀i H,i<n->Pv i H->g (.int<|j+i) (cD k vs) H λa l=>cD a vs=cD k vs/\s a l λb f=>
   if b=I then t a f λy h=>∃c,h D=Y (.lst c)/\c.9<cz/\Pv JK (aA h D<|.lst<|c++[y]) else Pv JK f) (hd:∀H,Pv n H->u H):
  ∃o:Nat->Nat->Hp->Prop,(∃m,o 0 m<|aA z D Jx)/\∀i m H,o i m H->
   ((m8 j n).stop i H/\u H)\/((m8 j n).go i H/\∃q:Hp->Prop,(∀d,q d->∃v,v<m/\o JK v d)/\∀x d,(m8 j n).jW i H x d->g x (cD k vs) d λa l=>cD a vs=cD k vs/\s a l λb f=>
    if b=I then t a f λy h=>∃c,h D=Y (.lst c)/\c.9<cz/\q (aA h D<|.lst<|c++[y]) else q f):=by
 show(λi m H=>m=n-i/\i<=n/\Pv i H,(n,Jc,eX _,w),?_);intro i m H (rfl,hi,p);cases r:i<n
 .show .inr (r,Pv JK,λd B=>(n-JK,JE,J,r,B),λx d y=>?_);let(e,y):=y;subst e y;show A i _ r p
 let e:i=n:=JE
 subst e;show .inl (bf _,hd H p)
def SQ{K}{g:TG}{r:TT}{s:TE}{t:Hp->Prop}(Pv:Nat->Hp->Prop)(w:Pv 0<|aA z D Jx)(A:∀i H,i<=xs.9->Pv i H->aq K H a xs)
  (B:∀i x H,xs[i]?=Y x->Pv i H->g x (cD k vs) H λc l=>cD c vs=cD k vs/\r c l λb h=>
   if b=I then s c h λy j=>∃d,j D=Y (.lst d)/\d.9<cz/\Pv JK (aA j D<|.lst<|d++[y]) else Pv JK h) (hd:∀H,Pv xs.9 H->t H):
  ∃n:Nat->Nat->Hp->Prop,(∃m,n 0 m<|aA z D Jx)/\∀i m H,n i m H->
   ((mf K a).stop i H/\t H)\/((mf K a).go i H/\∃o:Hp->Prop,(∀f,o f->∃u,u<m/\n JK u f)/\∀x f,(mf K a).jW i H x f->g x (cD k vs) f λc l=>cD c vs=cD k vs/\r c l λb h=>
    if b=I then s c h λy j=>∃d,j D=Y (.lst d)/\d.9<cz/\o (aA j D<|.lst<|d++[y]) else o h):=by
 show(λi m H=>m=xs.9-i/\i<=xs.9/\Pv i H,(xs.9,Jc,eX _,w),?_);intro i m H (rfl,hi,p);let q:=A i H hi p;cases v:i<xs.9
 .show .inr ((xs,xs[i],q,by simp[v]),Pv JK,λf C=>(xs.9-JK,JE,J,v,C),λx f y=>?_);let(e,y):=y;subst e;show B i x _ (y xs q) p
 let e:i=xs.9:=JE
 subst e;show .inl ((xs,q,JR),hd H p)
def ahL{K}{g:TG}{r:TT}{s:TE}{t:Hp->Prop}(Pv:Nat->Hp->Prop)(w:Pv 0<|aA z D Jx)(A:∀i H,i<=xs.9->Pv i H->bR K H a xs)
  (B:∀i x H,xs[i]?=Y x->Pv i H->g x (cD k vs) H λc l=>cD c vs=cD k vs/\r c l λb h=>
   if b=I then s c h λy j=>∃d,j D=Y (.lst d)/\d.9<cz/\Pv JK (aA j D<|.lst<|d++[y]) else Pv JK h) (hd:∀H,Pv xs.9 H->t H):
  ∃n:Nat->Nat->Hp->Prop,(∃m,n 0 m<|aA z D Jx)/\∀i m H,n i m H->
   ((AG K a).stop i H/\t H)\/((AG K a).go i H/\∃o:Hp->Prop,(∀f,o f->∃u,u<m/\n JK u f)/\∀x f,(AG K a).jW i H x f->g x (cD k vs) f λc l=>cD c vs=cD k vs/\r c l λb h=>
    if b=I then s c h λy j=>∃d,j D=Y (.lst d)/\d.9<cz/\o (aA j D<|.lst<|d++[y]) else o h):=by
 show(λi m H=>m=xs.9-i/\i<=xs.9/\Pv i H,(xs.9,Jc,eX _,w),?_);intro i m H (rfl,hi,p);let q:=A i H hi p;cases v:i<xs.9
 .show .inr ((xs,xs[i],q,by simp[v]),Pv JK,λf C=>(xs.9-JK,JE,J,v,C),λx f y=>?_);let(e,y):=y;subst e;show B i x _ (y xs q) p
 let e:i=xs.9:=JE
 subst e;show .inl ((xs,q,JR),hd H p)
def SR(N:Zg)(sc scope:l_)(own:List<|Str×Nat):=
 (match scope.kind with|.function=>I|a=>au)&&(scope.names.all λy=>decide<|scope.names.lookup y.1=Y y.2)&&(own.all λp=>decide<|N[p.2]?=Y p.1)&&
  (scope.names.all λy=>match y.2 with
   |.free=>(match sc.names.lookup y.1 with|some .cell=>I|some .free=>I|a=>au)
   |.local=>decide (y.1∈own.map (·.1))||decide (y.1∉N)
   |.cell=>decide (y.1∈own.map (·.1))||decide (y.1∉N)
   |a=>I)
def nc(h:SR N sc scope own=I):wa N sc scope own:=by
 delta SR at h;erw[jo,mL,oN]at h;let(((b,d),f),c):=h;show(?_,d,f,λy a e=>?_,λy a e=>?_)
 .split at b
  .assumption
  cases b
 .let q:=c y a;ext;split at q<;>first|show .inl ‹_›|show .inr (by ext)|cases q
 let q:=c y a;rcases e with e|e<;>(erw[e,aus,oN]at q;show q)
section
variable {κ:Type} [DecidableEq κ]
def uz(a:List<|κ×V) k:=(a.find? λb=>decide<|b.1=k).map (·.2)
def ahM{k:κ}(e:p.1=k):uz (p::r) k=Y p.2:=by simp[uz,e]
def ahN{k:κ}(e:¬p.1=k):uz (p::r) k=uz r k:=by simp[uz,e]
def KV.val(r:KV d vs)(k:κ):nY (uz d k) (Dx vs k):=by
 induction r with
 |nil=>show True.intro
 |@cons p q ps qs h t f=>
  let(c,g):=h;cases e:p.1=k
  .let a:q.1=k:=c.symm.trans e;haveI b:Dx (q::qs) k=Y q.2:=by simp[Dx,a]
   rw[ahM e,b];show g
  let a:¬q.1=k:=λz=>e<|c.trans z
  haveI b:Dx (q::qs) k=Dx qs k:=by simp[Dx,a]
  rw[ahN e,b];show f
end
def ahO(r:RelV (kV k) u):(x_ P w).is k u=I:=by cases k with|inl i=>let(t,e):=r;subst e;show agb P w i t|inr x=>let(t,e):=r;subst e;show agc P w x t
def SS i:=∀a b,Rg i au a b=operate [a,b] (HP a b)
def ahP{id}
  (e:typeLookup (.type T) "__getitem__"=pure (Y Yl)) (f:SS slice)
  (h:bj JB A (bC value env) (λo c=>bj JB A (bC slice env) (λi a=>a.TypeIs o T/\bj JB A (HP o i) Q E a) E c) E s):
  bj JB A (bC (.Subscript value slice pos) env) Q E s:=by
 show afX<|kX h (λo c g=>kX g (λi a b=>?_) λl l x=>x) λl l x=>x;let(j,b):=b;show bg<|bg<|wpAny_specialOf j e ?_;haveI fin:bj JB A (Rg slice au o i) (λr d=>bj JB A (letTemporaryGo value o r >>=λl=>pure r) Q E d) E a:=by
  rw[f o i];show wpAny_operating<|kX b (λr d k=>bg<|wpAny_letTemporaryGo<|dG k) λl l x=>x
 first
  |show dG (bg fin)
  |show bg Ja
  |show bg fin
def ahQ:nV "reversed"=Y (.type "reversed"):=by rfl
section
variable {X:Cx} {yq:List (ax × Obj)} {σ:St} {H:Hp} {s:bc} {h':c_}
def Inv.ahR{ch:Up}(g:Jp)(k:∀b o,b∉ch->s.heap.get? b=Y o->h'.get? b=Y o)(d:∀b∈ch,n_ X yq H b):Inv X yq σ H {s with heap:=h',toks:=t'}:=by
 let h:∀b u,H b=Y u->b∉ch:=λb u e z=>by
  let q:=(d b z).1;lia
 show g.step (λb f=>((d b f).2.2.2.1,(d b f).2.1,(d b f).2.2.2.2.1,(d b f).2.2.2.2.2)) (λb o t t a e t=>k b o a e) (λb o t t a e t=>(o.slots,k b o a e))
  (λt t t t n=>n) (λb o a e=>(o,k b o a e)) (λt t e=>e) (λt t t e=>e) (λb ps e=>(#[],by rw[e];simp)) (λm i=>?_) (λb u e=>?_) g.bare
 .let(o,j,l,p,r):=i;show(o,j,l,k _ o (λz=>(d _ z).2.1 J) p,r)
 show (g.bo b u e).ph (λc v a q=>k c v ?_ q) (λt q=>q) (λt t q=>q) λt t q=>q
 rcases a with z|z
 .rw[z];show h b u e
 show h c _ z
def Inv.IW{ch:Up}{T:ax}(h:Jp)(k:∀b o,b∉ch->s.heap.get? b=Y o->h'.get? b=Y o)(f:∀b∈ch,n_ X yq H b)(i:Jd<=T)
  (new:kl UG X.w (aA H T j) h' T j):Inv X yq σ (aA H T j) {s with heap:=h',toks:=t'}:=by
 let g:=h.bo.fresh i;haveI l:∀b u,H b=Y u->b∉ch:=λb u e z=>by
  let q:=(f b z).1;lia
 show h.step (λb a=>((f b a).2.2.2.1,(f b a).2.1,(f b a).2.2.2.2.1,(f b a).2.2.2.2.2)) (λb o y y d e y=>k b o d e) (λb o y y d e y=>(o.slots,k b o d e))
  (λb o y e n=>?_) (λb o d e=>(o,k b o d e)) (λb xs e=>?_) (λb o u e=>?_) (λb ps e=>(#[],?_)) (λm p=>?_) (λb u e=>?_) h.bare
 .rw[aJ<|iw<|iJ (dF e) i];show n
 .rw[aJ<|dH e g];show e
 .rw[aJ<|dH e g];show e
 .rw[aJ<|dH e g,e];simp
 .let(o,t,w,x,r):=p;show(o,t,w,k _ o (λz=>(f _ z).2.1 J) x,r)
 cases a:b=T
 .subst a;rw[aB]at e;lia
 rw[aJ a]at e;show (h.bo b u e).ph (λc v d q=>k c v ?_ q) (λc q=>by rw[aJ<|dH q g];show q) (λc xs q=>by rw[aJ<|dH q g];show q) λc xs q=>by rw[aJ<|dH q g];show q
 rcases d with z|z
 .rw[z];show l b u e
 show l c _ z
def Inv.lock(f:Jp)(h:H d=Y u)(c:ya<|Y u):∃a,Inv X yq σ (aA H d<|.fR a u) s:=by
 let x:=f.bo d u h;haveI ex:∃a,s.heap.get? d=Y a:=by
  cases u with|lst xs=>let(_,_,_,_,e):=x;show(_,e)|dK g=>let(_,_,_,_,o,_,_,e,_):=x;show(o,e)|dT g=>let(_,_,_,_,o,_,_,e,_):=x;show(o,e)|set S n=>let(o,_,_,_,e,_):=x;show(o,e)|ins C i fs=>let(_,_,_,e,_):=x;show(_,e)|ext j=>let(_,(_,e),_):=x;show(_,e)|_=>show gn c
 let(a,e):=ex;haveI new:kl UG X.w (aA H d<|.fR a u) s.13 d (.fR a u):=by
  show(e,x.ph (λb v k q=>q) (λb q=>by rw[aJ (λz=>by rw[z,h]at q;cases q;show c)];show q) (λb xs q=>by rw[aJ (λz=>by rw[z,h]at q;cases q;show c)];show q) λb xs q=>by rw[aJ (λz=>by rw[z,h]at q;cases q;show c)];show q)
 show(a,f.write (by ext) Qw (λb v k q=>q) (a,e) new)
def Inv.ahS(c:Jp)(h:H d=Y u)(f:ya<|Y u):∀a b,X.nZ d≠Y (.fR a b):=λa b e=>by let q:=c.base.ql d a b e;rw[h]at q;cases q;show f
def Inv.unlock(a:Jp)(h:H d=Y (.fR w u))(l:∀g i,X.nZ d≠Y (.fR g i)):Inv X yq σ (aA H d u) s:=by
 let f:∀b o,H b=Y o->(∀g i,o≠.fR g i)->b≠d:=by grind
 let neN:∀b,H b=O->b≠d:=Ja
 show(a.ok,a.os,a.bare,(a.base.keep,a.base.slot,λb o e n k=>by rw[aJ<|neN b<|a.base.free b o e n k];show a.base.free b o e n k,a.base.there,λb xs e=>?_,λb o x e=>?_,λb ps e=>?_),a.loc,a.cell,?_,λx c e=>?_,λp t=>?_,λb o e=>?_,a.len)
 .let q:=a.base.rW b xs e;rw[aJ<|f b _ q (λy y z=>nomatch z)];show q
 .let q:=a.base.ql b o x e;rw[aJ (λz=>by rw[z]at e;show l _ _ e)];show q
 .let(m,q):=a.base.ui b ps e;show(m,by rw[aJ Ja];show q)
 .rw[aJ<|neN _ a.free];show a.free
 .rw[aJ<|neN c<|a.ma x c e];show a.ma x c e
 .let(e,n,r):=a.pin p t;show(e,by rw[aJ<|neN _ n];show n,r)
 cases j:b=d
 .rw[j,aB]at e;cases e;rw[j];let(_,x):=a.bo d _ h;show x.ph (λc v y q=>q) (λc q=>by rw[aJ Ja];show q) (λc xs q=>by rw[aJ<|f c _ q (λy y z=>nomatch z)];show q) λc xs q=>by rw[aJ<|f c _ q (λy y z=>nomatch z)];show q
 rw[aJ j]at e;show (a.bo b o e).ph (λc v y q=>q) (λc q=>by rw[aJ Ja];show q) (λc xs q=>by rw[aJ<|f c _ q (λy y z=>nomatch z)];show q) λc xs q=>by rw[aJ<|f c _ q (λy y z=>nomatch z)];show q
end
section
variable {X:Cx}
def IX{c:St}(a:Inv X yq c H s) o
  (T:qt UG X.w U2 g d [Jd] Jd f) (st:f 0<|s.heap.push o) (q:R d H):Im X yq c g R (.ref Jd) {s with heap:=s.heap.push o,toks:=i}:=by
 show(Jd,[Jd],f,d,H,J,a.kept λb j e=>dm _ e,T,st,λb h=>?_,q);haveI e:b=s.heap.objs.12:=by exists h
 subst e;show a.ur JR<|a.bo.fresh JR
end
def AR(K:bH)(a:ax)(n:JD):It:=
 (λi H=>i<n/\∃(xs:List V) (x:V),aq K H a xs/\xs[n-1-i]?=Y x,λi H x b=>b=H/\∀xs,aq K H a xs->xs[n-1-i]?=Y x,λi c=>n<=i)
def ahT{K} a f n:qt P w K tg (AR K a n) [f] f (λi h=>i<=n/\h.IsRevIter f a (n-1-i)) where
 mem:=Jc
 obj:=λi h st b g=>by
  haveI e:b=f:=by exists g
  subst e;let(_,o,e):=st;ext
 keep:=λi h h' st k=>(st.1,st.2.at λo e=>k f Jc o e)
 item:=by
  intro X B C hK D i yq s F H E j l st m;subst B C hK;let(L,xs,x,N,R):=m;let(ab,S,p,hz):=j.list N;let(u,T,ru):=S.get R;let(q,f1,f2,r,t,v):=l f Jc;let(_,hit):=st;let y:n-1-i=((n-1-i:Nat):Int):=JE
  rw[y]at hit;show wpAny_pyNext_rev_item hit p.isList (by exists T) λh' z sb=>?_
  let e2:((n-1-i:Nat):Int)-1=n-1-((i+1:Nat):Int):=JE
  rw[e2]at z;let I1:Inv X yq F H {s with heap:=h'}:=j.turned (λb o g e=>(sb.2 b g).trans e) q f1 r t v;let(o,e,c,d):=id z;show(u,J,AF e c d (by rfl) (x,H,I1,ru,(J,λys hy=>by rw[j.DI hy N];show R),(L,z),λb g=>(l b g).1))
 done:=by
  intro X B C hK D i yq s F H E j l st m;let(q,f1,f2,r,t,v):=l f Jc;let(L,hit):=st;let ac:n<=i:=m;let y:n-1-(i:JH)= -1:=Ja
  rw[y]at hit;show wpAny_pyNext_rev_end (j.ok.hd D) hit λh' eb=>(J,j.turned (λb o g e=>eb b o g e) q f1 r t v)
 self:=λA i s Q E st h=>at4 st.2 h
def D7(K:bH)(c:TA):TI:=λd H R=>c d H λvs b=>∃(a:ax) (xs:Ju),vs=[.ref a]/\aq K b a xs/\R (AR K a xs.9) b
section
variable {X:Cx} {tg:dj}
def ahU(d:Gl X "reversed")(f:X.mg "reversed"=O)(g:PA X [e] i)(j:autoParam (bB [e] Jr=[JM]) a'):PI X tg (.Call (.Name "reversed" p) [e] [] pos) (D7 U2 i):=by
 show λyq s k H R b h=>Au<|rY b d f ahQ<|zM (bF (g pos yq s k H _ b h) fun w x (vs,y,c,r1,l)=>?_) j J
 let(a,xs,e,m,q):=l;subst e;cases r1 with
 |cons r n=>
  cases n;cases r;let(o,t,u,z):=c.list m;let A:=t.9;haveI v:o.toArray.12-1=xs.9-1-((0:Nat):Int):=by ext
  show call_reversed_list u.isList<|at4 (_,UC,J,J) ?_;show IX c _ (ahT a _ xs.9) (eX _,?_) q;rw[<-v];show(_,UC,J,J)
end
def AS(x:Str):It:=(λi b=>i<x.cps.12,λi H v a=>a=H/\∃c,x.cps[i]?=Y c/\v=.str ⟨#[c]⟩,λi b=>x.cps.12<=i)
def SU{K} a x t ty(j:ty="str_ascii_iterator"\/ty="str_iterator"):
  qt P w K tg (AS x) [a] a (λi h=>h.IsStrIter a ty x t i) where
 mem:=Jc
 obj:=λi h st b d=>by
  haveI e:b=a:=by exists d
  subst e;let(o,e):=st;ext
 keep:=λi h h' st k=>let (o,N,r):=st;(o,k a Jc o N,r)
 item:=by
  intro X B C hK g i yq s D H E f l st y;subst B C hK;let(m,f1,f2,n,p,q):=l a Jc;haveI R:Walks UG X.w Yp a [a] [a] x.cps.12 (SignAt x) (λi h=>h.IsStrIter a ty x t i):=by
   rcases j with e|e
   .rw[e];show Walks.strAscii (f.ok.hd g) a x t
   rw[e];show Walks.strWide (f.ok.hd g) a x t
  haveI S:["enumerate","zip","dict_itemiterator","dict_reverseitemiterator","odict_iterator","itertools.zip_longest","itertools.pairwise"].contains ty=au:=by
   rcases j with e|e
   .rw[e];decide
   rw[e];decide
  show R.item i s _ _ y st λv h' T hv F kk=>?_
  let(c,u,ab,rfl):=hv;haveI I1:Inv X yq D H {s with heap:=h',toks:=T}:=f.turned (λb o d e=>kk b o (by exists d) e) m f1 n p q;let(oi,e,cc,dd):=id F;show(_,J,AF e cc dd S (.str ⟨#[c]⟩,H,I1,(u,J),(J,c,ab,J),F,λb d=>(l b d).1))
 done:=by
  intro X B C hK g i yq s D H E f l st y;let(m,f1,f2,n,p,q):=l a Jc;let L:=asG y;rcases j with e|e
  .rw[e]at st;show wpAny_pyNext_ascii_end (f.ok.hd g) st L λh' z=>(J,f.turned (λb o d e=>z b o d e) m f1 n p q)
  rw[e]at st;show wpAny_pyNext_wide_end (f.ok.hd g) st L λh' z=>(J,f.turned (λb o d e=>z b o d e) m f1 n p q)
 self:=λA i s Q E st h=>by
  rcases j with e|e
  .rw[e]at st;show wpAny_pyIter_striter_ascii st h
  rw[e]at st;show wpAny_pyIter_striter_wide st h
def IY(a:TE):TI:=λb H R=>a b H λv c=>∃x,v=.str x/\R (AS x) c
def SV(he:PE X e c):PI X g e (IY c):=by
 show λyq s d H R f h=>bF (he yq s d H _ f h) fun v i (y,j,a,r1,x,ex,q)=>?_
 subst ex;let(t,rfl):=r1;induction b:x.cps.all (·<128)
 .show wpAny_pyIter_wide b<|IX a _ (SU _ x t "str_iterator"<|.inr J) (_,UC,J,J) q
 show wpAny_pyIter_ascii b<|IX a _ (SU _ x t "str_ascii_iterator" Qw) (_,UC,J,J) q
def eS{G}{c}{d:List g}(h:bw G c d):∀{i:Nat}{a:k},c[i]?=Y a->∃b,d[i]?=Y b/\G a b:=by
 induction h with
 |nil=>intro i a e;simp at e
 |@cons a b c d r t f=>
  intro i l e;cases i with
  |zero=>ext
  |succ j=>
   show f e
def uA(K:bH)(a:ax):It:=
 (λi H=>∃(xs:List V) (x:V),aq K H a xs/\xs[i]?=Y x,λi H v b=>∃T x,v=.ref T/\H T=O/\b=aA H T (.tup [.int (i:JD),x])/\∀xs,aq K H a xs->xs[i]?=Y x,λi H=>∃xs:List V,aq K H a xs/\xs.9<=i)
def ahV{K} a e f:
  qt P w K (.Tuple af kk ag) (uA K a) [e,f] e (λi h=>(∃old,IsEnum h e f i old)/\h.IsListIter f a i/\e≠f) where
 mem:=Jc
 obj:=λi h st b c=>by
  let((old,he),(o,D,m,hd),_):=st;grind
 keep:=λi h h' st k=>let ((old,he),hi,g):=st;((old,k e Jc _ he),hi.at λo q=>k f Jc o q,g)
 item:=by
  intro X n r hK m i yq s F H E d j st t;subst n r hK;let((old,he),hit,g):=st;let(xs,x,l,v):=t;let(N,y,p,R):=d.list l;let(u,S,T):=y.get v;let L:=dF he;show wpAny_pyNext_enum_item he hit p.isList (by exists S) g λh' D ab hT hsz hk=>(_,J,asS D λB ai C=>?_)
  let ac:B.get? Jd=Y {cls:=QP,data:=.seq #[.int i ZK,u]}:=(C.2 _<|vL L).trans hT;let new:kl UG X.w (aA H Jd Ue) B Jd Ue:=
   (by change 2<=cz;decide,[.int i ZK,u],.cons Qq<|.cons T .nil,(_,ac,J,_,J))
  let I1:Inv X yq F (aA H Jd Ue) {s with heap:=B,toks:=ZK+1}:=
   d.IW (λb ob c q=>(C.2 b λz=>c<|by simp[z]).trans<|hk b ob (λz=>c<|by simp[z]) (λz=>c<|by simp[z]) q) j JR new
  show(.ref Jd,_,I1,J,(_,x,J,d.bo.fresh JR,J,λys hy=>by rw[d.DI hy l];show v),((u,?_),ab.at λo q=>(C.2 f<|mY g).trans q,g),λb c=>?_)
  .haveI e1:((i+1:Nat):Int)=i+1:=by lia
   assumption
  haveI ae:b<s.heap.objs.12:=by
   rcases (by exists c) with z|z
   .rw[z];show L
   rw[z];show (by let(_,q,_):=hit;show dF q)
  rw[aJ<|iw ae];show (j b c).1
 done:=by
  intro X n r hK m i yq s F H E d j st t;subst n r hK;let((old,he),hit,g):=st;let(xs,l,v):=t;let(N,y,p,R):=d.list l;let(f0,f1,f2,f3,f4,f5):=j f Jc;let hl:=y.9;show wpAny_pyNext_enum_end (d.ok.hd m) he hit p.isList (by simp;omega) λh' eb=>(J,d.turned (λb o c q=>eb b o c q) f0 f1 f3 f4 f5)
 self:=λA i s Q E st h=>let ((_,he),_):=st;Pn he h
def jc(K:bH)(c:TA):TI:=λd H R=>c d H λvs b=>∃a xs,vs=[.ref a]/\aq K b a xs/\R (uA K a) b
def ahW(k:Gl X "enumerate")(l:X.mg "enumerate"=O)(m:PA X [e] n)(o:autoParam (bB [e] Jr=[JM]) a'):
  PI X (.Tuple B C D) Yq (jc U2 n):=by
 show λyq s f H R g h=>Au<|rY g k l avq<|zM (bF (m pos yq s f H _ g h) fun E c (vs,i,d,r1,t)=>?_) o J
 let(a,xs,ex,u,q):=t;subst ex;cases r1 with
 |cons r v=>
  cases v;cases r;let(F,L,w,N):=d.list u;show call_enumerate_list w.isList λh' he hit hsz x=>Pn he ?_
  let y:Inv X yq f i {c with heap:=h'}:=d.kept x;show(QG+1,[QG+1,QG],_,_,i,J,y,ahV a (QG+1) QG,((.none,he),hit,aue _),λb A=>?_,q);let j:QG<=b:=by
   rcases (by exists A) with z|z
   .rw[z];show aui _ _
   rw[z];show bf _
  show d.ur j<|d.bo.fresh j
def ahX:nV "zip"=Y (.type "zip"):=by rfl
def ie(s:eP)(j:JD):=match s with
 |.ClassDef a b c body d e f g h i k=>body.getD j<|.Pass (0,0,0,0)
 |a=>.Pass (0,0,0,0)
def qB(s:eP):=match s with
 |.FunctionDef b a c d e f g h i j=>a
 |b=>{posonlyargs:=[],args:=[],vararg:=O,kwonlyargs:=[],kw_defaults:=[],kwarg:=O,defaults:=[]}
def iY(s:eP):=match s with
 |.FunctionDef a c b d e f g h i j=>b
 |a=>[]
def bY(s:eP):=match s with
 |.FunctionDef a b c d e f sc g h i=>sc
 |a=>{kind:=.function,names:=[],isGenerator:=au,isCoroutine:=au}
abbrev jd:yg:=λa a a a a a=>False
abbrev E0:XK:=λa a a=>False
def ym:yh jd X E0:=λa a a a a a a h=>h.elim
structure uB(K:bH)(x qual:Str)(st:eP)(f:ax)(fd:Rm):Prop where
 ex:∃(a:aO) (od:YT) (kV b pm:aO) (c:YT) (bu ct:aO) (d:Array Z2),
  fd=rN x qual (qB st) (iY st) ZN .none kV b pm c bu ct/\K.lookup f=Y (a,od,.func fd,d)/\C9 K bu qual=I
 kp:mO K J7=I
section
variable {P:gz} {w:bS} {K:bH} {mg:Str->Option aO} {base:c_}
def uB.ok{st}(F:uB K x a st f fd)(S:fe N ps ZN)(len:∀vs H Q E,b vs H Q E->vs.9=ps.9)
  (c:∀bu A outer s H vs Q E,cQ k (A.deeper<|l9 a ZN Jd f bu)->b vs H Q E->
   ∃t,iP (uw jd P w K mg base N a ZN f bu A outer s H E).vV (iY st) t/\t {nx:=λr d=>Q .aW d,rt:=Q} U5 H):iV P w K mg base jd QU f fd ps b:=by
 let(l,m,kV,n,pm,o,bu,ct,p,rfl,e,g):=F.ex;show ag7 e g S len λA outer s H vs Q E i j=>?_
 let(t,h,q):=c bu A outer s H vs Q E i j;show(t,h.vV,q)
def uB.binds{st}(F:uB K x d st f fd)
  (h:∀(kV a pm:aO) b (bu ct:aO) c,c.9=ps.9->xX (rN x d (qB st) (iY st) ZN .none kV a pm b bu ct) (c,[])=pure (ps.zip c)):Binds K fd ps []:=by
 let(e,g,kV,a,pm,b,bu,ct,i,rfl,j):=F.ex;show .all<|h kV a pm b bu ct
end
section
variable {X:Cx}
def pv i{pos}(a:autoParam (X.N[i]?=Y x) a')(b:autoParam (DA Zb x) n')(hd:autoParam (QM=au) b')
  (c:autoParam ((x=="__classdict__")=au) b'):PE X Z9 (Z i):=Ry a b hd c
end
def IZ{B:Prop}(h:A):if I=I then A else B:=h
def aT{c A B:Prop}[Decidable c](a:c->A)(b:¬c->B):if c then A else B:=Ja
def az(H a:Hp):=∀b o,H b=Y o->a b=Y o
def az.refl H:az H H:=λa a h=>h
def az.trans(a:az H d)(b:az d e):az H e:=λc o h=>b c o<|a c o h
def az.free(e:WE)(h:a l=O):H l=O:=by
 cases q:H l with
 |none=>rfl
 |some o=>
  rw[e l o q]at h;cases h
def az.seq{K}(e:az H b)(h:aq K H a xs):aq K b a xs:=by
 rcases h with (h|⟨o,h⟩)|h
 .show .inl<|.inl<|e _ _ h
 .show .inl<|.inr (o,e _ _ h)
 show .inr h
section
variable {κ:Type} [DecidableEq κ]
theorem wc:∀{l}{k:κ},l.Nodup->¬k∈l->(l++[k]).Nodup
 |[],k,e,f=>by simp
 |a::r,k,h,b=>by
  let(d,c):=mM.1 h;show mM.2 (λm=>?_,wc c λm=>b<|fQ.2<|Ao m);ext
end
def fU{j:JD}{v:V}(e:z=(j:JH))(h:xs[j]?=Y v):jw xs z=Y v:=by rw[e];show dI h
end L2
namespace I0
open PySem PySem.Spec PyProof.Rows L2
def top i:=aev.main.body.getD i<|.Pass (0,0,0,0)
structure G where
 P:gz
 w:bS
 K:bH
 mg:Str->Option aO
 base:c_
abbrev mh(X:Cx):G:=(UG,X.w,U2,X.mg,YC)
abbrev Sq:=List V->Hp->VK->Prop
def pC(n:JD)(q:Sq):Sp:=λvs H Q a=>vs.9=n/\q vs H Q
def bI(g:G)(k:JD)(x:Str)(ps:Zg)(q:Sq):Prop:=
 ∃f fd,g.mg x=Y J7/\mO Jj J7=I/\Binds Jj fd ps []/\iV g.P g.w Jj g.mg Wn jd k f fd ps (pC ps.9 q)
def qC(g:G)(k:JD)(f:ax)(ps:Zg)(q:Sq):Prop:=
 ∃fd,mO Jj J7=I/\Binds Jj fd ps []/\iV g.P g.w Jj g.mg Wn jd k f fd ps (pC ps.9 q)
def gE(g:G)(k:JD)(C:ax)(m:Str)(ps:Zg)(q:Sq):Prop:=
 ∃f fd,DT Jj C m f/\Binds Jj fd ps []/\iV g.P g.w Jj g.mg Wn jd k f fd ps (pC ps.9 q)
def dP(g:G)(k:JD)(x:Str)(C:ax)(ps:Zg)(q:Sq):Prop:=
 ∃f fd q0,Mk Jj C f/\g.mg x=Y Zl/\Binds Jj fd ps []/\iV g.P g.w Jj g.mg Wn jd k f fd ps (pC ps.9 q0)/\
  ∀vs H Q,q vs H Q->∀x a,H x=O->H a=O->a≠x->(V.ref x::vs).9=ps.9/\q0 (.ref x::vs) UD (λv b=>v=.aW/\Q (.ref x) b)
def SW(n:JD)(q:Sq)(t:TA):TE:=λa H Q=>t a H λvs b=>vs.9=n/\q vs b Q
def I_(C:ax)(m:Str)(n:JD)(q:Sq)(d:TE)(t:TA):TE:=λb H Q=>d b H λx c=>∃a e fs,x=.ref a/\c a=Y (.ins C e fs)/\fs.lookup m=O/\
 t b c λvs f=>(x::vs).9=n/\q (x::vs) f Q
abbrev fJ(q:Sq)(t:TA):TE:=λa H Q=>t a H<|Sk q Q
section
variable {X:Cx} {k:Nat} {x m:Str} {C:ax} {ps:List Str} {q:Sq} {e o:dj} {es:List dj} {t:TA} {ta:TE} {p pos apos:Pos}
def ahY{n}(F:bI (mh X) k x ps q)(c:cQ k Yp)(d:PA X QE t)(g:autoParam (Gl X x) a')(i:autoParam (ps.9=n) a')(j:autoParam (QM=au) b')
  (he:autoParam (bB QE Jr=JM::bB es X.env) a') (hpl:autoParam ((fI pos YQ).any (·.1)=au) a'):
  PE X ZF (SW n q t):=by
 subst i;let(f,fd,l,r,u,F):=F;show λyq s b H Q v h=>ag3 F c g l r u .nil ym d j he hpl yq s b H Q v ?_
 haveI w:(λvs a=>pC ps.9 q (vs++[]) a Q E0)=λvs a=>vs.9=ps.9/\q vs a Q:=by
  funext vs a;rw[iu];rfl
 change t b H λvs a=>pC ps.9 q (vs++[]) a Q E0
 rwa [w]
def ahZ{pl:Sem Bool}{n:JD}(c:jX U2 C)(M:gE (mh X) k C m ps q)(i:cQ k Yp)(he:PE X o ta)(j:PA X QE t)(l:autoParam (ps.9=n) a')
  (r:autoParam (bB QE Jr=JM::bB es X.env) a') (hpl:autoParam ((fI pos YQ).any (·.1)=au) a')
  (u:autoParam (bC We Jr=(do
   let g <-bC o X.env
   o8 apos.atName
   let (f,first) <-l8 [g] (vO g m pl)
   xW pos f first (fI pos<|bB QE Jr) UR)) a'):
  PE X We (I_ C m n q ta t):=by
 subst l;let(f,fd,v,w,F):=M;intro yq s d H Q y h;show ag4 (pl:=pl) he c v F i w .nil ym j r hpl u yq s d H Q y ?_;haveI z:∀x:V,(λvs b=>pC ps.9 q (x::(vs++[])) b Q E0)=λvs b=>(x::vs).9=ps.9/\q (x::vs) b Q:=by
  intro x;funext vs b;rw[iu];rfl
 change ta d H λx b=>∃a A fs,x=.ref a/\b a=Y (.ins C A fs)/\fs.lookup m=O/\t d b λvs B=>pC ps.9 q (x::(vs++[])) B Q E0
 erw[z];show h
def ah0{pl}(c:jX U2 C)(M:gE (mh X) k C m ps q)(b:cQ k Yp)(he:PE X o ta)(d:autoParam (ps.9=n) a')
  (g:autoParam (bC Wj Jr=(do
   let a <-bC o X.env
   o8 apos.atName
   let (f,first) <-l8 [a] (vO a m pl)
   xW pos f first (fI pos<|bB [] Jr) UR)) a'):
  PE X Wj (I_ C m n q ta aa):=by
 subst d;let(f,fd,i,j,F):=M;show λyq s l H Q r h=>ag5 he c i F b j .nil ym g yq s l H Q r h
def D8(M:dP (mh X) k x C ps q)(c:cQ QU Yp)(d:PA X QE t)(g:autoParam (Gl X x) a')(i:autoParam (QM=au) b')
  (he:autoParam (bB QE Jr=JM::bB es X.env) a') (hpl:autoParam ((fI pos YQ).any (·.1)=au) a'):
  PE X ZF (fJ q t):=by
 let(f,fd,q0,M,j,l,F,k):=M;show λyq s n H Q a h=>xF<|AB a g j (Hc (h₀:=YC) a.ok.mod.rX M.kp (bF (d pos yq s n H _ a h) fun A B (vs,u,b,r,q)=>(b.ju,Sd M F c l .nil ym b r λx v w y z=>?_)) he hpl) i
 rw[iu];show k vs u Q q x v w y z
def ah1(M:dP (mh X) k x C ps q)(b:cQ QU Yp)(c:autoParam (Gl X x) a')(d:autoParam (QM=au) b'):
  PE X (.Call (.Name x p) [] [] pos) (fJ q aa):=by
 let(f,fd,q0,M,g,i,F,k):=M;show λyq s u H Q a h=>xF<|AB a c g (asI a.ju M.kp<|Sd M F b i .nil ym a .nil λx j l n r=>k [] H Q h x j l n r) d
end
abbrev cx(g:G) N a sc f bu A outer s H E:=(uw jd g.P g.w Jj g.mg Wn N a sc f bu A outer s H E).vV
abbrev iZ(Q:VK):jU:={nx:=λb a=>Q .aW a,rt:=Q}
def ig(g:G)(k:JD)(N:Zg)(a:Str)(st:eP)(t:TS):Prop:=
 ∀(f:ax) (bu:aO) (A:fA) (outer:List Env) (s:bc) (H:Hp) (E:XK),cQ k (A.deeper<|l9 a ZN Jd f bu)->iP (cx g N a ZN f bu A outer s H E) (iY st) t
def gu(x b:Str)(st:eP)(ps:Zg):Prop:=
 ∀(kV c pm:aO) (d:YT) (bu ct:aO) (a:Wz),a.9=ps.9->xX (rN x b (qB st) (iY st) ZN .none kV c pm d bu ct) (a,[])=pure (ps.zip a)
def uC(K:bH)(x a:Str)(st:eP)(f:ax):Prop:=∃fd,uB K x a st f fd
def yn(g:G)(x:Str)(st:eP):Prop:=∃f,g.mg x=Y J7/\uC Jj x x st f
section
variable {g:G} {k:Nat} {N ps:List Str} {x qual:Str} {st:eP} {t:TS} {q:Sq}
def AU(F:uC Jj x qual st f)(S:fe N ps ZN)(B:gu x qual st ps)(T:ig g k N qual st t)
  (h:∀vs H Q,vs.9=ps.9->q vs H Q->t Yy U5 H):∃fd,mO Jj J7=I/\Binds Jj fd ps []/\iV g.P g.w Jj g.mg Wn jd QU f fd ps (pC ps.9 q):=by
 let(fd,F):=F;show(fd,F.kp,F.binds B,F.ok S (λvs H Q E h=>h.1) λbu A outer s H vs Q E b a=>(t,T f bu A outer s H E b,h vs H Q a.1 a.2))
def bI.of(F:yn g x st)(S:fe N ps ZN)(B:gu x x st ps)(T:ig g k N x st t)
  (h:∀vs H Q,vs.9=ps.9->q vs H Q->t Yy U5 H):bI g QU x ps q:=by
 let(f,a,F):=F;let(fd,b,c,d):=AU F S B T h;show(f,fd,a,b,c,d)
theorem bI.mono(F:bI g k x ps q)(h:k<=j):bI g j x ps q:=by let(f,fd,a,b,c,d):=F;show(f,fd,a,b,c,d.mono h)
theorem bI.at(F:bI g k x ps q)(h:g.mg x=Y J7):qC g k f ps q:=by let(e,fd,a,b,c,d):=F;rw[h]at a;cases a;show(fd,b,c,d)
theorem qC.mono(F:qC g k f ps q)(h:k<=j):qC g j f ps q:=by let(fd,a,b,c):=F;show(fd,a,b,c.mono h)
def MethAt(g:G)(C:ax)(m qual:Str)(st:eP):Prop:=∃f,mP Jj Zl m=Y (Y J7)/\Dk Jj J7=I/\uC Jj m qual st f
def gE.of(F:MethAt g C m qual st)(S:fe N ps ZN)(B:gu m qual st ps)(T:ig g k N qual st t)
  (h:∀vs H Q,vs.9=ps.9->q vs H Q->t Yy U5 H):gE g QU C m ps q:=by
 let(f,a,b,F):=F;let(fd,c,d,e):=AU F S B T h;show(f,fd,(a,b,c),d,e)
structure J_(g:G)(x:Str)(C:ax)(qual:Str)(st:eP)(a:Zg):Prop where
 mg:g.mg x=Y Zl
 cl:jX Jj C
 mak:Pg Jj C=I
 kp:mO Jj Zl=I
 init:MethAt g C "__init__" qual st
 na:∀f∈a,r9 Jj C f
def dP.of{q0:Sq}(c:J_ g x C qual st m)(S:fe N ps ZN)(B:gu "__init__" qual st ps)(T:ig g k N qual st t)
  (h:∀vs H Q,vs.9=ps.9->q0 vs H Q->t Yy U5 H)
  (i:∀vs H Q,q vs H Q->∀x a,H x=O->H a=O->a≠x->(V.ref x::vs).9=ps.9/\q0 (.ref x::vs) UD (λv b=>v=.aW/\Q (.ref x) b)):dP g QU x C ps q:=by
 let(f,d,e,F):=c.init;let(fd,n,j,l):=AU F S B T h;show(f,fd,q0,(c.mak,d,e,c.kp),c.mg,j,l,i)
end
section
variable {prog:gz} {w:bS} {A:fA} {E:aO->bc->Prop} {s:bc}
def Ka(f:s.heap.IsTupleIter j t i)(g:s.heap.IsTuple t xs)(h:A.handled=O)
  (yes:∀x,xs[i]?=Y x->∀h',h'.IsTupleIter j t JK->HA j s.13 h'->Q x {s with heap:=h'})
  (no:xs[i]?=O->∀h' e,afH j s.13 h'->(∃o,h'.get? e=Y o/\o.cls=.type "StopIteration")->E (.ref e) {s with heap:=h'}):bj JB A (OR<|.ref j) Q E s:=by
 let(u,c,l,b):=id f;let(v,m,_,k,n):=g;show bg<|aeH f.typeIs asA<|afq asA f.typeIs F.entry_tuple_iterator_next ?_<|F.args_tuple_iterator_next_1 _;change bj _ _ (field (.ref j) 0 >>=_) _ _ s
 show bg<|ua c b J<|bg<|ua c b J<|bg<|z9 m n ?_;cases d:xs[i]? with
 |some x=>
  erw[ed,d];show bg<|avk c b Jc<|dG (x,J,dG<|yes x d _ (_,asV _ c<|Obj.isFreed_of_fields<|atw b _,(Obj.cls_mapFields ..).trans l,?_)<|Heap.SameBut.update ..);rw[atw b];simp[ug]
 |none=>
  erw[ed,d];show bg<|HH<|bg<|avk c b Jc ?_;change bj _ _ (newExc (Dt "StopIteration") [] >>=_) _ _ _
  show bg<|bg<|afc (bg<|wpAny_of_eq (a:=afJ) (by first|rfl|(simp;rfl))<|afc ?_<|by size_fits) (by size_fits);show bg<|wpAny_handled ?_;rw[show A.in1.handled=O from h];show bg<|dG<|wpAny_throw<|no d _ _ (((Heap.SameBut.update ..).extBut.push _).push _) (_,UC,J)
def ah2(b:A.handled=O) j t(g:t≠j) xs:Draws prog w A j [j,t] xs.12 (λi v=>xs[i]?=Y v) (λi h=>h.IsTupleIter j t i/\h.IsTuple t xs) where
 live:=λn n st=>(_,st.1.choose_spec.1)
 frame:=λn n n st c=>(st.1.at λo e=>c j Jc o e,st.2.elim λo d=>(o,c t Jc o d.1,d.2))
 item:=λi s Q E hi st k=>Ka st.1 st.2 b (λx a h' l f=>k x h' ZK a (l,st.2.extBut f.extBut g) f) λa=>absurd a<|by ext
 done:=λs Q E st m=>Ka st.1 st.2 b (λx a=>absurd a Jc) λn=>m
def ah3(c:A.handled=O) j t(g:t≠j) xs n(k:xs.12<=n):Draws prog w A j [j,t] n UH (λi h=>i=n/\h.IsTupleIter j t n/\h.IsTuple t xs) where
 live:=λm m st=>(_,st.2.1.choose_spec.1)
 frame:=λm m m st a=>(st.1,st.2.1.at λo e=>a j Jc o e,st.2.2.elim λo b=>(o,a t Jc o b.1,b.2))
 item:=λi s Q E hi st l=>absurd st.1<|iw hi
 done:=λs Q E st d=>Ka st.2.1 st.2.2 c (λx f=>absurd f<|by ext) λm=>d
end
open PySem.AutoSeq1 (wpAny_loadPart') in
set_option tactic.hygienic true in
def ah4(t:ax)(xs:Array aO)(n:JD)(e:YT)(f:Array Z2):As (uf.«enumerate.__new__» ([.type "enumerate",.ref t],[])) (λl R s=>s.heap.get? t=Y {cls:=QP,dict:=e,data:=.seq xs n,slots:=f}/\
  R (.ok<|.ret<|.ref (s.heap.push {cls:=.type "tuple_iterator",data:=.fields #[.ref t,.int 0 0]}).objs.12) {s with heap:=(s.heap.push {cls:=.type "tuple_iterator",data:=.fields #[.ref t,.int 0 0]}).push {cls:=.type "enumerate",data:=.fields #[.none,.bool au,.ref Jd,ug 0,.none,.none]}}):=
 .of_wp λprog w A R s h=>by
  let(i,g,d,j,os):=s;let(a,h):=h;let k:=sub_enumerate;let b:Heap.IsTuple (Shared.heap (i,g,d,j,os)) t xs:=(_,a,J,n,J);wp_walk using i_ a;show wpAny_stack_any λst=>dG ?_
  split;case h_1 c _ _ _ _ _=>cases (c==Dt "enumerate")<;>(wp_walk using i_ a,ae4 b;show(_,J,h))
  case h_2=>(wp_walk using i_ a,ae4 b;show(_,J,h))
def ah5{s:bc}(d:s.heap.IsTuple t xs)
  (h:∀h',IsEnum h' UZ Jd 0 .none->h'.IsTupleIter Jd t 0->(∀b o,s.heap.get? b=Y o->h'.get? b=Y o)->Q (.ref UZ) {s with heap:=h'}):
  bj JB A (call (.type "enumerate") [.ref t]) Q E s:=by
 let((c,e,j,f),g,i,n,hd):=d;subst i;subst hd;let a:(s.heap.push {cls:=.type "tuple_iterator",data:=.fields #[.ref t,.int 0 0]}).objs.12=Jd+1:=nQ ..;show callType_new F.called_enumerate (by rfl) (F.typeCall_enumerate_1 _) (F.newCall_enumerate_1 _) (λobj=>F.args_object_init_2 obj _) F.entry_enumerate_new (ah4 t xs n e f) (g,?_);let he:=gy (s.heap.push {cls:=.type "tuple_iterator",data:=.fields #[.ref t,.int 0 0]}) (o:={cls:=.type "enumerate",data:=.fields #[.none,.bool au,.ref Jd,ug 0,.none,.none]}) J;rw[a]at he;rw[a];show((_,he,J),h _ he (_,dm _ UC,J,J) λb o x=>dm _<|dm _ x)
def AV(K:bH)(a:ax):It:=
 (λi H=>∃(xs:List V) (x:V),bR K H a xs/\xs[i]?=Y x,λi H v b=>∃T x,v=.ref T/\H T=O/\b=aA H T (.tup [.int (i:JD),x])/\∀xs,bR K H a xs->xs[i]?=Y x,λi H=>∃xs:List V,bR K H a xs/\xs.9<=i)
def SX{h:c_}(a:h.IsTupleIter j t i)(b:h.IsTuple t xs):t≠j:=λz=>by let(u,c,d,_):=a;let(v,e,f,_):=b;lia
def ah6{K} a e j:
  qt P w K (.Tuple af kk ag) (AV K a) [e,j] e (λi h=>(∃old,IsEnum h e j i old)/\h.IsTupleIter j a i/\e≠j) where
 mem:=Jc
 obj:=λi h ((old,he),(o,S,n,hd),_) b c=>by grind
 keep:=λi h h' ((old,he),hi,f) k=>((old,k e Jc _ he),hi.at λo q=>k j Jc o q,f)
 item:=by
  intro X D F hK n i yq s T H E d r st L;subst D F hK;let((old,he),g,f):=st;let(xs,x,t,B):=L;let(m,C,p,hz):=d.tuple t;let(u,hu,ru):=C.get B;let l:=p;let el:=dF he;haveI ab:e≠a:=λz=>by
   let(v,hv,cv,_):=l;rw[<-z,he]at hv;cases hv;lia
  haveI hi:i<m.toArray.12:=by
   rw[vE,<-C.9];show (cU.1 B).1
  show wpAny_pyNext_enum_itemD (ah2 (A:=X.A.in1) (d.ok.hd n) j a (SX g l) m.toArray) he (g,l) hi f (by simp[f,ab]) λy h' tk N S ac hT hsz hk=>?_
  haveI ey:y=u:=by
   haveI h1:m[i]?=Y y:=by exists N
   rw[hu]at h1;ext
  subst ey;show(_,J,asS S λh2 ae R=>?_);let I1:Inv X yq T (aA H Jd Ue) {s with heap:=h2,toks:=tk+1}:=
   d.IW (λb ob c q=>(R.2 b λz=>c<|by simp[z]).trans<|hk b ob (λz=>c<|by simp[z]) (λz=>c<|by simp[z]) q) r JR ((by change 2<=cz;decide,[.int i tk,y],.cons Qq<|.cons ru .nil,(_,(R.2 _<|vL el).trans hT,J,_,J)))
  show(.ref Jd,_,I1,J,(_,x,J,d.bo.fresh JR,J,λys N=>by rw[d.RK N t];show B),((y,?_),ac.1.at λo q=>(R.2 j<|mY f).trans q,f),λb c=>?_)
  .rw[show ((i+1:Nat):Int)=i+1 by lia];show ae
  haveI bl:b<s.heap.objs.12:=by
   rcases (by exists c) with z|z
   .rw[z];show el
   rw[z];show dF g.choose_spec.1
  rw[aJ<|iw bl];show (r b c).1
 done:=by
  intro X D F hK n i yq s T H E d r st L;subst D F hK;let((old,he),g,f):=st;let(xs,t,B):=L;let(m,C,p,hz):=d.tuple t;let l:=p;let(f0,f1,f2,f3,f4,f5):=r j Jc;let hl:=C.9;show wpAny_pyNext_enum_endD (ah3 (A:=X.A.in1) (d.ok.hd n) j a (SX g l) m.toArray i (by simp;lia)) he (J,g,l) λh' eb=>(J,d.turned (λb o c q=>eb b o c q) f0 f1 f3 f4 f5)
 self:=λA i s Q E ((_,he),_) h=>Pn he h
def Kb(K:bH)(c:TA):TI:=λd H R=>c d H λvs b=>∃a xs,vs=[.ref a]/\bR K b a xs/\R (AV K a) b
def ah7{p pos i j k}(l:X.mg "enumerate"=O)(m:PA X [e] n)(o:autoParam (Gl X "enumerate") a')(r:autoParam (bB [e] Jr=[JM]) a'):
  PI X (.Tuple j k i) Yq (Kb U2 n):=by
 show λyq s t H R f h=>Au<|rY f o l avq<|zM (bF (m pos yq s t H _ f h) fun D c (vs,v,d,r1,a,xs,ex,w,q)=>?_) r J
 subst ex;let(u,rfl,x):=vals1 r1;cases x;let(E,F,y,L):=d.tuple w;show ah5 y λh' he A B=>Pn he (QG+1,[QG+1,QG],_,_,v,J,d.kept B,ah6 a (QG+1) QG,((.none,he),A,aue _),λb C=>?_,q)
 let g:QG<=b:=by
  rcases (by exists C) with z|z<;>rw[z]
  .ext
  ext
 show d.ur g<|d.bo.fresh g
section
variable {prog:gz} {w:bS} {A:fA} {E:aO->bc->Prop} {s:bc}
def Gives(prog:gz)(w:bS)(A:fA)(j:ax)(S a:c_->Prop)(P:aO->Prop):Prop:=∀(s:bc) (Q:aO->bc->Prop) (E:aO->bc->Prop),S s.13->(∀x h' b,P x->a h'->HA j s.13 h'->Q x {s with heap:=h',toks:=b})->bj JB A (OR<|.ref j) Q E s
def uD(prog:gz)(w:bS)(A:fA)(j:ax)(S:c_->Prop):Prop:=∀(s:bc) (Q:aO->bc->Prop) (E:aO->bc->Prop),S s.13->(∀h' e,afH j s.13 h'->(∃o,h'.get? e=Y o/\o.cls=.type "StopIteration")->E (.ref e) {s with heap:=h'})->bj JB A (OR<|.ref j) Q E s
def k_(a:Up)(S:c_->Prop):Prop:=∀h h':c_,S h->(∀b∈a,∀o,h.get? b=Y o->h'.get? b=Y o)->S h'
structure Zp(z T a j k:ax)(b gp:Up):Prop where
 Tz:T≠z
 Oz:a≠z
 jz:j≠z
 kz:k≠z
 TO:T≠a
 Tj:T≠j
 Tk:T≠k
 Oj:a≠j
 Ok:a≠k
 jk:j≠k
 f1:z∉b
 f2:a∉b
 f3:k∉b
 g1:z∉gp
 g2:a∉gp
 g3:j∉gp
def ng(F:k_ a S)(st:S h)(d:b∉a)(e:afH b h h'):=F h h' st λc f o q=>e c o (λz=>d<|z▸f) q
def ah8{Q:aO->bc->Prop}(D:Zp z T f j k fp gp)(ac:Gives prog w A j S C P)(L:Gives prog w A k R F ae)
  (FS:k_ fp S) (r:k_ fp C) (H:k_ gp R) (ab:k_ gp F) (g:nX s.13 z T f .none) (hT:Y5) (hO:jt s.13 f a b) (sj:S s.13) (sk:R s.13)
  (hQ:∀x y h' tk,P x->ae y->nX h' z T f (ug Jd)->jt h' f x y->C h'->F h'->jt h' Jd x y->(∀c o,c≠z->c≠f->c≠j->c≠k->s.heap.get? c=Y o->h'.get? c=Y o)->Q (.ref Jd) {s with heap:=h',toks:=tk}):
  bj JB A (uf.«zip.__next__» ([.ref z],[])) (λfin s'=>∃v,fin=.done (.ret v)/\Q v s') E s:=by
 change bj _ _ (field (.ref z) 2 >>=_) _ _ s
 show bg<|ua g J (x:=.bool au) J ?_;show bg<|ua g J J<|bg<|z9 hT J ?_;show bg<|bg<|ua g J J<|dG ?_;show bg<|HH<|bg<|ua g J J<|bg<|CY g Jc λh1 z1 h=>?_;apply bg;erw[Ph,aul,Hn,afo];show bg<|bg<|P7 ?_;show bg<|ac _ _ _ (ng FS sj D.f1 h.extBut) λx h2 tk px j2 i=>dG ?_;let o2:=i.extBut _ _ D.Oj<|h.extBut _ _ D.Oz hO;show bg<|z9 o2 J<|bg<|aeU o2 λh3 o3 l=>bg<|Rf<|dG ?_;show bg<|bg<|P7 ?_;show bg<|L _ _ _ (ng H (ng H (ng H sk D.g1 h.extBut) D.g3 i.extBut) D.g2 l.extBut) λy h4 af py k4 m=>dG ?_;let o4:jt h4 f x b:=m.extBut _ _ D.Ok o3;show bg<|z9 o4 J<|bg<|aeU o4 λd t n=>bg<|Rf<|dG<|dG ?_;let t:jt d f x y:=t;show bg<|z9 t J<|bg<|avl ?_;haveI hsz:d.objs.12=s.heap.objs.12:=by rw[n.1,m.1,l.1,i.1,h.1]
 let z5:nX d z T f .ellipsis:=n.extBut _ _ D.Oz.3<|m.extBut _ _ D.kz.3<|l.extBut _ _ D.Oz.3<|i.extBut _ _ D.jz.3 z1;let zl:z<d.objs.12:=dF z5;let j5:C d:=ng r (ng r (ng r j2 D.f2 l.extBut) D.f3 m.extBut) D.f2 n.extBut;let k5:F d:=ng ab k4 D.g2 n.extBut;change bj _ _ (ar8 (.ref z) (.ref d.objs.12) >>=_) _ _ _
 delta ar8;let z6:nX (d.push {cls:=QP,data:=.seq #[x,y]}) z T f .ellipsis:=dm _ z5;show bg<|bg<|CY z6 Jc λh7 N s7=>?_;let N:nX h7 z T f (ug d.objs.12):=N;show CY N Jc λu B s8=>?_
 let B:nX u z T f (ug d.objs.12):=B;let up:∀c o,c≠z->d.get? c=Y o->u.get? c=Y o:=λc o p e=>s8.extBut _ _ p<|s7.extBut _ _ p<|dm _ e
 let t8:jt u d.objs.12 x y:=s8.extBut _ _ (vL zl)<|s7.extBut _ _ (vL zl) UC;rw[hsz]at B t8;show dG (_,J,?_);change Q (.ref d.objs.12) _
 rw[hsz];show hQ x y u af px py B (up _ _ D.Oz t) (r _ _ j5 λc X o e=>up c o (λq=>D.f1<|q▸X) e) (ab _ _ k5 λc X o e=>up c o (λq=>D.g1<|q▸X) e) t8 λc o p c2 c3 c4 e=>up c o p ?_
 show n.extBut _ _ c2<|m.extBut _ _ c4<|l.extBut _ _ c2<|i.extBut _ _ c3<|h.extBut _ _ p e
def ah9(D:Zp z T g j k fp gp)(l:uD prog w A j S\/(Gives prog w A j S S' P/\uD prog w A k R))
  (B:k_ fp S) (r:k_ gp R) (m:nX s.13 z T g .none) (hT:Y5) (hO:jt s.13 g a b) (C:S s.13) (sk:R s.13)
  (F:∀h' e t,(∀c o,c≠z->c≠g->c≠j->c≠k->s.heap.get? c=Y o->h'.get? c=Y o)->(∃o,h'.get? e=Y o/\o.cls=.type "StopIteration")->E (.ref e) {s with heap:=h',toks:=t}):
  bj JB A (uf.«zip.__next__» ([.ref z],[])) Q E s:=by
 change bj _ _ (field (.ref z) 2 >>=_) _ _ s
 show bg<|ua m J (x:=.bool au) J ?_;show bg<|ua m J J<|bg<|z9 hT J ?_;show bg<|bg<|ua m J J<|dG ?_;show bg<|HH<|bg<|ua m J J<|bg<|CY m Jc λh1 H h=>?_;apply bg;erw[Ph,aul,Hn,afo];show bg<|bg<|P7 ?_;rcases l with l|⟨l,L⟩
 .show bg<|l _ _ _ (ng B C D.f1 h.extBut) λu e d he=>?_;let(oe,f,n):=he;let N:nX u z T g .ellipsis:=d _ _ D.jz.3 H;let v:e≠z:=λq=>by
   subst q;rw[N]at f;cases f;simp at n
  show CY N Jc λX K i=>F X e ZK (λc o p K y K q=>i.extBut _ _ p<|d _ _ y<|h.extBut _ _ p q) (oe,i.extBut _ _ v f,n)
 show bg<|l _ _ _ (ng B C D.f1 h.extBut) λx u t px j2 d=>dG ?_;let o2:jt u g a b:=d.extBut _ _ D.Oj<|h.extBut _ _ D.Oz hO;show bg<|z9 o2 J<|bg<|aeU o2 λX o3 i=>bg<|Rf<|dG ?_;show bg<|bg<|P7 ?_;change bj _ _ (OR (.ref k) >>=_) _ _ _
 show bg<|L _ _ _ (ng r (ng r (ng r sk D.g1 h.extBut) D.g3 d.extBut) D.g2 i.extBut) λh4 e s4 he=>?_;let(oe,f,n):=he;let z4:nX h4 z T g .ellipsis:=s4 _ _ D.kz.3<|i.extBut _ _ D.Oz.3<|d.extBut _ _ D.jz.3 H;let v:e≠z:=λq=>by
  subst q;rw[z4]at f;cases f;simp at n
 show CY z4 Jc λh5 K s5=>F h5 e t (λc o p c2 y c4 q=>s5.extBut _ _ p<|s4 _ _ c4<|i.extBut _ _ c2<|d.extBut _ _ y<|h.extBut _ _ p q) (oe,s5.extBut _ _ v f,n)
end
section
variable {prog:gz} {w:bS} {A:fA} {E:aO->bc->Prop} {s:bc}
def aia(D:Zp z T d j k f gp)(l:Gives prog w A.in1 j S g P)(L:Gives prog w A.in1 k R h m)
  (n:k_ f S) (p:k_ f g) (q:k_ gp R) (r:k_ gp h) (i:nX s.13 z T d .none) (t:Y5) (u:jt s.13 d a b) (v:S s.13) (B:R s.13)
  (C:∀x y h' e,P x->m y->nX h' z T d (ug Jd)->jt h' d x y->g h'->h h'->jt h' Jd x y->(∀c o,c≠z->c≠d->c≠j->c≠k->s.heap.get? c=Y o->h'.get? c=Y o)->Q (Y<|.ref Jd) {s with heap:=h',toks:=e}):
  bj JB A (HU<|.ref z) Q E s:=by
 let ty:s.TypeIs (.ref z) "zip":=(_,i,J);show bg<|P8<|aeH ty Pz<|afq Pz ty auM (ah8 D l L n p q r i t u v B λx y h' e H N X a4 a5 a6 a7 a8=>dG<|C x y h' e H N X a4 a5 a6 a7 a8)<|auC _
def aib(D:Zp z T d j k h gp)(i:uD prog w A.in1 j S\/(Gives prog w A.in1 j S y P/\uD prog w A.in1 k R))
  (l:k_ h S) (m:k_ gp R) (g:nX s.13 z T d .none) (n:Y5) (p:jt s.13 d a b) (q:S s.13) (r:R s.13)
  (t:∀h' f,(∀c o,c≠z->c≠d->c≠j->c≠k->s.heap.get? c=Y o->h'.get? c=Y o)->Q O {s with heap:=h',toks:=f}):bj JB A (HU<|.ref z) Q E s:=by
 let ty:s.TypeIs (.ref z) "zip":=(_,g,J);show bg<|P8<|aeH ty Pz<|afq Pz ty auM (ah9 D i l m g n p q r λh' e f u (o,v,x)=>bg<|wpAny_isInstance (o,v,x) isSubtype_stop<|dG<|t _ f u)<|auC _
end
abbrev D9(h:c_) x t:=h.push {cls:=.type<|kh x,data:=.fields #[.str x t,.int 0 0]}
abbrev D_ h x t l:=(D9 h x t).push {cls:=.type "list_iterator",data:=.fields #[.ref l,.int 0 0]}
abbrev Ea h x t l:=(D_ h x t l).push {cls:=QP,data:=.seq #[.ref h.objs.12,.ref (D9 h x t).objs.12]}
abbrev Eb h x t l:=(Ea h x t l).push {cls:=QP,data:=.seq #[.none,.none]}
abbrev AW h x t l:=(Eb h x t l).push {cls:=.type "zip",data:=.fields #[.none,.bool au,.bool au,.ref (D_ h x t l).objs.12,.ref (Ea h x t l).objs.12]}
def aic(x:Str)(t:Tok)(l:ax)(a:Array aO):As (uf.«zip.__new__» ([.type "zip",.str x t,.ref l],[])) (λj R s=>s.heap.IsList l a/\R (.ok<|.ret<|.ref (Eb s.13 x t l).objs.12) {s with heap:=AW s.13 x t l}):=
 .of_wp λprog w A R s h=>by
  let(b,g,d,c,os):=s;let(e,h):=h;let i:=sub_zip;let f:Heap.IsList (Shared.heap (b.push {cls:=.type<|kh x,data:=.fields #[.str x t,.int 0 0]},g,d,c,os)) l a:=Heap.IsList.push e _;wp_walk using wpAny_pyIter_strU,auP f;show(_,J,h)
def aid{s:bc}(i:s.heap.IsList l j)
  (h:∀h',nX h' (Jd+4) (Jd+2) (Jd+3) .none->jt h' (Jd+2) (.ref Jd) (.ref UZ)->jt h' (Jd+3) .none .none->
   h'.IsStrIter Jd (kh x) x t 0->h'.IsListIter UZ l 0->(∀c o,s.heap.get? c=Y o->h'.get? c=Y o)->Q (.ref<|Jd+4) {s with heap:=h'}):
  bj JB A (call (.type "zip") [.str x t,.ref l]) Q E s:=by
 let a:(D9 s.13 x t).objs.12=Jd+1:=nQ ..;haveI b:(D_ s.13 x t l).objs.12=Jd+2:=by rw[nQ,a]
 haveI d:(Ea s.13 x t l).objs.12=Jd+3:=by rw[nQ,b]
 haveI f:(Eb s.13 x t l).objs.12=Jd+4:=by rw[nQ,d]
 let e:(AW s.13 x t l).get? (Eb s.13 x t l).objs.12=Y _:=UC;let g:(AW s.13 x t l).get? (Ea s.13 x t l).objs.12=Y _:=dm _ UC;let g3:(AW s.13 x t l).get? (D_ s.13 x t l).objs.12=Y _:=dm _<|dm _ UC;let g2:(AW s.13 x t l).get? (D9 s.13 x t).objs.12=Y _:=dm _<|dm _<|dm _ UC;show callType_new F.called_zip Je (F.typeCall_zip_2 _ _) (F.newCall_zip_2 _ _) (λobj=>F.args_object_init_3 obj _ _) F.entry_zip_new (aic x t l j) (i,?_);rw[b,d,f]at e;rw[a,b]at g3;rw[d]at g;rw[a]at g2;rw[f];show((_,e,J),h _ e g3 g (_,dm _<|dm _<|dm _<|dm _ UC,J,J) (_,g2,J,J) λc o q=>dm _<|dm _<|dm _<|dm _<|dm _ q)
section
variable {prog:gz} {w:bS} {A:fA}
def SY(e:x.cps[i]?=Y c):Gives prog w A j U3 (λh=>h.IsStrIter j (kh x) x t JK) (λv=>∃u,v=.str ⟨#[c]⟩ u):=by
 intro s Q E st a;cases f:x.cps.all (·<128) with
 |false=>
  rw[show kh x="str_iterator" by simp[kh,f]]at st a;show wpAny_nextOf_wide_item st e λh' b d=>a _ h' (ZK+1) Qq b d
 |true=>
  rw[show kh x="str_ascii_iterator" by simp[kh,f]]at st a;show wpAny_nextOf_ascii_item st e λh' b d=>a _ h' (ZK+1) Qq b d
def aie(a:A.handled=O)(b:x.cps[i]?=O):uD prog w A j U3:=by
 intro s Q E st c;cases d:x.cps.all (·<128) with
 |false=>
  rw[show kh x="str_iterator" by simp[kh,d]]at st;show wpAny_nextOf_wide_end a st b c
 |true=>
  rw[show kh x="str_ascii_iterator" by simp[kh,d]]at st;show wpAny_nextOf_ascii_end a st b c
def aif(c:l≠j)(d:a[i]?=Y y):Gives prog w A j (λh=>h.IsListIter j l i/\h.IsList l a) (λh=>h.IsListIter j l JK/\h.IsList l a) (λv=>v=y):=λs Q E st e=>wpAny_nextOf_list_item st.1 st.2 d λh' f b=>e _ h' ZK J (f,st.2.extBut b.extBut c) b
def aih(a:A.handled=O)(b:c[i]?=O):uD prog w A j (λh=>h.IsListIter j l i/\h.IsList l c):=λs Q E st d=>wpAny_nextOf_list_end a st.1 st.2 b d
def AX:k_ [j] (λh=>h.IsStrIter j ty x t i):=λ_ _ (o,a,r) k=>(o,k j Jc o a,r)
def Kc:k_ [j,l] (λh=>h.IsListIter j l i/\h.IsList l a):=λb b st k=>(st.1.at λo e=>k j Jc o e,st.2.at λo e=>k l Jc o e)
end
def AY(K:bH)(z:Str)(b:ax):It:=
 (λi H=>∃(a:List V) (c:JD) (y:V),aq K H b a/\z.cps.toList[i]?=Y c/\a[i]?=Y y,
  λi H v d=>∃T c y,v=.ref T/\H T=O/\d=aA H T (.tup [.str ⟨#[c]⟩,y])/\z.cps.toList[i]?=Y c/\∀a,aq K H b a->a[i]?=Y y,
  λi H=>∃a:List V,aq K H b a/\(WT<=i\/a.9<=i))
def aii{K}(D:Zp z T S j k [j] [k,l])(lk:l≠k):
  qt P w K (.Tuple ag kk ai) (AY K x l) [z,T,S,j,k] z (λi h=>nX h z T S .none/\jt h T (.ref j) (.ref k)/\(∃a b,jt h S a b)/\h.IsStrIter j (kh x) x t i/\h.IsListIter k l i) where
 mem:=Jc
 obj:=λi h (B,r,(a,b,C),(o1,e1,_,d1),(o2,e2,_,d2)) c R=>by grind
 keep:=λi h h' (B,r,(a,b,C),F,L) f=>(f z Jc _ B,f T Jc _ r,(a,b,f S Jc _ C),AX _ _ F λc R o q=>f c (by ext) o q,L.at λo q=>f k Jc o q)
 item:=by
  intro X hP hw hK R i yq s σ H E n hf st hg;subst hP hw hK;let(B,r,(a,b,C),F,L):=st;let(ys,c,y,hq,ab,hy):=hg;let(ac,rv,p,_):=n.list hq;let(u,hu,ru):=rv.get hy;show aia D (SY<|by exists ab) (aif lk<|by exists hu) AX AX Kc Kc B r C F (L,p.isList) λxv yv h' tk px py z' O' j' k' hN hk=>?_
  let(t2,rfl):=px;subst py;let zl:=dF B;show(_,J,wpAny_letOwnedTupleGo_zip z' λh3 z3 N=>?_);let I1:Inv X yq σ (aA H Jd<|.tup [.str ⟨#[c]⟩,y]) {s with heap:=h3,toks:=tk}:=
   n.IW (λd o g q=>(N.2 d λe=>g<|by simp[e]).trans<|hk d o (λe=>g<|by simp[e]) (λe=>g<|by simp[e]) (λe=>g<|by simp[e]) (λe=>g<|by simp[e]) q) hf JR ((by change 2<=cz;decide,[.str ⟨#[c]⟩ t2,yv],.cons Qq<|.cons ru .nil,(_,(N.2 _<|vL zl).trans hN,J,_,J)))
  show(.ref Jd,_,I1,J,(_,c,y,J,n.bo.fresh JR,J,ab,λm hm=>by rw[n.DI hm hq];show hy),(z3,(N.2 _ D.Tz).trans<|hk _ _ D.Tz D.TO D.Tj D.Tk r,(.str ⟨#[c]⟩ t2,yv,(N.2 _ D.Oz).trans O'),AX _ _ j' λe he o q=>(N.2 e λq2=>D.jz<|by rw[<-q2,fZ.1 he]).trans q,k'.1.at λo q=>(N.2 _ D.kz).trans q),λd hd=>?_);haveI dl:d<s.heap.objs.12:=by
   rcases (by exists hd) with q|q|q|q|q<;>rw[q]
   .show zl
   .show dF r
   .show dF C
   .show dF F.choose_spec.1
   show dF L.choose_spec.1
  rw[aJ<|iw dl];show (hf d hd).1
 done:=by
  intro X hP hw hK R i yq s σ H E n hf st hg;subst hP hw hK;let(B,r,(a,b,C),F,L):=st;let(ys,hq,ae):=hg;let(ac,rv,p,_):=n.list hq;let l1:=rv.9;haveI af:uD UG X.w X.A.in1 j U3\/(Gives UG X.w X.A.in1 j U3 (λh=>h.IsStrIter j (kh x) x t JK) (λv=>∃u,v=.str ⟨#[x.cps[i]?.getD 0]⟩ u)/\uD UG X.w X.A.in1 k (λh=>h.IsListIter k l i/\h.IsList l ac.toArray)):=by
   cases hx:x.cps[i]? with
   |none=>show .inl<|aie (n.ok.hd R) hx
   |some c=>
    haveI:ys.9<=i:=by
     rcases ae with q|q
     .rw[CU]at q;rw[asG q]at hx;cases hx
     show q
    show .inr (SY hx,aih (n.ok.hd R) (by simp;lia))
  show aib D af AX Kc B r C F (L,p.isList) λh' tk hk=>(J,n.ahR (λd o g q=>hk d o (λe=>g<|by simp[e]) (λe=>g<|by simp[e]) (λe=>g<|by simp[e]) (λe=>g<|by simp[e]) q) hf)
 self:=λA i s Q E st h=>au0 st.1 h
def AZ(K:bH)(c:TA):TI:=λd H R=>c d H λvs a=>∃z b e,vs=[.str z,.ref b]/\aq K a b e/\R (AY K z b) a
def aij{p pos m n o}(v:X.mg "zip"=O)(w:PA X [e,d] x)(y:autoParam (Gl X "zip") a')(A:autoParam (bB [e,d] Jr=JM::bB [d] X.env) a')(hpl:autoParam ((fI pos<|bB [d] Jr).any (·.1)=au) a'):
  PI X (.Tuple n o m) (.Call (.Name "zip" p) [e,d] [] pos) (AZ U2 x):=by
 show λyq s B H R i h=>Au<|rY i y v ahX<|zM (bF (w pos yq s B H _ i h) fun us a (vs,C,f,r1,z,b,ys,ex,E,q)=>?_) A hpl
 subst ex;cases r1 with
 |cons r F=>
  let(t,rfl):=r;let(u,rfl,L):=vals1 F;cases L;let(ab,rv,j,_):=f.list E;let g:=j.lt;haveI D:Zp (JG+4) (JG+2) (JG+3) JG (JG+1) [JG] [JG+1,b]:=by
   constructor<;>first|(apply iw;lia)|(apply vL;lia)|(simp;try (intro q;rw[<-q]at g;show absurd g Jc))
  show aid j.isList λh' k N P Q S T=>au0 k (JG+4,[JG+4,JG+2,JG+3,JG,JG+1],_,_,C,J,f.kept T,aii D<|iw<|Pe g,(k,N,(_,_,P),Q,S),λc hc=>?_,q)
  haveI l:JG<=c:=by
   rcases (by exists hc) with q|q|q|q|q<;>rw[q]<;>first|show aui _ _|show bf _
  show f.ur l<|f.bo.fresh l
def TabAt P w(K:bH) a(b:List QD):=∃o vs,K.lookup a=Y o/\o.IsDictOf (x_ P w) vs/\KV (b.map λx=>((ud x.1:jT),(x.2))) vs
def S2(c:List QD)(a:ax)(d e:TE):TE:=λb H Q=>d b H λx f=>e b f λy g=>∃k v,x=.ref a/\y=.str k/\c.lookup k=Y v/\Q v g
theorem S4:∀{a:List QD},a.lookup k=Y v->uz (a.map λx=>((ud x.1:jT),(x.2))) (.inr k)=Y v
 |[],h=>by cases h
 |(x,u)::r,h=>by
  rw[p9]at h;delta uz;rw[hY,afb];cases e:k=x
  .ext
  rw[show (k==x)=au from auY.2 e]at h;rw[iK λq=>e (Sum.inr.inj q).3];show S4 h
def aik(h:TabAt UG X.w U2 a f)(g:PE X c j)(hi:PE X i l)(m:autoParam (SS i) i'):PE X (.Subscript c i pos) (S2 f a j l):=by
 show λyq s b H Q n p=>ahP PySem.F.slot_dict_getitem.lookup m<|bF (g yq s b H _ n p) fun u r (x,t,v,w,A)=>bF (hi yq r b t _ v A) fun S T (y,B,d,C,k,D,ex,E,F,q)=>?_
 subst ex;subst E;obtain rfl:u=eZ a:=w;let(o,vs,L,N,rel):=h;let e:=Heap.dictOf_iff.2 (o,d.ju _ _ L,N);let(z,P,R):=nY.some_of (by rw[<-S4 F];show KV.val rel _);show(e.typeIs,wpAny_getItem_of (ahO (k:=.inr k) C) e.mapOf P (D,B,d.tok _,R,q))
def S5(C:ax)(c:TE)(f:Str):TE:=λd H Q=>c d H λx b=>∃a e fs v,x=.ref a/\b a=Y (.ins C e fs)/\fs.lookup f=Y v/\Q v b
def S6(C:ax)(e g:TE)(f:Str):TS:=λD b H=>g b H λy h=>e b h λx c=>∃a d fs,x=.ref a/\c a=Y (.ins C d fs)/\fs.9<WN/\
 D.nx b (aA c a<|.ins C d<|bD f y fs)
def Kd(C:ax)(e g:TE)(h:V->V->Hp->VK->Prop)(f:Str):TS:=λD b H=>e b H λx c=>∃a i fs v,x=.ref a/\c a=Y (.ins C i fs)/\fs.lookup f=Y v/\
 g b c λy j=>h v y j λz d=>∃dx' fs',d a=Y (.ins C dx' fs')/\fs'.9<WN/\D.nx b (aA d a<|.ins C dx'<|bD f z fs')
structure we(K:bH)(C:ax)(a:Zg):Prop where
 cl:jX K C
 na:∀f∈a,r9 K C f
section
variable {X:Cx} {C:ax} {fl:List Str} {o e value:dj} {f:Str} {pos pos' tpos:Pos} {ta tv:TE}
def ail(c:we U2 C fl)(b:f∈fl)(he:PE X e ta)(d:autoParam (vK e f Jr (bC e Jr)=bC e X.env) a'):PE X (.Attribute e f pos) (S5 C ta f):=by
 show λyq s g H Q i h=>R_ d<|bF (he yq s g H _ i h) fun u t (x,j,k,m,a,w,fs,v,ex,n,l,q)=>?_
 subst ex;obtain rfl:u=eZ a:=m;show Iy k n c.cl (c.na f b) l λy z p r=>(v,j,p,r,q)
def aim(c:we U2 C fl)(d:f∈fl)(g:PE X o ta)(i:PE X value tv)(j:autoParam (vN value (Y<|.Attribute o f pos') Yd Jr=pure au) a'):PS X (.Assign [.Attribute o f pos'] value pos) (S6 C ta tv f):=by
 show λyq s b H D k h=>plainObj_wpAny_Assign_Attribute (bF (i yq s b H _ k h) fun u m (y,n,p,r,q)=>bF (g yq m b n _ p q) fun t E (x,F,v,w,a,L,fs,ex,z,l,A)=>?_) j
 subst ex;obtain rfl:t=eZ a:=w;show R9 v z c.cl (c.na f d) l r λN B=>(b,_,B,A)
def ain(c:we U2 C fl)(d:f∈fl)(g:PE X o ta)(i:PE X value tv)(j:Sa X op k):PS X (.AugAssign (.Attribute o f tpos) op value pos) (Kd C ta tv k f):=by
 show λyq s b H D m h=>wpAny_AugAssign_AttributeAny<|bF (g yq s b H _ m h) fun n s1 (x,p,r,t,a,dx,fs,v,ex,w,l,q)=>?_
 subst ex;obtain rfl:n=eZ a:=t;show Iy r w c.cl (c.na f d) l λu A B E=>bF (i yq A b p _ B q) λF L (y,N,P,Q,R)=>bF (j yq L b N v y u F _ P E Q R) λw4 s4 (z,H3,S,T,dx',fs',ab,l',q4)=>R9 S ab c.cl (c.na f d) l' T λs5 I5=>(b,_,I5,q4)
end
def log2_lt(h:n<2^k)(b:0<k):n.log2<k:=by
 rcases atz n with c|a
 .ext
 show (avf<|vL a).2 h
def S7(h:k.5<2^4000):Builtin.Int.intBits k<=4000:=by
 delta Builtin.Int.intBits;split
 .ext
 let:=log2_lt h Jc;lia
def aio(hi:i.5<2^4000)(a:j.5<2^4000):IntMulOk i j:=av4 (S7 hi) (S7 a) Jc
def gd(i j:JH):=i.5<2^4000/\j.5<2^4000
def uE(a j:JH):=0<j/\j<2^4000
section
variable {X:Cx}
def aip:dD X (mX .Mult) (rI gd λi j=>.int<|i*j):=gD λb b b b b b b a q=>mul_int q<|aio a.1 a.2
def aiq:dD X (mX .FloorDiv) (rI uE λi j=>.int<|i / j):=gD λi j d d d d d a q=>by
 show floordiv_int (by let:=a.1;omega) ?_<|.inl<|PyProof.noPylong_of_log2 ?_
 .rw[asq _<|ja a.1];show q
 let c:=a.1;let b:j.5<2^4000:=by let:=a.2;omega
 let:=log2_lt b Je;lia
end
section
variable {X:Cx} {pos:Pos}
def iB i(a:Qz)(hi:autoParam (X.N[i]?=Y x) a')(b:autoParam (Loc Zb x) n')(c:autoParam (X.fn x=I\/X.env.scope.names.lookup x=Y .local) n'):PG X Z9 (aC i):=agw a hi b c
def ij i{a}(b:Qz)(he:PE X e c)(hi:autoParam (X.N[i]?=Y x) a')(d:autoParam (Loc Zb x) n')(f:autoParam (vN e (Y<|.Name x a) Yd Jr=pure au) a')
  (g:autoParam (X.fn x=I\/X.env.scope.names.lookup x=Y .local) n'):PS X (.Assign [.Name x a] e pos) (aP c<|aC i):=agA b hi d he f g
def air i{a}(b:Qz)(he:PE X e c)(hi:autoParam (X.N[i]?=Y x) a')(d:autoParam (Loc Zb x) n')
  (f:autoParam (X.fn x=I\/X.env.scope.names.lookup x=Y .local) n'):PS X (.AugAssign (.Name x a) .Add e pos) (n8 i c U1):=agB b hi d he agC f
def Ke i{y py d}(e:Qz)(hi:PI X b iter f)(ok:WC)
  (h:∀s H C cl a,PG J1 b g) (j:∀s H C cl a,wb J1 l m)
  (he:∀s H C cl a,PE J1 o p) (q:autoParam (own.map (·.2)=vs) a') (r:autoParam (∀x,xG iter Jr x=pure x) i')
  (t:autoParam (X.calm=I) a') (u:autoParam (X.N[i]?=Y y) a') (c:autoParam (X.env.scope.names.lookup y=Y .local) a') (v:autoParam (X.env.scope.kind=.function) a') (w:autoParam ((py.line==Yd)=I) a')
  (z:(scope.names.any fun(n,k)=>n==y&&(k==.local||k==.cell))=au:=by decide +kernel):
  PS X (.Assign [.Name y py] (.ListComp o [(b,iter,l,0)] scope pos) d) (aP (jy f g m p vs)<|aC i):=by
 subst q;show ahI t e u c (ahJ v c w z) hi ok h j he r
def wg{x:Str}{i:JH}(h:∃t,X.mg x=Y (.int i t))(a:autoParam (Gl X x) a')(hd:autoParam ((x==("__debug__":Str))=au) b'):PE X Z9 (tC WD):=by let(t,h):=h;show Rz a h (t,J) hd
def Kf(h:X.mg x=Y Jy)(b:autoParam (Gl X x) a')(hd:autoParam (QM=au) b'):PE X Z9 (tC Jy):=Rz b h J hd
end
def boot_abs:nV "abs"=Y (.builtin "abs"):=by rfl
def boot_min:nV "min"=Y (.builtin "min"):=by rfl
def boot_max:nV "max"=Y (.builtin "max"):=by rfl
def boot_ord:nV "ord"=Y (.builtin "ord"):=by rfl
def boot_str:nV "str"=Y (.type "str"):=by rfl
def boot_list:nV "list"=Y J2:=by rfl
def boot_tuple:nV "tuple"=Y QP:=by rfl
abbrev ais(K:bH):List V->Hp->VK->Prop:=λxs H Q=>∃p a,xs=[.ref p]/\(aq K H p a\/bR K H p a)/\Q (.int a.9) H
abbrev S8:List V->Hp->VK->Prop:=λxs H Q=>∃z,xs=[.str z]/\z.9<=cz/\Q (.int z.9) H
abbrev S9:List V->Hp->VK->Prop:=λxs H Q=>∃i,xs=[.int i]/\Q (.int<|if i<0 then -i else i) H
abbrev S_:List V->Hp->VK->Prop:=λxs H Q=>∃i j,xs=[.int i,.int j]/\Q (.int<|if j<i then j else i) H
abbrev Ta:List V->Hp->VK->Prop:=λxs H Q=>∃i,xs=[.int i]/\i.natAbs.log2<1920/\Q (.str Y4) H
abbrev Tc:List V->Hp->VK->Prop:=λxs H Q=>∃x,xs=[.str x]/\x.9=1/\Q (.int (x.cps.getD 0 0:Nat)) H
abbrev Kg(K:bH):List V->Hp->VK->Prop:=λxs H Q=>∃p a,xs=[.ref p]/\(aq K H p a\/bR K H p a)/\∀l,H l=O->Q (.ref l) (aA H l Yx)
abbrev Td(K:bH):List V->Hp->VK->Prop:=λxs H Q=>∃p a,xs=[.ref p]/\((aq K H p a/\∀l,H l=O->Q (.ref l) (aA H l<|.tup a))\/(bR K H p a/\Q JS H))
section
variable {X:Cx} {e e2:dj} {t:TA} {p pos:Pos}
def ait(a:X.mg "len"=O)(b:PA X [e] t)(c:autoParam (Gl X "len") a')(he:autoParam (bB [e] Jr=JM::bB [] X.env) a'):PE X (.Call (.Name "len" p) [e] [] pos) (bA S8 t):=v7 ahn c a at8 b (he:=he)
def Te(a:X.mg "abs"=O)(b:PA X [e] t)(c:autoParam (Gl X "abs") a')(he:autoParam (bB [e] Jr=JM::bB [] X.env) a'):PE X (.Call (.Name "abs" p) [e] [] pos) (bA S9 t):=v7 agL c a boot_abs b (he:=he)
def aiu(a:X.mg "min"=O)(b:PA X [e,e2] t)(c:autoParam (Gl X "min") a')(d:autoParam (X.calm=I) a')(he:autoParam (bB [e,e2] Jr=JM::bB [e2] X.env) a')(hpl:autoParam ((fI pos<|bB [e2] Jr).any (·.1)=au) a'):PE X (.Call (.Name "min" p) [e,e2] [] pos) (bA S_ t):=v7 (agM d) c a boot_min b (he:=he) (hpl:=hpl)
def aiv(a:X.mg "max"=O)(b:PA X [e] t)(c:autoParam (Gl X "max") a')(d:autoParam (X.calm=I) a')(he:autoParam (bB [e] Jr=JM::bB [] X.env) a'):PE X (.Call (.Name "max" p) [e] [] pos) (bA (yk U2) t):=v7 (ahx d) c a boot_max b (he:=he)
def aiw(a:X.mg "min"=O)(b:PA X [e] t)(c:autoParam (Gl X "min") a')(d:autoParam (X.calm=I) a')(he:autoParam (bB [e] Jr=JM::bB [] X.env) a'):PE X (.Call (.Name "min" p) [e] [] pos) (bA (AO U2) t):=v7 (ahy d) c a boot_min b (he:=he)
def Tf(a:X.mg "str"=O)(b:PA X [e] t)(c:autoParam (Gl X "str") a')(he:autoParam (bB [e] Jr=JM::bB [] X.env) a'):PE X (.Call (.Name "str" p) [e] [] pos) (bA Ta t):=IB agN c a boot_str b (he:=he)
def Tg(a:X.mg "ord"=O)(b:PA X [e] t)(c:autoParam (Gl X "ord") a')(he:autoParam (bB [e] Jr=JM::bB [] X.env) a'):PE X (.Call (.Name "ord" p) [e] [] pos) (bA Tc t):=v7 agO c a boot_ord b (he:=he)
def Kh(a:X.mg "list"=O)(b:PA X [e] t)(c:autoParam (Gl X "list") a')(he:autoParam (bB [e] Jr=JM::bB [] X.env) a'):PE X (.Call (.Name "list" p) [e] [] pos) (bA (Kg U2) t):=IB aho c a boot_list b (he:=he)
def aix(a:X.mg "tuple"=O)(b:PA X [e] t)(c:autoParam (Gl X "tuple") a')(he:autoParam (bB [e] Jr=JM::bB [] X.env) a'):PE X (.Call (.Name "tuple" p) [e] [] pos) (bA (Td U2) t):=IB ahp c a boot_tuple b (he:=he)
variable {o:dj} {to:TE} {apos cpos:Pos}
end
section
variable {X:Cx} {tg:dj}
def wj{p pos}(b:X.mg "range"=O)(c:PA X [a] d)(e:autoParam (Gl X "range") a')(f:autoParam (bB [a] Jr=[(au,(bC a Jr))]) a'):PI X tg (.Call (.Name "range" p) [a] [] pos) (kZ d):=agG e b c f
def Th{p pos}(c:X.mg "range"=O)(d:PA X [a,b] e)(f:autoParam (Gl X "range") a')(g:autoParam (bB [a,b] Jr=[(au,(bC a Jr)),(au,(bC b Jr))]) a')(h:autoParam (bB [b] Jr=[(au,(bC b Jr))]) a'):PI X tg (.Call (.Name "range" p) [a,b] [] pos) (AH e):=agH f c d g h
def aiy{p pos}(a:X.mg "reversed"=O)(b:PA X [e] c)(d:autoParam (Gl X "reversed") a')(f:autoParam (bB [e] Jr=[JM]) a'):PI X tg (.Call (.Name "reversed" p) [e] [] pos) (D7 U2 c):=ahU d a b f
def Ti{p pos a b c}(d:X.mg "enumerate"=O)(f:PA X [e] g)(h:autoParam (Gl X "enumerate") a')(i:autoParam (bB [e] Jr=[JM]) a'):PI X (.Tuple b c a) Yq (jc U2 g):=ahW h d f i
def qE{pos}(b:Qz)(hi:PI X tg iter c)(ok:WC)
  (d:∀s H C cl a,PG J1 tg g) (e:∀s H C cl a,wb J1 f h)
  (he:∀s H C cl a,PE J1 i j) (k:autoParam (own.map (·.2)=vs) a') (l:autoParam (X.calm=I) a') (m:autoParam (∀x,xG iter Jr x=pure x) i'):
  PE X (.ListComp i [(tg,iter,f,0)] scope pos) (jy c g h j vs):=by
 subst k;show ahH l b hi ok d e he m
end
def To(b c:TE):TE:=λa H Q=>b a H λx d=>∃i,x=.int i/\i.natAbs.log2<1920/\c a d λy e=>∃j,y=.int j/\j.natAbs.log2<1920/\Q (.str<|aZ Y4++aZ "/"++aZ (toString j)) e
section
variable {X:Cx}
def Ec{i:JH}(h:i.natAbs.log2<1920):(aZ Y4).9<=4000:=by let e:=int_text_length_le Jc h;rw[PySem.ofString_length];lia
def aiz x:Rh++x=x:=by
 change Str.mk (#[]++x.cps)=x
 simp
def aiA(m:PE X a n)(o:PE X b p):
  PE X (.JoinedStr [.FormattedValue a (-1) O C,.Constant (.str "/") k D,.FormattedValue b (-1) O E] pos) (To n p):=by
 show λyq s e H Q q h=>JoinedStr_many<|afD<|aud<|bF (m yq s e H _ q h) fun v f (x,r,u,r1,c)=>?_
 let(i,rfl,hi,c):=c;let(t,rfl):=r1;let li:=Ec hi;apply atV hi;change (Rh++aZ Y4).9<=cz/\_
 rw[aiz];show(by rw[cP];lia,afD<|atb ?_);let F:(aZ "/").9=1:=Je
 show(by rw[HC,cP];omega,?_);let w:=(u.tok<|f.toks+1+1).tok<|f.toks+1+1+1;show afD<|aud<|bF (o yq _ e r _ w c) fun v L (y,z,A,B,d)=>?_;let(j,rfl,g,d):=d;let(t',rfl):=B;let N:=Ec g;apply atV g;change (aZ Y4++aZ "/"++aZ (toString j)).9<=cz/\_
 haveI l:(aZ Y4++aZ "/"++aZ (toString j)).9<=cz:=by rw[HC,HC,cP];omega
 show(l,joinParts_nil ?_ l);show(.str _,z,(A.tok _).tok _,Qq,d)
end
def qF(g:G)(k:JD)(b:TE)(t:TA):TE:=λa H Q=>b a H λx c=>∃f ps q,x=.ref f/\qC g k f ps q/\t a c λvs d=>vs.9=ps.9/\q vs d Q
def aiB{pos}(l:cQ k Yp)(m:PE X (.Subscript c i b) n)(o:PA X (e::a) t)
  (he:autoParam (bB (e::a) Jr=JM::bB a X.env) a') (hpl:autoParam ((fI pos<|bB a Jr).any (·.1)=au) a')
  (p:autoParam (bC (.Call (.Subscript c i b) (e::a) [] pos) Jr=(do xW pos (<-bC (.Subscript c i b) Jr) [] (fI pos<|bB (e::a) Jr) UR)) a'):
  PE X (.Call (.Subscript c i b) (e::a) [] pos) (qF (mh X) k n t):=by
 show λyq s d H Q g h=>Au (bF (m yq s d H _ g h) fun u v (x,w,y,r1,f,ps,q,ex,(fd,z,A,F),B)=>?_) p
 subst ex;obtain rfl:u=eZ f:=r1;show Hc (h₀:=YC) g.ok.mod.rX z (bF (o pos yq v d w _ y B) λD E (vs,L,j,r,C)=>(j.ju,DV F l A .nil ym j r (by rw[iu];show C))) he hpl
def qG:List Int->List Int->Bool|[],[]=>I|[],b::c=>au|b::c,[]=>I|x::xs,y::a=>if x=y then qG xs a else decide (y<=x)
def yo(K:bH):R2:=λx y H Q=>∃a b ns ms,x=.ref a/\y=.ref b/\bR K H a Qt/\bR K H b (ms.map V.int)/\Q (.bl<|HT.lexLt ms ns) H
def yp(K:bH):R2:=λx y H Q=>∃a b ns ms,x=.ref a/\y=.ref b/\bR K H a Qt/\bR K H b (ms.map V.int)/\Q (.bl<|qG ns ms) H
section
open PySem.SeqAt
open PySem.AutoSeq1 (wpAny_loadPart')
open PySem.MeetsSeq PySem.MeetsSeq2 PySem.MeetsSeq3
def aiC l b(items j:Array aO)(n N:JD)(P S:YT)(T X:Array Z2)(ns ms:Jw)(hi:e9 Wf ns)(F:e9 j.toList ms):
  As (uf.«tuple.__gt__» ([.ref l,.ref b],[]))
   (λK R s=>s.heap.get? l=Y {cls:=QP,dict:=P,data:=.seq items n,slots:=T}/\s.heap.get? b=Y {cls:=QP,dict:=S,data:=.seq j N,slots:=X}/\
    R (.ok<|.ret<|.bool<|HT.lexLt ms ns) s):=
 .of_wp λprog w A R s h=>by
  let(k,g,d,m,os):=s;let(hl,hb,h):=h;let f2:=aey;let z1:items.12=ns.9:=by rw[<-hi.9];simp
  let z2:j.12=ms.9:=by rw[<-F.9];simp
  wp_walk using i_ hl,i_ hb,afp _ (λrest b B=>b.1=O/\B=Uh/\∃(vs v:List aO) (o p:Jw),rest=vs.zip v/\
   e9 vs o/\e9 v p/\o.9+j.12=p.9+items.12/\R (.ok<|.ret<|.bool<|HT.lexLt p o) Uh) _
  case turn=>
   intro(y,x) rest b B (C,rfl,vs,v,o,p,f,D,z,r,i);cases D with
   |nil=>rw[aeY]at f;cases f
   |cons a t ab=>
    cases z with
    |nil=>rw[j9]at f;cases f
    |cons c u ac=>
     rw[jn]at f;injection f with ae af
     injection ae with hy hx
     subst hy hx;rw[HT.IC]at i;erw[gm]at r;let(e,he,H):=HT.DW A.in1 Uh a t c u;show bg<|he prog w _ _ ?_;cases e with
     |true=>
      rw[ak (H.1 J).3]at i;wp_walk;show(J,J,_,_,_,_,af,ab,ac,JE,i)
     |false=>
      rw[aj λq=>absurd (H.2 q.3) gZ]at i;let ag:∀(E:aO->bc->Prop) (Q:aO->bc->Prop),Q (.bool<|decide<|c<a) Uh->bj JB A.in1 (afR .Gt (.int a t)<|.int c u) Q E Uh:=
       λE Q h=>(auE h:bj JB A.in1 (gJ .Gt (.int a t)<|.int c u) Q E Uh)
      wp_walk using ag;show(_,J,by exists i)
  case fin=>
   intro(b1,b2) B (C,rfl,vs,v,o,p,f,D,z,r,i);simp only at C;subst C;let L:HT.lexLt p o=decide (j.12<items.12):=by
    cases D with
    |nil=>
     cases z with
     |nil=>
      erw[rJ]at r;rw[HT.Sl];show (iK JE).3
     |cons c u hw=>
      erw[rJ,gm]at r;rw[HT.So];show (iK JE).3
    |cons a t L=>
     cases z with
     |nil=>
      erw[rJ,gm]at r;rw[HT.Sn];show (cn JE).3
     |cons c u hw=>
      rw[jn]at f;cases f
   rw[L]at i;wp_walk;show(_,J,by simpa [aeP] using i)
  case h=>
   show(J,J,Wf,j.toList,ns,ms,J,hi,F,JE,h)
def aiD x y xs a:qG (x::xs) (y::a)=if x=y then qG xs a else decide (y<=x):=J
def aiE l b(items j:Array aO)(n N:JD)(P S:YT)(T X:Array Z2)(ns ms:Jw)(hi:e9 Wf ns)(F:e9 j.toList ms):
  As (uf.«tuple.__ge__» ([.ref l,.ref b],[]))
   (λK R s=>s.heap.get? l=Y {cls:=QP,dict:=P,data:=.seq items n,slots:=T}/\s.heap.get? b=Y {cls:=QP,dict:=S,data:=.seq j N,slots:=X}/\
    R (.ok<|.ret<|.bool<|qG ns ms) s):=
 .of_wp λprog w A R s h=>by
  let(k,g,d,m,os):=s;let(hl,hb,h):=h;let f2:=aey;haveI z1:items.12=ns.9:=by rw[<-hi.9];simp
  haveI z2:j.12=ms.9:=by rw[<-F.9];simp
  wp_walk using i_ hl,i_ hb,afp _ (λrest b B=>b.1=O/\B=Uh/\∃(vs v:List aO) (o p:Jw),rest=vs.zip v/\
   e9 vs o/\e9 v p/\o.9+j.12=p.9+items.12/\R (.ok<|.ret<|.bool<|qG o p) Uh) _
  case turn=>
   intro(y,x) rest b B (C,rfl,vs,v,o,p,f,D,z,r,i);cases D with
   |nil=>rw[aeY]at f;cases f
   |cons a t ab=>
    cases z with
    |nil=>rw[j9]at f;cases f
    |cons c u ac=>
     rw[jn]at f;injection f with ae af
     injection ae with hy hx
     subst hy hx;rw[aiD]at i;erw[gm]at r;let(e,he,H):=HT.DW A.in1 Uh a t c u;show bg<|he prog w _ _ ?_;cases e with
     |true=>
      rw[ak<|H.1 J]at i;wp_walk;show(J,J,_,_,_,_,af,ab,ac,JE,i)
     |false=>
      rw[aj λq=>absurd (H.2 q) gZ]at i;let ag:∀(E:aO->bc->Prop) (Q:aO->bc->Prop),Q (.bool<|decide<|c<=a) Uh->bj JB A.in1 (afR .GtE (.int a t)<|.int c u) Q E Uh:=
       λE Q h=>(auF h:bj JB A.in1 (gJ .GtE (.int a t)<|.int c u) Q E Uh)
      wp_walk using ag;show(_,J,by exists i)
  case fin=>
   intro(b1,b2) B (C,rfl,vs,v,o,p,f,D,z,r,i);simp only at C;subst C;haveI L:qG o p=decide (j.12<=items.12):=by
    cases D with
    |nil=>
     cases z with
     |nil=>
      erw[rJ]at r;change I=_
      show (cn JE).3
     |cons c u hw=>
      erw[rJ,gm]at r;change au=_
      show (iK JE).3
    |cons a t L=>
     cases z with
     |nil=>
      erw[rJ,gm]at r;change I=_
      show (cn JE).3
     |cons c u hw=>
      rw[jn]at f;cases f
   rw[L]at i;wp_walk;show(_,J,by simpa [aeP] using i)
  case h=>
   show(J,J,Wf,j.toList,ns,ms,J,hi,F,JE,h)
end
section
variable {X:Cx}
def aiF(f:X.A.units<ki):dD X (gJ .Gt) (yo U2):=by
 intro yq s C H x y v u Q c g h (a,b,ns,ms,rfl,rfl,i,j,q);cases g;cases h;let(D,r1,k,_):=c.tuple i;let(E,l,m,_):=c.tuple j;let((cls,o,data,p),d,r,n,hd):=id k;let((F,t,data2,w),e,z,A,B):=id m;ext;subst r hd z B;show O0 (op:=.Gt) (_,d,J) (_,e,J) PySem.F.slot_tuple_gt PySem.F.entry_tuple_gt (PySem.F.args_tuple_gt_2 _ _) (aiC a b _ _ n A o t p w ns ms (intsAre_of r1)<|intsAre_of l)
  (d,e,(λx=>nomatch x),(.bl<|HT.lexLt ms ns,H,c,J,q)) f
def aiG(f:X.A.units<ki):dD X (gJ .GtE) (yp U2):=by
 intro yq s C H x y v u Q c g h (a,b,ns,ms,rfl,rfl,i,j,q);cases g;cases h;let(D,r1,k,_):=c.tuple i;let(E,l,m,_):=c.tuple j;let((cls,o,data,p),d,r,n,hd):=id k;let((F,t,data2,w),e,z,A,B):=id m;ext;subst r hd z B;show O0 (op:=.GtE) (_,d,J) (_,e,J) PySem.F.slot_tuple_ge PySem.F.entry_tuple_ge (PySem.F.args_tuple_ge_2 _ _) (aiE a b _ _ n A o t p w ns ms (intsAre_of r1)<|intsAre_of l)
  (d,e,(λx=>nomatch x),(.bl<|qG ns ms,H,c,J,q)) f
end
def yr{b:Type}{P:List b->Prop}(h:∀a,P [a]):∀c:List b,c.9=1->P c|[a],d=>h a
def mi{c:Type}{P:List c->Prop}(h:∀a b,P [a,b]):∀d:List c,d.9=2->P d|[a,b],e=>h a b
def Ki{d:Type}{P:List d->Prop}(h:∀a b c,P [a,b,c]):∀e:List d,e.9=3->P e|[a,b,c],f=>h a b c
def aiH{e:Type}{P:List e->Prop}(h:∀a b c d,P [a,b,c,d]):∀f:List e,f.9=4->P f|[a,b,c,d],g=>h a b c d
def A0{d:Type}{l:List d} h:=Ki (P:=λl=>∃a b c,l=[a,b,c]) (λa b c=>(a,b,c,J)) l h
def aiI{e:Type}{l:List e} h:=aiH (P:=λl=>∃a b c d,l=[a,b,c,d]) (λa b c d=>(a,b,c,d,J)) l h
def uF{c A B:Prop}[Decidable c](a:c)(h:A):if c then A else B:=by ext
def wm{c A B:Prop}[Decidable c](a:¬c)(h:B):if c then A else B:=by ext
abbrev eC(i j:JH):V:=.int<|i+j
abbrev fC(i j:JH):V:=.int<|i-j
abbrev gv(i j:JH):V:=.int<|i*j
abbrev wo(i j:JH):V:=.int<|i / j
abbrev Tr(i j:JH):V:=.int<|i % j
abbrev dE(i j:JH):V:=.bl<|decide<|i<j
abbrev Kj(i j:JH):V:=.bl<|decide<|i<=j
abbrev jA(i j:JH):V:=.bl<|decide<|j<i
abbrev kq(i j:JH):V:=.bl<|decide<|j<=i
abbrev A2(i:JH):V:=.int<|-i
abbrev Tt(_ j:JH):=0<j
@[reducible] def A_(o:Option<|Option V)(H:Hp)(Q:VK):Prop:=match o with|some (Y v)=>Q v H|a=>False
@[reducible] def Tu(o:Option V)(H:Hp)(Q:VK):Prop:=match o with|some v=>Q v H|none=>False
@[reducible] def Ed(x:V)(k:Bool->Prop):Prop:=match x with|.bl c=>k c|a=>False
@[reducible] def qH(x:V)(k:Int->Prop):Prop:=match x with|.int c=>k c|a=>False
@[reducible] def oo(x:V)(k:ax->Prop):Prop:=match x with|.ref c=>k c|a=>False
@[reducible] def oneAt(xs:Ju)(k:V->Prop):Prop:=match xs with|[y]=>k y|a=>False
@[reducible] def wq{a:Type}:Nat->List a->Prop->Prop|0,[],P=>P|n+1,b::xs,P=>wq n xs P|b,c,d=>False
@[reducible] def Ee{a:Type}:Nat->List a->Prop->Prop|b,[],P=>P|n+1,b::xs,P=>Ee n xs P|0,b::c,d=>False
@[reducible] def Tv(o:Option V)(P:Prop):Prop:=match o with|none=>P|some a=>False
@[reducible] def Kk(b:Bool)(P:Prop):Prop:=match b with|true=>P|false=>False
def aiJ(o H Q):A_ o H Q=∃v,o=Y (Y v)/\Q v H:=by
 match o with
 |some (Y v)=>simp
 |some O=>simp
 |none=>simp
def aiK(o H Q):Tu o H Q=∃v,o=Y v/\Q v H:=by cases o<;>simp
def Ef(x k):Ed x k=∃c,x=.bl c/\k c:=by cases x<;>simp
def Ba(x k):qH x k=∃c,x=.int c/\k c:=by cases x<;>simp
def Eg(x k):oo x k=∃c,x=.ref c/\k c:=by cases x<;>simp
def Tw(o P):Tv o P=(o=O/\P):=by cases o<;>simp
def Tx(b P):Kk b P=(b=I/\P):=by cases b<;>simp
def aiL(xs k):oneAt xs k=∃y,xs=[y]/\k y:=by
 match xs with
 |[]=>simp
 |[y]=>simp
 |a::b::c=>simp
theorem Kl(P):∀(n) (xs:List a),wq n xs P=(xs.9=n/\P)|0,[]=>by simp[wq]|0,b::c=>by simp[wq]|b+1,[]=>by simp[wq]|n+1,b::xs=>by simp[Kl P n xs]
theorem Eh:∀{n}{xs:List a},Ee n xs P->xs.9<=n/\P|0,[],h=>(eX _,h)|n+1,[],h=>(eX _,h)|n+1,b::xs,h=>(Nat.succ_le_succ (Eh (xs:=xs) h).1,(Eh (xs:=xs) h).2)
abbrev Z(i:JD):TE:=λa H Q=>A_ a[i]? H Q
abbrev kB(Q:BK) x H:=Ed x λc=>Q c H
abbrev tB(t:TE):TT:=λa H Q=>t a H<|kB Q
abbrev aY(t:TE):TT:=λa H Q=>t a H<|kB Q
abbrev aiM(u:TE) a Q x H:=Ed x λc=>if c=I then u a H Q else Q (.bl au) H
abbrev uo(t u:TE):TE:=λa H Q=>t a H<|aiM u a Q
abbrev aiN(u:TE) a Q x H:=Ed x λc=>if c=I then Q (.bl I) H else u a H Q
abbrev vU(t u:TE):TE:=λa H Q=>t a H<|aiN u a Q
abbrev rI(C:Int->Int->Prop)(g:Int->Int->V):R2:=λx y H Q=>qH x λi=>qH y λj=>C i j/\Q (g i j) H
abbrev aR(g:Int->Int->V):R2:=λx y H Q=>qH x λi=>qH y λj=>Q (g i j) H
abbrev rU(g:Int->V):V->Hp->VK->Prop:=λx H Q=>qH x λi=>Q (g i) H
abbrev dR:R2:=λx y H Q=>Kk (DN x y)<|Q (.bl<|decide<|x=y) H
abbrev iS:R2:=λx y H Q=>Kk (DN x y)<|Q (.bl<|!decide (x=y)) H
abbrev aiO(Q:VK) xs H:=Ee 9 xs (∀p,H p=O->Q JS (aA H p UO))
abbrev hZ(t:TA):TE:=λa H Q=>t a H<|aiO Q
abbrev aiP(Q:VK) xs H:=Ee 9 xs (∀p,H p=O->Q JS (aA H p JX))
abbrev bx(t:TA):TE:=λa H Q=>t a H<|aiP Q
abbrev OK:=Option Int->Hp->Prop
abbrev aiQ(Q:OK) x H:=qH x λi=>Q (Y i) H
abbrev iA(t:TE):TO:=λa H Q=>t a H<|aiQ Q
inductive aiR K p i H(Q:VK):Prop|mk{xs:Ju}{v:V}(h:aq K H p xs)(e:jw xs i=Y v)(k:Q v H)
abbrev aX(K:bH):R2:=λx y H Q=>oo x λp=>qH y λi=>aiR K p i H Q
inductive aiS K p i H(Q:VK):Prop|mk{xs:Ju}{v:V}(h:bR K H p xs)(e:jw xs i=Y v)(k:Q v H)
abbrev cf(K:bH):R2:=λx y H Q=>oo x λp=>qH y λi=>aiS K p i H Q
inductive aiT K lo hi a H(Q:VK):Prop|mk{xs:Ju}(h:aq K H a xs)(k:∀p,H p=O->Q JS (aA H p (.lst (h_ xs lo hi))))
abbrev jZ(K:bH):RS:=λx b hi H Q=>oo x λa=>aiT K b hi a H Q
inductive aiU l y H(Q:VK):Prop|mk{xs:Ju}(h:H l=Y JX)(n:xs.9<cz)(k:Q .aW (aA H l (.lst (xs++[y]))))
abbrev gb:=λx vs H Q=>oo x λl=>oneAt vs λy=>aiU l y H Q
inductive aiV l b H(Q:VK):Prop|mk{xs a:Ju}(h:H l=Y JX)(h2:H b=Y Yx)(n:xs.9+a.9<=cz)(k:∀p,H p=O->Q JS (aA H p (.lst (xs++a))))
abbrev ic:R2:=λx y H Q=>oo x λl=>oo y λb=>aiV l b H Q
inductive aiW K p H(Q:VK):Prop|mk{a:Ju}(h:aq K H p a\/bR K H p a)(k:Q (.int a.9) H)
abbrev b9 K:=λxs H Q=>oneAt xs λx=>oo x λp=>aiW K p H Q
abbrev aiX n(q:Sq) Q vs H:=wq n vs<|q vs H Q
abbrev aN(n:JD)(q:Sq)(t:TA):TE:=λa H Q=>t a H<|aiX n q Q
abbrev TB n(q:Sq) x Q vs H:=wq n (x::vs)<|q (x::vs) H Q
inductive aiY C m n q(t:TA) b Q a H:Prop|mk{dx:ax}{fs:List QD}(h:Uy)(k:Tv (fs.lookup m) (t b H (TB n q Jy Q)))
abbrev Km C m n q t b Q x H:=oo x λa=>aiY C m n q t b Q a H
abbrev c5(C:ax)(m:Str)(n:JD)(q:Sq)(b:TE)(t:TA):TE:=λa H Q=>b a H<|Km C m n q t a Q
inductive aiZ C f Q a H:Prop|mk{dx:ax}{fs:List QD}(h:Uy)(k:Tu (fs.lookup f) H Q)
abbrev Kn C f Q x H:=oo x λa=>aiZ C f Q a H
abbrev aD(C:ax)(a:TE)(f:Str):TE:=λb H Q=>a b H<|Kn C f Q
inductive ai0 C f(D:jU) b y a H:Prop|mk{dx:ax}{fs:List QD}(h:Uy)(n:fs.9<WN)(k:D.nx b (aA H a (.ins C dx (bD f y fs))))
abbrev TC C f D b y x H:=oo x λa=>ai0 C f D b y a H
abbrev TF C(b:TE) f D a y H:=b a H<|TC C f D a y
abbrev cJ(C:ax)(b c:TE)(f:Str):TS:=λD a H=>c a H<|TF C b f D a
def ai1:Z=L2.Z:=by funext i a H Q;show aiJ ..
def TH:tB=L2.tB:=by funext t a H Q;show e8 (t a H)<|funext λx=>funext λb=>Ef ..
def ai2:aY=L2.aY:=by funext t a H Q;show e8 (t a H)<|funext λx=>funext λb=>Ef ..
def ai3:uo=L2.uo:=by funext t u a H Q;show e8 (t a H)<|funext λx=>funext λb=>Ef ..
def ai4:vU=L2.vU:=by funext t u a H Q;show e8 (t a H)<|funext λx=>funext λb=>Ef ..
def Ko:rI=L2.rI:=by funext C g x y H Q;erw[Ba];show propext (λ(i,h,j,a,k)=>(i,j,h,a,k),λ(i,j,h,a,k)=>(i,h,j,a,k))
def yt:aR=L2.aR:=by funext g x y H Q;erw[Ba];show propext (λ(i,h,j,a,k)=>(i,j,h,a,k),λ(i,j,h,a,k)=>(i,h,j,a,k))
def ai5:rU=L2.rU:=by funext g x H Q;erw[Ba,L2.rU]
def ai6:dR=L2.dR:=by funext x y H Q;erw[Tx,L2.dR]
def ai7:iS=L2.iS:=by funext x y H Q;erw[Tx,L2.iS]
def ai8:iA=L2.iA:=by funext t a H Q;show e8 (t a H)<|funext λx=>funext λb=>Ba ..
def ai9:aN=SW:=by funext n q t a H Q;show e8 (t a H)<|funext λx=>funext λb=>Kl ..
def TJ(n q x Q):TB n q x Q=λvs a=>(x::vs).9=n/\q (x::vs) a Q:=funext λvs=>funext λH=>Kl ..
def aja(C m n q t c Q):Km C m n q t c Q=λx d=>∃a b fs,x=.ref a/\d a=Y (.ins C b fs)/\fs.lookup m=O/\t c d λvs e=>(x::vs).9=n/\q (x::vs) e Q:=by
 funext x H;erw[Eg];show propext (?_,?_)
 .intro(a,rfl,h);obtain @⟨b,fs,h,k⟩:=h;rw[Tw,TJ]at k;show(a,b,fs,J,h,k)
 intro(a,b,fs,rfl,h,k);show(a,J,h,?_);rwa [Tw,TJ]
def TK:c5=I_:=by
 funext C m n q b t a H Q;change b a H (Km C m n q t a Q)=_
 rw[aja];rfl
def ajb(C f Q):Kn C f Q=λx c=>∃a b fs v,x=.ref a/\c a=Y (.ins C b fs)/\fs.lookup f=Y v/\Q v c:=by
 funext x H;erw[Eg];show propext (?_,?_)
 .intro(a,rfl,h);obtain @⟨b,fs,h,k⟩:=h;rw[aiK]at k;let(v,e,k):=k;show(a,b,fs,v,J,h,e,k)
 intro(a,b,fs,v,rfl,h,e,k);show(a,J,h,?_);ext
def ajc:aD=S5:=by
 funext C a f b H Q;change a b H (Kn C f Q)=_
 rw[ajb];rfl
def ajd:cJ=S6:=by
 funext C c d f D b H;change d b H (TF C c f D b)=d b H _
 congr 1;funext y g;change c b g (TC C f D b y)=c b g _
 congr 1;funext x j;erw[Eg];show propext (λ(a,e,h)=>by obtain @⟨i,fs,h,n,k⟩:=h;show(a,i,fs,e,h,n,k),λ(a,i,fs,e,h,n,k)=>(a,e,h,n,k))
section
variable {X:Cx}
def dD.of(h:dD X f r)(w:∀x y H Q,a x y H Q->r x y H Q):dD X f a:=λyq s b H x y v u Q c d e q=>h yq s b H x y v u Q c d e<|w _ _ _ _ q
def qy.of(h:qy X r)(w:∀x y H Q,a x y H Q->r x y H Q):qy X a:=λvalue slice yq s b H x y v u Q c d e q f=>h value slice yq s b H x y v u Q c d e (w _ _ _ _ q) f
def v8.of{r a:RS}(h:v8 X r)(w:∀x l u H Q,a x l u H Q->r x l u H Q):v8 X a:=λyq s b H x v vl c d hi e Q f g i pl j q=>h yq s b H x v vl c d hi e Q f g i pl j<|w _ _ _ _ _ q
def ux.of{id}(h:ux X id r)(w:∀x xs H Q,a x xs H Q->r x xs H Q):ux X id a:=λyq s b H x vs v c Q d e f q=>h yq s b H x vs v c Q d e f<|w _ _ _ _ q
def ko.of(h:ko X f r)(w:∀xs H Q,a xs H Q->r xs H Q):ko X f a:=λyq s b H vs c Q d r q=>h yq s b H vs c Q d r<|w _ _ _ q
def wu(h:oo x k):=Eg x k▸h
def TL(h:qH x k):=Ba x k▸h
def TN(h:oneAt xs k):=aiL xs k▸h
theorem jx:qy X (aX U2):=qy.of L2.jx λx y H Q h=>by let(p,rfl,a):=wu h;let(i,rfl,b):=TL a;obtain @⟨xs,v,h,e,k⟩:=b;show(p,xs,i,v,J,J,h,e,k)
theorem oj:qy X (cf U2):=qy.of L2.oj λx y H Q h=>by let(p,rfl,a):=wu h;let(i,rfl,b):=TL a;obtain @⟨xs,v,h,e,k⟩:=b;show(p,xs,i,v,J,J,h,e,k)
theorem D0:v8 X (jZ U2):=v8.of L2.D0 λx l u H Q h=>by let(p,rfl,a):=wu h;obtain @⟨xs,h,k⟩:=a;show(p,xs,J,h,k)
theorem D4:ux X "list.append" gb:=ux.of L2.D4 λx xs H Q h=>by let(p,rfl,a):=wu h;let(y,rfl,b):=TN a;obtain @⟨xs,h,n,k⟩:=b;show(p,xs,y,J,J,h,n,k)
theorem sg:dD X (mX .Add) ic:=dD.of L2.sg λx y H Q h=>by let(l,rfl,a):=wu h;let(b,rfl,c):=wu a;obtain @⟨xs,d,h,e,n,k⟩:=c;show(l,b,xs,d,J,J,h,e,n,k)
theorem qw:dD X (mX .Add) QN:=yt▸L2.qw
theorem yf:dD X (mX .Sub) Q4:=yt▸L2.yf
theorem Ir:dD X (mX .Mod) (rI Tt Tr):=Ko▸L2.Ir
def TQ:dD X (mX .Mult) Qp:=Ko▸aip
def Ei:dD X (mX .FloorDiv) (rI uE wo):=Ko▸aiq
theorem DP:dD X (gJ .Lt) QO:=yt▸L2.DP
theorem DQ:dD X (gJ .LtE) (aR Kj):=yt▸L2.DQ
theorem DR:dD X (gJ .Gt) Wq:=yt▸L2.DR
theorem DS:dD X (gJ .GtE) Ym:=yt▸L2.DS
theorem uu:dD X (gJ .Eq) dR:=ai6▸L2.uu
theorem DO:dD X (gJ .NotEq) iS:=ai7▸L2.DO
theorem DM:DK X (unaryOp .USub) (rU A2):=ai5▸L2.DM
variable {a b e:dj} {ta tb t:TE} {pos:Pos} {rest:List dj}
def pv i(c:autoParam (X.N[i]?=Y x) a')(d:autoParam (DA Zb x) n')(hd:autoParam (QM=au) b')
  (f:autoParam ((x=="__classdict__")=au) b'):PE X Z9 (Z i):=ai1▸L2.Ry c d hd f
theorem um(h:PC X op a b t)(c:autoParam (rM op b=au) B'):PT X Z8 (tB t):=TH▸L2.um h c
def vT(h:PE X e t)(he:autoParam (∀whole,isTrue e Jr whole=(do let v <-whole;o8 e.pos;l8 [v] (truthy v))) i'):=TH▸L2.vT h he
theorem r8(c:dD X (gJ op) r)(d:Wb)(f:PE X b tb)(g:rM op b=au):PT X Z8 (aY<|ah r ta tb):=by rw[ai2];show L2.r8 c d f g
def DG(c:Wb)(d:PE X (.BoolOp .And (b::rest) pos) tb):=ai3▸L2.DG c d
def Ig(c:Wb)(d:PE X (.BoolOp .Or (b::rest) pos) tb):=ai4▸L2.Ig c d
def DY(h:PE X e t):=ai8▸L2.DY h
def AM{t}(h:PA X f t):PE X (.Tuple f n pos) (hZ t):=by
 show λyq s g H Q i j=>auA<|bF (h pos yq s g H _ i j) fun k c (xs,l,d,r,m)=>?_
 let(z,q):=Eh m;let z:xs.9<=cz:=eO z Je;show(by rw[<-r.9];show z,.ref QG,aA l QG UO,d.laid (λb u e=>dm _ e) JR ?_,J,q _<|d.bo.fresh JR);show(z,k,r,(_,UC,J,_,J))
def jY{t}(h:PA X f t):PE X (.List f pos) (bx t):=by
 show λyq s g H Q i j=>auL<|bF (h pos yq s g H _ i j) fun k c (xs,l,d,r,m)=>?_
 let(z,q):=Eh m;let z:xs.9<=cz:=eO z Je;show(by rw[<-r.9];show z,.ref QG,aA l QG JX,d.laid (λb u e=>dm _ e) JR ?_,J,q _<|d.bo.fresh JR);show(z,k,0,r,UC)
section
variable {k:Nat} {x m f:Str} {C:ax} {ps fl:List Str} {q:Sq} {o value:dj} {es:List dj} {t:TA} {tv:TE} {p apos pos':Pos}
def nh{n}(F:bI (mh X) k x ps q)(c:cQ k Yp)(d:PA X QE t)(g:autoParam (Gl X x) a')(h:autoParam (ps.9=n) a')(i:autoParam (QM=au) b')
  (he:autoParam (bB QE Jr=JM::bB es X.env) a') (hpl:autoParam ((fI pos YQ).any (·.1)=au) a'):
  PE X ZF (aN n q t):=by rw[ai9];show ahY F c d g h i he hpl
def Kp{pl}(c:jX U2 C)(M:gE (mh X) k C m ps q)(g:cQ k Yp)(he:PE X o ta)(h:PA X QE t)(i:autoParam (ps.9=n) a')
  (j:autoParam (bB QE Jr=JM::bB es X.env) a') (hpl:autoParam ((fI pos YQ).any (·.1)=au) a')
  (l:autoParam (bC We Jr=(do
   let d <-bC o X.env
   o8 apos.atName
   let (f,first) <-l8 [d] (vO d m pl)
   xW pos f first (fI pos<|bB QE Jr) UR)) a'):
  PE X We (c5 C m n q ta t):=by rw[TK];show ahZ c M g he h i j hpl l
def Kq{pl}(c:jX U2 C)(M:gE (mh X) k C m ps q)(g:cQ k Yp)(he:PE X o ta)(h:autoParam (ps.9=n) a')
  (i:autoParam (bC Wj Jr=(do
   let d <-bC o X.env
   o8 apos.atName
   let (f,first) <-l8 [d] (vO d m pl)
   xW pos f first (fI pos<|bB [] Jr) UR)) a'):
  PE X Wj (c5 C m n q ta aa):=by rw[TK];show ah0 c M g he h i
def i6(c:we U2 C fl)(d:f∈fl)(he:PE X e ta)(g:autoParam (vK e f Jr (bC e Jr)=bC e X.env) a'):PE X (.Attribute e f pos) (aD C ta f):=by rw[ajc];show ail c d he g
def Bb(c:we U2 C fl)(d:f∈fl)(g:PE X o ta)(h:PE X value tv)(i:autoParam (vN value (Y<|.Attribute o f pos') Yd Jr=pure au) a'):PS X (.Assign [.Attribute o f pos'] value pos) (cJ C ta tv f):=by rw[ajd];show aim c d g h i
def aje(xs H Q)(h:b9 U2 xs H Q):ais U2 xs H Q:=by let(y,rfl,c):=TN h;let(p,rfl,d):=wu c;obtain @⟨g,h,k⟩:=d;show(p,g,J,h,k)
def pE(c:X.mg "len"=O)(d:PA X [e] t)(g:autoParam (Gl X "len") a')(he:autoParam (bB [e] Jr=JM::bB [] X.env) a'):PE X (.Call (.Name "len" p) [e] [] pos) (bA (b9 U2) t):=v7 (ko.of ahm aje) g c at8 d (he:=he)
end
end
inductive E2{T0 a:Type}(p:T0->a->Prop):Prop|mk b c(h:p b c)
inductive E3{T0 a b:Type}(p:T0->a->b->Prop):Prop|mk c d e(h:p c d e)
inductive E4{T0 a b c:Type}(p:T0->a->b->c->Prop):Prop|mk d e f g(h:p d e f g)
inductive E5{T0 a b c d:Type}(p:T0->a->b->c->d->Prop):Prop|mk e f g i j(h:p e f g i j)
inductive E6{T0 a b c d e:Type}(p:T0->a->b->c->d->e->Prop):Prop|mk f g i j k l(h:p f g i j k l)
inductive E7{T0 a b c d e f:Type}(p:T0->a->b->c->d->e->f->Prop):Prop|mk g i j k l m n(h:p g i j k l m n)
inductive A3(a b c:Prop):Prop|mk(d:a)(h1:b)(h2:c)
inductive A4(a b c d:Prop):Prop|mk(e:a)(h1:b)(h2:c)(f:d)
inductive A5(a b c d e:Prop):Prop|mk(f:a)(h1:b)(h2:c)(g:d)(h4:e)
inductive A6(a b c d e f:Prop):Prop|mk(g:a)(h1:b)(h2:c)(h:d)(h4:e)(i:f)
inductive A7(a b c d e f g:Prop):Prop|mk(h:a)(h1:b)(h2:c)(i:d)(h4:e)(j:f)(k:g)
inductive A8(a b c d e f g h:Prop):Prop|mk(i:a)(h1:b)(h2:c)(j:d)(h4:e)(k:f)(l:g)(m:h)
inductive A9(a b c d e f g h i:Prop):Prop|mk(j:a)(h1:b)(h2:c)(k:d)(h4:e)(l:f)(m:g)(n:h)(o:i)
inductive A10(a b c d e f g h i j:Prop):Prop|mk(k:a)(h1:b)(h2:c)(l:d)(h4:e)(m:f)(n:g)(o:h)(p:i)(q:j)
abbrev Kr:=top 15
abbrev Ej:=top 19
abbrev Ks:=top 24
abbrev Ek:=top 55
abbrev El:=top 86
abbrev Kt:=top 97
abbrev Em:=top 104
abbrev Bc:=ie (top 109) 0
abbrev Bd:=top 110
abbrev En:=top 122
abbrev Eo:=top 133
abbrev Ep:=top 143
abbrev Er:=top 150
abbrev Es:=top 156
abbrev Et:=top 159
abbrev pF:=top 166
abbrev Ku:=top 168
abbrev wx:=top 176
abbrev qI:=top 178
abbrev qJ:=top 179
abbrev Kv:=top 208
abbrev Kw:=top 209
structure Ad where
 fK:ax
 eT:ax
 jB:ax
 gF:ax
 dS:ax
 j0:ax
 pG:ax
 kr:ax
 bT:ax
 cw:ax
 cH:ax
 eE:ax
 je:ax
 gW:ax
 g7:ax
 yu:ax
 Be:ax
 Kx:ax
 Bf:ax
 Eu:ax
 Ew:ax
 gw:ax
 Ky:ax
 Kz:ax
 KA:ax
 KC:ax
 Ex:ax
structure i7(g:G)(x:Str)(C:ax)(qual:Str)(st:eP)(a:Zg):Prop where
 at_:J_ g x C qual st a
def i7.dW{st}(c:i7 g x C b st a):we Jj C a:=(c.at_.cl,c.at_.na)
def i7.cl{st}(c:i7 g x C a st b):=c.at_.cl
def TupAt(K:bH)(a:ax)(xs:Ju):Prop:=∀H:Hp,bR K H a xs
def Bg:List (Str×Str):=[("",("")),("",("text")),("",("text")),("",("text")),("",("")),("gef",("")),("gef",("")),("g",("points")),("gef",("")),("g",("")),("",("")),("gpf",("")),("pic",("")),("pi",("")),("pi",("")),("g",("")),("gef",("text")),("ge",("")),("e",("")),("",("")),("eic",("")),("pi",("")),("",(""))]
def Ey:=[("len":Str),("range":Str),("enumerate":Str),("zip":Str),("reversed":Str),("min":Str),("max":Str),("abs":Str),("str":Str),("ord":Str),("list":Str),("tuple":Str),("sorted":Str)]
def Bh:=[(("NO_BYTE":Str),(-1)),(("OUT_OF_RANGE":Str),(-3)),(("NOT_LET":Str),(-4)),(("NOT_THERE":Str),(-5)),(("NOT_KNOWN":Str),(-6)),(("NOT_FITTING":Str),(-7)),(("CONTRADICTS":Str),(-8)),(("FULL":Str),(-9)),(("FAULT_BASE":Str),(-WN)),(("LINE_BASE":Str),(-100000)),(("BLANK":Str),(32)),(("LINE_END":Str),(10)),(("MINUS":Str),(45)),(("SLASH":Str),(47)),(("DIGIT_0":Str),(48)),(("DIGIT_9":Str),(57)),(("LETTER_A":Str),(97)),(("LETTER_Z":Str),(122)),(("LONGEST_NAME":Str),(12)),(("MOST_NUMBER":Str),(Jk)),(("LAST_EVENT":Str),(19)),(("MOST_OF_RATE":Str),(Zd)),(("MOST_DIGITS":Str),(300)),(("NO_MOST":Str),(-1)),(("MOST_NODES":Str),(6)),(("MOST_EVENTS":Str),(20)),(("MOST_CUTS":Str),(100)),(("MOST_WORDS":Str),(20)),(("MOST_MOMENTS":Str),(10)),(("MOST_PARCELS":Str),(10)),(("REACHED":Str),(0)),(("NOT_REACHED":Str),(-1)),(("ORIGIN":Str),(-1)),(("ALL_TOLD":Str),(-1)),(("SURELY_LIVING":Str),(0)),(("EITHER":Str),(1)),(("SURELY_OVER":Str),(2)),(("FIRST_OF_KNOWLEDGE":Str),(18)),(("MOST_POINTS":Str),(40)),(("FIRST_QUESTION":Str),(5)),(("FIRST_OF_READINGS":Str),(12)),(("HALVINGS":Str),(ZG)),(("FIRST_OF_WORLDS":Str),(15))]
def Bi(A:Ad):List (Str×ax):=[("SHAPES",(A.yu)),("RANGES",(A.Be)),("KINDS",(A.Kx)),("FORMS",(A.Bf)),("REFUSE",(A.Eu)),("TAKE",(A.Ew)),("ZERO",(A.gw)),("KNOWLEDGE",(A.Ky)),("QUESTIONS",(A.Kz)),("READINGS",(A.KA)),("WORLDS",(A.KC)),("TELLERS",(A.Ex))]
def uG(s:eP):Str:=match s with
 |.FunctionDef n a b c d e f g h i=>n
 |a=>""
def KD:List Nat:=[14,15,16,17,19,20,22,23,24,40,41,42,43,44,45,46,47,48,49,54,57,58,59,73,74,75,76,77,78,79,80,81,82,83,84,85,88,89,92,97,98,99,100,101,102,103,104,105,110,111,112,113,114,115,116,117,118,119,120,121,122,128,129,130,131,133,134,135,136,137,138,139,140,141,142,143,146,148,149,150,151,152,153,154,155,156,159,160,161,162,163,164,165,166,167,168,169,172,174,176,177,178,179,182,186,187,188,189,190,191,192,193,194,195,198,202,203,204,205,206,208,209]
def KG:=KD.map λj=>(uG YD,(top j))
abbrev awj(g:G)(A:Ad):Prop:=∃l:List ax,TupAt Jj A.yu (l.map Qv)/\∀(i:Nat) (p:Str×Str),Bg[i]?=Y p->∃a,l[i]?=Y a/\TupAt Jj a [.str p.1,.str p.2]
abbrev awk(g:G)(A:Ad):Prop:=∃l:List (Str×ax),TabAt g.P g.w Jj A.Be (l.map λx=>(x.1,(V.ref x.2)))/\l.map (·.1)=[aZ "g",aZ "e",aZ "f",aZ "p",aZ "i",aZ "c"]/\(∃a,l.lookup (aZ "g")=Y a/\TupAt Jj a [.int<|-1,.int<|19])/\(∃a,l.lookup (aZ "e")=Y a/\TupAt Jj a [.int<|0,.int<|19])/\(∃a,l.lookup (aZ "f")=Y a/\TupAt Jj a [.int<|0,.int<|19])/\(∃a,l.lookup (aZ "p")=Y a/\TupAt Jj a [.int<|0,.int<|9])/\(∃a,l.lookup (aZ "i")=Y a/\TupAt Jj a [.int<|0,.int<|5])/\(∃a,l.lookup (aZ "c")=Y a/\TupAt Jj a [.int<|0,.int Jk])
abbrev awl(g:G)(A:Ad):Prop:=∃a f1 f2 b c d:ax,TupAt Jj A.Eu [.ref a,.ref f1,.ref f2,.ref b,.ref c,.ref d]/\g.mg "refuse_node"=Y Jy/\g.mg "refuse_at"=Y W5/\g.mg "refuse_cut"=Y YE/\g.mg "refuse_word"=Y WO/\g.mg "refuse_moment"=Y Za/\g.mg "refuse_parcel"=Y (.ref d)
abbrev awm(g:G)(A:Ad):Prop:=∃a f1 f2 b c d:ax,TupAt Jj A.Ew [.ref a,.ref f1,.ref f2,.ref b,.ref c,.ref d]/\g.mg "take_node"=Y Jy/\g.mg "take_at"=Y W5/\g.mg "take_cut"=Y YE/\g.mg "take_word_facts"=Y WO/\g.mg "take_moment"=Y Za/\g.mg "take_parcel"=Y (.ref d)
abbrev awn(g:G)(A:Ad):Prop:=∃a f1 f2 b c:ax,TupAt Jj A.Ky [.ref a,.ref f1,.ref f2,.ref b,.ref c]/\g.mg "answer_past"=Y Jy/\g.mg "answer_needless"=Y W5/\g.mg "answer_could"=Y YE/\g.mg "answer_learned"=Y WO/\g.mg "answer_told"=Y Za
abbrev awo(g:G)(A:Ad):Prop:=∃a f1 f2 b c d e:ax,TupAt Jj A.Kz [.ref a,.ref f1,.ref f2,.ref b,.ref c,.ref d,.ref e]/\g.mg "answer_bounds"=Y Jy/\g.mg "answer_chain"=Y W5/\g.mg "answer_shows"=Y YE/\g.mg "answer_order"=Y WO/\g.mg "answer_clash"=Y Za/\g.mg "answer_liars"=Y (.ref d)/\g.mg "answer_life"=Y (.ref e)
abbrev awp(g:G)(A:Ad):Prop:=∃a f1 f2:ax,TupAt Jj A.KA [.ref a,.ref f1,.ref f2]/\g.mg "answer_age"=Y Jy/\g.mg "answer_over"=Y W5/\g.mg "answer_living"=Y YE
abbrev awq(g:G)(A:Ad):Prop:=∃a f1 f2:ax,TupAt Jj A.KC [.ref a,.ref f1,.ref f2]/\g.mg "answer_world"=Y Jy/\g.mg "answer_pinned"=Y W5/\g.mg "answer_clock"=Y YE
abbrev awr(g:G)(A:Ad):Prop:=∃a f1 f2 b c:ax,TupAt Jj A.Ex [.ref a,.ref f1,.ref f2,.ref b,.ref c]/\g.mg "answer_clear"=Y Jy/\g.mg "answer_tell"=Y W5/\g.mg "answer_read"=Y YE/\g.mg "answer_look"=Y WO/\g.mg "answer_text"=Y Za
abbrev aws(g:G)(A:Ad):Prop:=∃b c d e f h:ax,TupAt Jj A.Bf [.ref b,.ref c,.ref d,.ref e,.ref f,.ref h]/\(∃a f1 f2:ax,TupAt Jj b [.ref a,.ref f1,.ref f2]/\g.mg "read_name"=Y Jy/\g.mg "read_rate"=Y W5/\g.mg "read_rate"=Y YE)/\(∃a f1:ax,TupAt Jj c [.ref a,.ref f1]/\g.mg "read_name"=Y Jy/\g.mg "read_number"=Y W5)/\(∃a:ax,TupAt Jj d [.ref a]/\g.mg "read_name"=Y Jy)/\(∃a f1 f2 i:ax,TupAt Jj e [.ref a,.ref f1,.ref f2,.ref i]/\g.mg "read_event"=Y Jy/\g.mg "read_event"=Y W5/\g.mg "read_number"=Y YE/\g.mg "read_most"=Y (.ref i))/\(∃a f1 f2:ax,TupAt Jj f [.ref a,.ref f1,.ref f2]/\g.mg "read_event"=Y Jy/\g.mg "read_number"=Y W5/\g.mg "read_most"=Y YE)/\(∃a f1 f2:ax,TupAt Jj h [.ref a,.ref f1,.ref f2]/\g.mg "read_name"=Y Jy/\g.mg "read_event"=Y W5/\g.mg "read_life"=Y YE)
structure aL(g:G)(A:Ad):Prop where
 blt:∀x∈Ey,g.mg x=O
 int:∀p∈Bh,∃t,g.mg p.1=Y (.int p.2 t)
 ref:∀p∈Bi A,g.mg p.1=Y (.ref p.2)
 fns:∀p∈KG,yn g p.1 p.2
 qK:TupAt Jj A.gw [.int 0,.int 0]
 TU:awj g A
 TV:awk g A
 KH:TupAt Jj A.Kx [.str "node",.str "at",.str "cut",.str "word",.str "moment",.str "parcel"]
 TX:awl g A
 TY:awm g A
 TZ:awn g A
 T7:awo g A
 T8:awp g A
 T9:awq g A
 T_:awr g A
 U_:aws g A
 KI:i7 g "Call" A.fK "Call.__init__" (ie (top 13) 0) ["number","wholes","row"]
 KJ:i7 g "Fact" YV "Fact.__init__" (ie (top 52) 0) ["line","kind","parts","fault"]
 KL:i7 g "FactsText" A.jB "FactsText.__init__" (ie (top 53) 0) ["facts","fault"]
 Bj:i7 g "Node" A.gF "Node.__init__" (ie (top 67) 0) ["name","lowest","highest","cuts"]
 Bk:i7 g "Event" WX "Event.__init__" (ie (top 68) 0) ["node","run","reading"]
 Bl:i7 g "Word" A.j0 "Word.__init__" (ie (top 69) 0) ["source","goal","least","greatest"]
 KN:i7 g "Moment" A.pG "Moment.__init__" (ie (top 70) 0) ["event","first","latest"]
 Bm:i7 g "Parcel" A.kr "Parcel.__init__" (ie (top 71) 0) ["name","event","life"]
 oq:i7 g "Told" A.bT "Told.__init__" (ie (top 72) 0) ["nodes","events","words","moments","parcels","lines"]
 iC:i7 g "Steps" ZO "Steps.__init__" Bc ["scale","known","rows"]
 jf:i7 g "View" Z3 "View.__init__" (ie (top 127) 0) ["steps","limits"]
 qL:i7 g "NextReadings" Yv "NextReadings.__init__" (ie (top 175) 0) ["told","view","parcel","number"]
 Bn:i7 g "World" A.je "World.__init__" (ie (top 185) 0) ["scale","moments"]
 KO:i7 g "Lives" A.gW "Lives.__init__" (ie (top 200) 0) ["told"]
 KP:i7 g "Telling" A.g7 "Telling.__init__" (ie (top 201) 0) ["told","refusal"]
 Va:∃f,g.mg "take_word_grammar"=Y J7/\uC Jj "take_word" "take_word" Ek f
 Vb:∃f,g.mg "take_word_facts"=Y J7/\uC Jj "take_word" "take_word" El f
 Vc:MethAt g ZO "is_known" "Steps.is_known" (ie (top 109) 1)
 Vd:MethAt g ZO "tighten" "Steps.tighten" (ie (top 109) 2)
 Ve:MethAt g Z3 "limit_between" "View.limit_between" (ie (top 127) 1)
 Vf:MethAt g Z3 "bounds_between" "View.bounds_between" (ie (top 127) 2)
 Vg:MethAt g Z3 "contradicts" "View.contradicts" (ie (top 127) 3)
 Vh:MethAt g Yv "age_at" "NextReadings.age_at" (ie (top 175) 1)
 Vi:MethAt g Yv "life_at" "NextReadings.life_at" (ie (top 175) 2)
 Vj:MethAt g A.je "moment_of" "World.moment_of" (ie (top 185) 1)
def aL.b(a:Jn)(i:JD)(h:autoParam (Ey[i]?=Y x) a'):=a.blt x<|bM h
def aL.c(a:Jn)(i:JD)(h:autoParam (Bh[i]?=Y (x,(n))) a'):∃t,g.mg x=Y (.int n t):=a.int (x,(n))<|bM h
def aL.r(b:Jn)(i:JD)(h:autoParam ((Bi A)[i]?=Y (x,(a))) a'):g.mg x=Y Jy:=b.ref (x,(a))<|bM h
def aL.f(a:Jn)(i:JD)(h:autoParam (KD[i]?=Y j) a')(e:autoParam (uG YD=x) q'):yn g x YD:=e▸a.fns (uG YD,(top j)) (eJ.2 (j,bM h,J))
def fdOf(o:Obj):=match o.data with
 |.func fd=>fd
 |a=>default
def Vk{K st}(l:K.lookup f=Y o)(e:o.data=.func (rN x a (qB st) (iY st) ZN .none (fdOf o).kwdefaults (fdOf o).doc (fdOf o).pyModule (fdOf o).annotations (fdOf o).code (fdOf o).closureTuple))
  (c:C9 K (fdOf o).code a=I) (k:mO K J7=I):uC K x a st f:=by
 show(_,(o.cls,o.dict,(fdOf o).kwdefaults,(fdOf o).doc,(fdOf o).pyModule,(fdOf o).annotations,(fdOf o).code,(fdOf o).closureTuple,o.slots,J,?_,c),k);rwa [<-e]
def KQ{K st}(l:K.lookup f=Y o)(e:o.data=.func (rN x a (qB st) (iY st) ZN .none (fdOf o).kwdefaults (fdOf o).doc (fdOf o).pyModule (fdOf o).annotations (fdOf o).code (fdOf o).closureTuple))
  (c:C9 K (fdOf o).code a=I) (k:mO K J7=I):uB K x a st f (rN x a (qB st) (iY st) ZN .none (fdOf o).kwdefaults (fdOf o).doc (fdOf o).pyModule (fdOf o).annotations (fdOf o).code (fdOf o).closureTuple):=by
 show((o.cls,o.dict,(fdOf o).kwdefaults,(fdOf o).doc,(fdOf o).pyModule,(fdOf o).annotations,(fdOf o).code,(fdOf o).closureTuple,o.slots,J,?_,c),k);rwa [<-e]
def KR(o:Obj):=match o.data with
 |.fields vs=>vs
 |a=>#[]
def ajf{K}(l:K.lookup a=Y o)(c:o.cls=.type "tuple")(d:o.data=.seq b n)(z:b.12<=cz)(v:bP xs b.toList):TupAt K a xs:=λe=>.inr (o,b,n,l,c,d,z,v)
set_option tactic.hygienic true in
def ajg{K}(X:K.In h)(G:h.Ns eY mg)(e:jQ K eY n=Y O):mg n=O:=by
 let(o,d,f,a,hd,_,b):=G;delta jQ at e;split at e
 .rename_i g _ _ l;let q:=X _ _ l;rw[a]at q;cases q;cases hd;split at e
  .cases e
  rename_i c;rw[<-b];delta nsFind findBy;rw[<-ate,c];rfl
 cases e
def ajh{K}{a:Zg}(e:a.map (mP K Zl)=r)(h:∀x∈r,x=Y O):∀f∈a,r9 K C f:=λf b=>h _<|e▸atd b
def aji{K}{l:List (Str×Nat×ax)}(f:K.lookup a=Y o)(d:o.data=.dict ((l.map λx=>((hashStr w x.1,.str x.1 x.2.1,.ref x.2.2):Al)).toArray) n)(c:o.ExactDict)(g:(l.map (·.1)).Nodup):
  TabAt P w K a ((l.map λx=>(x.1,(x.2.2))).map λx=>(x.1,(V.ref x.2))):=by
 show(o,l.map λx=>((ud x.1:jT),(eZ x.2.2)),f,(_,n,c,d,λe he=>?_,?_,?_),?_)
 .haveI he:e∈(l.map λx=>((hashStr w x.1,.str x.1 x.2.1,.ref x.2.2):Al)):=by grind
  let(x,_,rfl):=eJ.1 he;show(.inr x.1,HX x.1 x.2.1,J)
 .rw[List.toList_toArray];clear f d g;induction l with|nil=>show .nil|cons x l i=>show .cons (HX x.1 x.2.1) J i
 .rw[kg];haveI:(l.map ((·.1)∘λx:Str×Nat×ax=>((ud x.1:jT),(eZ x.2.2))))=(l.map (·.1)).map ud:=by rw[kg];rfl
  rw[this];show g.map _ λa b h e=>h<|Sum.inr.inj e
 clear f d g;induction l with|nil=>show .nil|cons x l i=>show .cons (J,J) i
end I0
namespace HD
open PySem PySem.W PyProof.Rows
structure GS where
 T:BT
 n:Nat
 k:Nat
 m:aO
section
variable (P:f_)
def fj(s:GS)(o:Obj):GS:=(s.T.ins s.n o,s.n+1,s.k,s.m)
def wy(s:GS)(j:JD):GS:=(s.T,s.n,s.k+j,s.m)
def i8(vs:Wz):Obj:={cls:=QP,data:=.seq ⟨vs⟩}
def si(c:aO)(vs:Wz):Obj:={cls:=c,data:=.fields ⟨vs⟩}
def eD(x:Str)(t:JD)(v:aO):Al:=(PyData.keyHash P x,.str x t,v)
def KS(a:List Al)(b:JD):Obj:={cls:=WS,data:=.dict ⟨a⟩ b}
def la(a:JD)(x:Str)(v:aO)(s:GS):GS:=(s.T.set a λo=>match o with
 |(c,d,.dict b e,f)=>(c,d,.dict (b.push<|eD P x s.k v) J5,f)
 |o=>o,s.n,s.k+1,s.m)
def Vl(j:JD)(v:aO)(s:GS):GS:=(s.T.set 3 λo=>match o with
 |(c,d,.dict a b,f)=>(c,d,.dict (a.modify j λe=>(e.hash,e.key,v)) b,f)
 |o=>o,s.n,s.k+1,s.m)
def Vm(a:JD)(vs:Wz)(s:GS):GS:=(s.T.set a λo=>match o with
 |(c,d,.fields b,e)=>(c,d,.fields<|b++(⟨vs⟩:Array aO),e)
 |o=>o,s.n,s.k,s.m)
def yw:List Str->Nat->List aO|[],a=>[]|x::xs,t=>.str x t::yw xs (t+1)
def cut:Str:="/claim/cut.py"
def KU(x q:Str)(t:JD)(l:JH)(d e:JH)(a b:ax)(f:Bool)(ns cs st:aO)(c:JD):Obj:=
 si (.type "code") [.str x t,.str q<|t+1,.str cut<|t+2,.int l 0,.int d 0,.int 0 0,.int 0 0,.int e 0,.ref a,.bool f,.int 181 0,.ref b,.none,ns,cs,st,.int c 0,.int l 0,.str cut<|c+1]
def Vn(tab:ax)(cl:Str->Str)(b:Bool)(st:eP)(s:GS):GS:=match st with
 |.FunctionDef x d body l m n sc o r pos=>
  let q:=cl x
  let fd:Rm:={name:=x,qualname:=q,params:=d,body:=.stmts body,scope:=sc,globals:=0,closure:=[],defaults:=.none,kwdefaults:=.none}
  let ns:=sc.names.filterMap λp=>match p.2 with|.local=>Y p.1|l=>O
  let cs:=sc.names.filterMap λp=>match p.2 with|.cell=>Y p.1|l=>O
  let a:=s.n
  let e:=fj (fj s<|i8 [])<|si .none []
  let f:=if b then e else fj (fj e<|i8<|yw ns<|s.k+3) (i8<|yw cs<|s.k+3+ns.9)
  let c:=f.n+1
  let g:=if b then s.k+3 else s.k+3+ns.9+cs.9
  let i:=fj f {cls:=.none,data:=.func fd}
  let j:=fj i<|KU x q s.k Yd d.args.9 3 a (a+1) I (if b then .none else .ref (a+2)) (if b then .none else .ref (a+3)) (.ref<|c-1) g
  let k:=Vm tab [.int Yd 0,.int pos.col 0,.ref c] j
  let h:=fj k {cls:=.type "function",data:=.func {fd with globals:=3,pyModule:=s.m,code:=Za}}
  (h.T,h.n,g+2,s.m)
 |l=>s
def ajj(st:eP):Str:=match st with
 |.FunctionDef x .. =>x
 |a=>""
def Vo(tab d:ax)(cl:Str->Str):Bool->List eP->GS->GS|c,[],s=>s|f,st::b,s=>let a:=Vn tab cl f st s;Vo tab d cl au b (la P d (ajj st) (.ref<|a.n-1) a)
def gCl(j:Bool)(st:eP)(s:GS):GS:=match st with
 |.ClassDef x z A body B C D E F g pos=>
  let a:=s.n
  let t:=s.k
  let l:=fj (fj s<|i8 [])<|si (.type "builtin_function_or_method") [.builtin "type.__prepare__",.type "type"]
  let m:=fj (fj (fj l<|KS [] 0)<|i8 [])<|si .none []
  let n:=fj m<|KU x x (t+2) Yd 0 0 (a+3) (a+4) au .none .none .none<|t+5
  let e:=fj (Vm 12 [.int Yd 0,.int pos.col 0,.ref<|a+5] n) {cls:=.type "frame",slots:=⟨[Y<|.ref<|a+5,Y<|.ref 3,Y<|.ref<|a+2,O,Y s.m,O,Y<|.ref 0]⟩}
  let o:=la P (a+2) "__module__" s.m (e.T,e.n,t+7,e.m)
  let p:=la P (a+2) "__qualname__" (.str x<|t+8)<|wy o 1
  let q:=la P (a+2) "__firstlineno__" (.int Yd<|t+10)<|wy p 1
  let h:=Vo P (a+4) (a+2) (λy=>x++(".":Str)++y) j body q
  let i:=fj h<|i8<|yw g h.k
  let b:=la P (a+2) "__static_attributes__" (.ref<|i.n-1)<|wy i g.9
  let c:=b.n+1
  let k:=b.k
  let d:=match b.T.get (a+2) with
   |some (z,A,.dict d B,C)=>d.toList
   |z=>[]
  let r:=d.take 1++d.drop 2
  let u:=fj b<|KS (r++[eD P "__dict__" QU<|.ref<|c+1,eD P "__weakref__" (k+3)<|.ref<|c+2,eD P "__doc__" (k+4) .none]) 4
  let v:=fj u {cls:=.type "type",data:=.cls {name:=x,bases:=[.type "object"],mro:=[.ref c,.type "object"],ns:=c-1,qualname:=x},slots:=⟨[O,O,Y<|.str x t,Y<|.str x<|t+8,Y<|.builtin "object.__new__",Y<|.bool I]⟩}
  let w:=fj (fj v<|si (.type "getset_descriptor") [.str "__dict__" k,.ref c,.builtin "function.__dict__",.builtin "function.__dict__#set"])<|si (.type "getset_descriptor") [.str "__weakref__"<|k+2,.ref c,.builtin "ExceptionGroup.__weakref__",.none]
  let f:=fj (fj w<|si (.type "super") [.ref c,.ref c,.ref c])<|si (.type "builtin_function_or_method") [.builtin "object.__init_subclass__",.ref c]
  la P 3 x Za (f.T,f.n,k+6,f.m)
 |z=>s
def Vp(a:List dj):List Str:=a.filterMap λe=>match e with
 |.Constant (.str y) b c=>Y y
 |b=>O
def Vq:List dj->GS->GS|[],s=>s|.Tuple a b c::l,s=>Vq l (s.T.ins s.n<|i8<|yw (Vp a) s.k,s.n+1,s.k+a.9,s.m)|b::c,s=>s
def refs(as:ZR):List aO:=as.map λa=>.ref a
def Vr(x:Str)(as:ZR)(s:GS):GS:=la P 3 x (.ref s.n)<|fj s<|i8<|refs as
def rfT:List (Nat×List Nat):=[(90,([443,450,457,464,471,478])),(91,([485,492,499,506,513,520])),(144,([786,807,835,849,854])),(170,([933,940,954,961,968,987,994])),(180,([1058,1065,1072])),(196,([1143,1157,1178])),(207,([1235,1242,1249,1256,1263]))]
def Aw:List (Str×Int×Int):=[("g", -1,(19)),("e",0,(19)),("f",0,(19)),("p",0,(9)),("i",0,(5)),("c",0,(Jk))]
def Vs:List (Str×Int×Int)->Nat->Nat->GS->List Al->GS×List Al|[],e,f,s,c=>(s,(c))|(x,a,b)::l,d,t,s,c=>Vs l 0 (t+d+3) (fj s<|i8 [.int a<|t+d+1,.int b<|t+d+2])<|c++[eD P x t<|.ref s.n]
def ajk:List Nat:=[19,104,110,122,133,143,150,156,159,166]
def gSt(i:JD)(st:eP)(s:GS):GS:=match st with
 |.FunctionDef x .. =>
  let a:=Vn 12 id (ajk.any<|HN i) st s
  if HN i 86 then Vl 60 (.ref<|a.n-1) a else la P 3 x (.ref<|a.n-1) a
 |.ClassDef .. =>gCl P (HN i 109) st s
 |.Assign [.Name x c] v d=>match v with
  |.Constant (.int z) c d=>la P 3 x (.int z s.k)<|wy s 1
  |.UnaryOp c (.Constant (.int z) d e) f=>la P 3 x (.int (-z)<|s.k+1)<|wy s 2
  |.Constant (.str y) c d=>Vl 0 (.str y s.k) (s.T,s.n,s.k+1,.str y s.k)
  |.Name c d=>la P 3 x (.ref<|s.n-1) s
  |.Dict .. =>
   let (a,b):=Vs P Aw 1 s.k (fj s<|i8 []) []
   la P 3 x (.ref s.n) (a.T.set s.n λc=>KS b 6,a.n,s.k+25,s.m)
  |.Tuple b c d=>match i with
   |11=>
    let a:=Vq b s
    la P 3 x (.ref a.n) (fj a<|i8<|(aQ 23).map λj=>.ref<|s.n+j)
   |50=>la P 3 x (.ref s.n)<|wy (fj s<|i8<|yw (Vp b) s.k) 6
   |51=>Vr P x [199,200,201,202,203,204]<|fj (fj (fj (fj (fj (fj s<|i8<|refs [134,190,190])<|i8<|refs [134,155])<|i8<|refs [134])<|i8<|refs [169,169,155,176])<|i8<|refs [169,155,176])<|i8<|refs [134,169,162]
   |96=>la P 3 x (.ref s.n)<|wy (fj s<|i8 [.int 0 s.k,.int 0<|s.k+1]) 2
   |i=>Vr P x ((rfT.find? λp=>HN p.1 i).map (·.2) |>.getD []) s
  |c=>s
 |c=>s
def Vt:Nat->List eP->GS->GS|a,[],s=>s|i,st::l,s=>Vt JK l<|gSt P i st s
end
abbrev pw:gz:=aev
abbrev p0:Pos:=(0,0,0,0)
def body:List eP:=behindTheImports pw
def T0(P:f_):BT:=[boot_o_0 P,boot_o_1 P,boot_o_2 P,boot_o_3 P,boot_o_4 P,boot_o_5 P,boot_o_6 P,boot_o_7 P,boot_o_8 P,boot_o_9 P,boot_o_10 P,i8 [],si .none [],KU "<module>" "<module>" 182 1 0 0 11 12 au .none .none .none 185,{cls:=.type "frame",slots:=⟨[Y<|.ref 13,Y<|.ref 3,Y<|.ref 3,O,Y<|.str "__main__" 164,O,Y<|.ref 0]⟩}].zipIdx.foldl (λt p=>t.ins p.2 p.1) .nil
def G(P:f_)(k:JD):GS:=Vt P 0 (body.take k) (T0 P,15,187,.str "__main__" 164)
def sT(s:GS)(os:dO):SharedT:=(s.T,s.n,{},⟨[]⟩,{},s.k,os)
def yx:Env:={scope:=pw.main.scope,locals:=mainNs,globals:=mainNs,cells:=[],code:=.ref 13,frame:=Y 14}
abbrev sr:Code:=.body body yx
def eU(i j:JD):List eP:=(body.drop i).take<|j-i
def posAt(i:JD):Pos:=match i with
 |0=>p0
 |i+1=>match body[i]? with
  |some (.Assign [t] a b)=>t.pos
  |some st=>st.pos
  |none=>p0
abbrev PC(w:bS)(os:dO)(i j:JD):Prop:=segRunT xU pw w 11 (Y<|.ref 6) 1 400 (sT (G JA i) os) (piecesOf (eU i j) yx sr (posAt i) [Dw p0])=Y (.next,sT (G JA j) os,sr,(posAt j))
def pc0(w:bS)(os:dO):PC w os 0 12:=Jo
def pc1(w:bS)(os:dO):PC w os 12 13:=byRow2 "special-get-raises" (P:=λw=>PC w os 12 13) (λw=>by kernel_rfl) (λw=>by kernel_rfl) w
def pc2(w:bS)(os:dO):PC w os 13 18:=Jo
def pc3(w:bS)(os:dO):PC w os 18 41:=Jo
def pc4(w:bS)(os:dO):PC w os 41 52:=Jo
def pc5(w:bS)(os:dO):PC w os 52 53:=Jo
def pc6(w:bS)(os:dO):PC w os 53 59:=Jo
def pc7(w:bS)(os:dO):PC w os 59 68:=Jo
def pc8(w:bS)(os:dO):PC w os 68 69:=Jo
def pc9(w:bS)(os:dO):PC w os 69 70:=Jo
def ajl(w:bS)(os:dO):PC w os 70 71:=Jo
def ajm(w:bS)(os:dO):PC w os 71 72:=Jo
def ajn(w:bS)(os:dO):PC w os 72 77:=Jo
def ajo(w:bS)(os:dO):PC w os 77 89:=Jo
def ajp(w:bS)(os:dO):PC w os 89 103:=Jo
def ajq(w:bS)(os:dO):PC w os 103 109:=Jo
def ajr(w:bS)(os:dO):PC w os 109 112:=Jo
def ajs(w:bS)(os:dO):PC w os 112 124:=Jo
def ajt(w:bS)(os:dO):PC w os 124 128:=Jo
def aju(w:bS)(os:dO):PC w os 128 140:=Jo
def ajv(w:bS)(os:dO):PC w os 140 153:=Jo
def ajw(w:bS)(os:dO):PC w os 153 165:=Jo
def ajx(w:bS)(os:dO):PC w os 165 175:=Jo
def ajy(w:bS)(os:dO):PC w os 175 178:=Jo
def ajz(w:bS)(os:dO):PC w os 178 185:=Jo
def ajA(w:bS)(os:dO):PC w os 185 189:=Jo
def ajB(w:bS)(os:dO):PC w os 189 200:=Jo
def ajC(w:bS)(os:dO):PC w os 200 201:=Jo
def ajD(w:bS)(os:dO):PC w os 201 206:=Jo
def ajE(w:bS)(os:dO):PC w os 206 210:=Jo
def ajF:∀w:bS,(fencedOpening xU pw w 17274).map (λs=>(s.13,s.gens,s.drawn,(ZK)))=Y (Ak JA,afT [],boot_drawn,(boot_toks)):=boot_open Jo Je λs=>rfl
def ajG(w:bS):((Ak JA).isNs eY&&(afT []:Array GenState).12==0,(Ak JA).objs.12,((Ak JA).nsMap eY "__annotations__"))=(I,11,(Y<|.ref 6)):=Jo
def Ez(w:bS)(os:dO):bc:=(sT (G JA 0) os).abs
def stK(w:bS)(os:dO):bc:=(sT (G JA 210) os).abs
def ajH(w:bS)(os:dO):topGo xU pw w 11 (Y<|.ref 6) 12 (Ak JA,afT [],boot_drawn,boot_toks,os) (topStub pw)=Y (Ez w os,((denote xU sr,sr,p0,[Dw p0]))):=Jo
def ajI(w:bS)(os:dO):segRun xU pw w 11 (Y<|.ref 6) 1 1 (Ez w os) (blockOf body yx sr p0 [Dw p0])=Y (.next,Ez w os,sr,(p0)):=Jo
def ajJ(w:bS)(os:dO):topRun xU pw w 11 (Y<|.ref 6) 2 (stK w os) (restOf [] yx sr (posAt 210) [Dw p0])=Y (stK w os):=Jo
def ajK:body=eU 0 12++(eU 12 13++(eU 13 18++(eU 18 41++(eU 41 52++(eU 52 53++(eU 53 59++(eU 59 68++(eU 68 69++(eU 69 70++(eU 70 71++(eU 71 72++(eU 72 77++(eU 77 89++(eU 89 103++(eU 103 109++(eU 109 112++(eU 112 124++(eU 124 128++(eU 128 140++(eU 140 153++(eU 153 165++(eU 165 175++(eU 175 178++(eU 178 185++(eU 185 189++(eU 189 200++(eU 200 201++(eU 201 206++(eU 206 210++([])))))))))))))))))))))))))))))):=Jo
def TR(w:bS)(os:dO)(c i:JD)(rest:List eP):Prop:=topRun xU pw w 11 (Y<|.ref 6) (2+400*c) (sT (G JA i) os).abs (restOf rest yx sr (posAt i) [Dw p0])=Y (stK w os)
def TR.ps{w:bS}{os:dO}{c i j:JD}{rest:List eP}(h:PC w os i j)(k:TR w os c j rest):TR w os (c+1) i (eU i j++rest):=by delta TR at k⊢;let z:=piece_app (segRun_of h) k;rw[show 2+400*(c+1)=400+(2+400*c) by omega];show z
def ajL(w:bS)(os:dO):TR w os 30 0 body:=by let k:TR w os 0 210 []:=ajJ w os;replace k:=TR.ps (ajE w os) k;replace k:=TR.ps (ajD w os) k;replace k:=TR.ps (ajC w os) k;replace k:=TR.ps (ajB w os) k;replace k:=TR.ps (ajA w os) k;replace k:=TR.ps (ajz w os) k;replace k:=TR.ps (ajy w os) k;replace k:=TR.ps (ajx w os) k;replace k:=TR.ps (ajw w os) k;replace k:=TR.ps (ajv w os) k;replace k:=TR.ps (aju w os) k;replace k:=TR.ps (ajt w os) k;replace k:=TR.ps (ajs w os) k;replace k:=TR.ps (ajr w os) k;replace k:=TR.ps (ajq w os) k;replace k:=TR.ps (ajp w os) k;replace k:=TR.ps (ajo w os) k;replace k:=TR.ps (ajn w os) k;replace k:=TR.ps (ajm w os) k;replace k:=TR.ps (ajl w os) k;replace k:=TR.ps (pc9 w os) k;replace k:=TR.ps (pc8 w os) k;replace k:=TR.ps (pc7 w os) k;replace k:=TR.ps (pc6 w os) k;replace k:=TR.ps (pc5 w os) k;replace k:=TR.ps (pc4 w os) k;replace k:=TR.ps (pc3 w os) k;replace k:=TR.ps (pc2 w os) k;replace k:=TR.ps (pc1 w os) k;replace k:=TR.ps (pc0 w os) k;rw[ajK];show k
def ajM(w:bS)(os:dO):topRun xU pw w 11 (Y<|.ref 6) (2+400*30) (Ez w os) (restOf body yx sr p0 [Dw p0])=Y (stK w os):=ajL w os
def qv:gz:=view pw [209]
def Bo:List Str:=pw.boundNames.filter λn=>n != "answers"
def hK(P:f_):c_:=absHeap (G P 210).T 1279 {}
def ajN(w:bS)(os:dO):stK w os=(hK JA,⟨[]⟩,{},2139,os):=Jo
def lk1(w:bS)(os:dO):(staticsOk (afy pw.main.body) (Ak JA)<|hK JA)=I:=Jo
def KW(w:bS):namesBound pw (hK JA)=I:=Jo
def lk3(w:bS):laidKept (Ak JA) (hK JA)=I:=Jo
def lk4(w:bS)(os:dO):openSeen qv Bo (afy pw.main.body) (λa=>I) I (hK JA,⟨[]⟩,{},2139,os)=openGood qv Bo:=Jo
def Vu:LeftO pw qv Bo (λa=>I) (λs=>s.13) (λw=>hK JA) 17274:=
 LeftO.of_pieces (H₁:=hK) (gs₁:=⟨[]⟩) (d₁:={}) (k₁:=2139) ajF ajG (λw os=>go_top (ajH w os)<|piece_block (ajI w os)<|(ajM w os).trans<|e8 Y<|ajN w os) Je λw=>by
  funext os;rw[lk1 w os,KW w,lk3 w,lk4 w os];rfl
end HD
namespace I0
open PySem PySem.Spec PyProof.Rows L2
inductive FE|fn(k:JD)(x:Str)(ps:Zg)(q:Sq)|mk(k:JD)(x:Str)(C:ax)(ps:Zg)(q:Sq)|me(k:JD)(C:ax)(m:Str)(ps:Zg)(q:Sq)
def FE.ok(g:G):FE->Prop|.fn k x ps q=>bI g k x ps q|.mk k x C ps q=>dP g k x C ps q|.me k C m ps q=>jX Jj C/\gE g k C m ps q
inductive jC{b:Type}(P:b->Prop):List b->Prop|nil:jC P []|cons{a:b}{l:List b}(h:P a)(t:jC P l):jC P (a::l)
def jC.at{P l}(h:jC P l){a:b}(m:a∈l):P a:=by induction h<;>grind
def Vv{b:Type}{a}{l:List (Str×b)}(h:l.lookup x=Y a):(x,(a))∈l:=by induction l<;>grind
abbrev M(a:Type):=List Nat->Option (a×List Nat)
section
variable {α β:Type}
def bd(m:M α)(f:α->M β):M β:=λh=>Af O (λp=>f p.1 p.2)<|m h
def pr(a:α):M α:=λh=>Y (a,(h))
def no:M α:=λa=>O
def nx(f:Nat->M α):M α:=λh=>mV O (λn l a=>f n l) h
def oe(o:Option α) f n:=Af (motive:=λo=>(∀a,o=Y a->M β)->M β) (λb=>n) (λa f=>f a J) o f
def gp p [d:Decidable p](f:p->M α):M α:=Decidable.rec (λa=>no) f d
def su(n:JD)(a b:α):α:=af3 a (λc c=>b) n
end
def EA(A:Ad):List (ax×List Str):=[(A.fK,(["number","wholes","row"])),(YV,(["line","kind","parts","fault"])),(A.jB,(["facts","fault"])),(A.gF,(["name","lowest","highest","cuts"])),(WX,(["node","run","reading"])),(A.j0,(["source","goal","least","greatest"])),(A.pG,(["event","first","latest"])),(A.kr,(["name","event","life"])),(A.bT,(["nodes","events","words","moments","parcels","lines"])),(ZO,(["scale","known","rows"])),(Z3,(["steps","limits"])),(Yv,(["told","view","parcel","number"])),(A.je,(["scale","moments"])),(A.gW,(["told"])),(A.g7,(["told","refusal"]))]
def KY(a:Jn):jC (λp=>we Jj p.1 p.2) (EA A):=.cons a.KI.dW<|.cons a.KJ.dW<|.cons a.KL.dW<|.cons a.Bj.dW<|.cons a.Bk.dW<|.cons a.Bl.dW<|.cons a.KN.dW<|.cons a.Bm.dW<|.cons a.oq.dW<|.cons a.iC.dW<|.cons a.jf.dW<|.cons a.qL.dW<|.cons a.Bn.dW<|.cons a.KO.dW<|.cons a.KP.dW .nil
abbrev Vx(N P:Zg)(sc:l_):=sc.kind=.function/\sc.isCoroutine=au/\sc.isGenerator=au/\N.Nodup/\N.take P.9=P/\(∀x∈P,sc.names.lookup x=Y .local\/sc.names.lookup x=Y .cell)/\∀y∈sc.names,y.2≠.free
def Vy N P sc:=decide<|Vx N P sc
def ik(h:Vy N P sc=I):fe N P sc:=have (a,b,c,d,e,f,g):Vx N P sc:=WI;(a,b,c,d,e,f,g)
structure Pl(e:dj):Prop where
 st:∀c env,bB (e::c) env=(au,(bC e env))::bB c env
 sw:∀t n env,vN e t n env=pure au
 fo:∀env x,xG e env x=pure x
 ix:Sy e
 bm:∀op,rM op e=au
 sb:∀o pos env v,Dz (.Subscript o e pos) env v=(do let a <-l8 [v] (bC o env);let b <-l8 [v,a] (bC e env);o8 pos;l8 [v,a,b] (setItem a b v);release [v,a,b] [])
abbrev Ab e:=∀f env w,vK e f env w=w
structure RX(X:Cx)(A:Ad)(k:JD)(fs:List FE):Prop where
 nd:Qz
 calm:X.calm=I
 fn:∀x,X.fn x=I
 ps:af1 Jm Yp Jr U0
 room:cQ k Yp
 W:aL (mh X) A
 ok:jC (FE.ok<|mh X) fs
abbrev V0 X e:={t:TE // PE X e t}
structure RE(X:Cx)(e:dj) where
 t:TE
 ok:PE X e t
 pl:Pl e
 ab:Option (PLift<|Ab e)
structure RT(X:Cx)(e:dj) where
 t:TT
 ok:PT X e t
structure RA(X:Cx)(a:List dj) where
 t:TA
 ok:PA X a t
 al:∀pos env,(fI pos<|bB a env).any (·.1)=au
structure Rw(X:Cx)(x:dj) where
 e:M (RE X x)
 t:M (RT X x)
structure RC(X:Cx)(e:dj) where
 t:TE
 ok:PE X e t
 u:TT
 uk:PT X e u
abbrev W0 X e:={t:TT // PW X e t}
section
variable {X:Cx} {A:Ad} {k:Nat} {fs:List FE}
def wv{e}(pl:Pl e)(b:Option<|PLift<|Ab e)(c:∀whole,isTrue e Jr whole=(do let v <-whole;o8 e.pos;l8 [v] (truthy v)))(m:M<|V0 X e):Rw X e:=
 (bd m λa=>pr (a.1,a.2,pl,b),bd m λa=>pr (tB a.1,vT a.2 c))
abbrev Vz(X:Cx) x(i:JD):=X.N[i]?=Y x/\(X.env.scope.names.lookup x=Y .local\/X.env.scope.names.lookup x=Y .cell)/\(x==("__debug__":Str))=au/\(x==("__classdict__":Str))=au
abbrev yy(X:Cx) x:=X.env.scope.names.lookup x=Y .globalImplicit/\(x==("__debug__":Str))=au
def Bp{a:Type} X x(f:∀i,Vz X x i->M a) n:=oe (X.N.findIdx? (·==x)) (λi b=>gp (Vz X x i)<|f i) n
def eNm(b:Q2) x p:M (V0 X<|.Name x p):=
 Bp X x (λi h=>pr (Z i,pv i h.1 (h.2.1.elim .inl λe=>.inr<|.inl e) h.2.2.1 h.2.2.2))<|
 gp (yy X x) λh=>oe (Bh.lookup x) (λn e=>pr (tC<|.int n,wg (b.W.int _<|Vv e) h.1 h.2))<|
 oe ((Bi A).lookup x) (λa e=>pr (tC Jy,Kf (b.W.ref _<|Vv e) h.1 h.2)) no
def eCo c j p:M (V0 X<|.Constant c j p):=match c with
 |.none=>pr (tC .aW,Ic)
 |.bool b=>pr (tC<|.bl b,agi)
 |.int i=>pr (tC WD,e_)
 |.str s=>pr (tC<|.str s,agj)
 |a=>no
variable (r:∀e,Rw X e)
def rA c:M (RA X c):=mV (pr (aa,cb,λa a=>rfl)) (λe c d=>bd (r e).e λa=>bd d λb=>
 pr (U a.t b.t,UL,λpos env=>(e8 (λl=>(fI pos l).any (·.1))<|a.pl.st c env).trans<|b.al pos env)) c
def opR X op(n:JD):Option {R // dD X (mX op) R}:=match op with
 |.Add=>Y<|su n (_,qw) (_,sg)
 |.Sub=>Y (_,yf)
 |.Mult=>Y<|su n (_,TQ) (_,SI)
 |.FloorDiv=>Y (_,Ei)
 |.Mod=>Y (_,Ir)
 |a=>O
def cmR(a:Q2) op(n:JD):Option {R // dD X (gJ op) R}:=match op with
 |.Lt=>Y<|su n (_,DP) (_,ahf a.room.DU)
 |.LtE=>Y (_,DQ)
 |.Gt=>Y<|su n (_,DR) (_,aiF a.room.DU)
 |.GtE=>Y<|su n (_,DS) (_,aiG a.room.DU)
 |.Eq=>Y<|su n (_,uu) (_,ahz a.room.units)
 |.NotEq=>Y<|su n (_,DO) (_,ahA a.room.units)
 |.NotIn=>Y (_,ahl)
 |b=>O
def VB{R:dj->Type} b(f:∀j q,M<|R<|.Constant .none j q):=
 gp (b.ctorIdx=19) λh=>Expr.Constant.elim (motive_1:=λb=>M<|R b) b h λc j q=>gp (c.ctorIdx=0) λh=>Const.none.elim (motive:=λc=>M<|R<|.Constant c j q) c h<|f j q
def ajO(c:Q2) a op b p:M (RC X<|.Compare a [op] [b] p):=match op with
 |.Is=>VB (R:=λb=>RC X<|.Compare a [.Is] [b] p) b λj q=>bd (r a).e λt=>pr (_,RD<|DE Ye,_,um<|DE Ye)
 |.IsNot=>VB (R:=λb=>RC X<|.Compare a [.IsNot] [b] p) b λj q=>bd (r a).e λt=>pr (_,RD<|DF Ye,_,um<|DF Ye)
 |op=>nx λn=>oe (cmR c op n) (λR d=>bd (r a).e λt=>bd (r b).e λu=>pr (_,AK R.2 Ye u.ok<|u.pl.bm _,_,r8 R.2 Ye u.ok<|u.pl.bm _)) no
def VC(e:Q2) a c d p:M (RC X<|.Compare a c d p):=match c,d with
 |[op],[b]=>ajO r e a op b p
 |f,g=>no
def bo2{op}{a b}{l}{p}{e f}(d:PE X a e)(c:PE X (.BoolOp op (b::l) p) f):V0 X (.BoolOp op (a::b::l) p):=match op,c with
 |.And,c=>(_,DG d c)
 |.Or,c=>(_,Ig d c)
def bt2{op}{a b}{l}{p}{e f}(d:PT X a e)(c:PW X (.BoolOp op (b::l) p) f):W0 X (.BoolOp op (a::b::l) p):=match op,c with
 |.And,c=>(_,agp d c)
 |.Or,c=>(_,RH d c)
def bt1{op}{a}{p}{c}(b:PT X a c):W0 X (.BoolOp op [a] p):=match op with
 |.And=>(_,ago b)
 |.Or=>(_,RG b)
def eBo op p l:=mV (motive:=λl=>∀a,M<|V0 X<|.BoolOp op (a::l) p)
 (λa=>bd (r a).e λt=>pr (t.t,RJ Ye)) (λb l c a=>bd (r a).e λt=>bd (c b) λu=>pr<|bo2 Ye u.2) l
def tBo op p l:=mV (motive:=λl=>∀a,M<|W0 X<|.BoolOp op (a::l) p)
 (λa=>bd (r a).t λt=>pr<|bt1 Ye) (λb l c a=>bd (r a).t λt=>bd (c b) λu=>pr<|bt2 Ye u.2) l
def rO o:M {t // PO X o t}:=Af (pr (m9,Su)) (λe=>bd (r e).e λt=>pr (iA t.t,DY Ye)) o
def eIx a b p:=
 if h:b.ctorIdx=26 then Expr.Slice.elim (motive_1:=λb=>M<|V0 X<|.Subscript a b p) b h λc hi st q=>Af (motive:=λst=>M<|V0 X<|.Subscript a (.Slice c hi st q) p)
  (bd (r a).e λt=>bd (rO r c) λl=>bd (rO r hi) λh=>pr (_,Sv D0 Ye l.2 h.2)) (λd=>no) st
 else nx λn=>bd (r a).e λt=>bd (r b).e λu=>pr<|su n (_,gK jx Ye u.ok u.pl.ix) (_,gK oj Ye u.ok u.pl.ix)
structure BL(X:Cx) where
 x:Str
 r:List V->Hp->VK->Prop
 ok:∀{e:dj}{t:TA}{p pos:Pos},PA X [e] t->Gl X x->bB [e] Jr=JM::bB [] Jr->PE X (.Call (.Name x p) [e] [] pos) (bA r t)
def blT(d:Q2):List (BL X):=[("len",_,λa b c=>pE (d.W.b 0) a b c),("len",_,λa b c=>ait (d.W.b 0) a b c),("abs",_,λa b c=>Te (d.W.b 7) a b c),("max",_,λa b c=>aiv (d.W.b 6) a b d.calm c),("min",_,λa b c=>aiw (d.W.b 5) a b d.calm c),("str",_,λa b c=>Tf (d.W.b 8) a b c),("ord",_,λa b c=>Tg (d.W.b 9) a b c),("list",_,λa b c=>Kh (d.W.b 10) a b c),("tuple",_,λa b c=>aix (d.W.b 11) a b c)]
def eFn(c:Q2) x p as i(g:yy X x)(f:FE)(l:f.ok<|mh X):=match f,l with
 |.fn j y ps q,F=>gp (y=x/\j<=k) λh=>mV (motive:=λas=>M<|V0 X<|.Call (.Name x p) as [] i) no (λe d m=>bd (r e).e λa=>bd (rA r d) λb=>
   pr (aN ps.9 q<|U a.t b.t,nh (h.1▸F) (c.room.mono h.2) UL g.1 J g.2 (a.pl.st _ _)<|b.al _ _)) as
 |.mk j y C ps q,F=>gp (y=x/\j+1<=k) λh=>mV (motive:=λas=>M<|V0 X<|.Call (.Name x p) as [] i) (pr (fJ q aa,ah1 (h.1▸F) (c.room.mono h.2) g.1 g.2)) (λe d m=>bd (r e).e λa=>bd (rA r d) λb=>
   pr (fJ q<|U a.t b.t,D8 (h.1▸F) (c.room.mono h.2) UL g.1 g.2 (a.pl.st _ _)<|b.al _ _)) as
 |.me ..,m=>no
def eBi(a:Q2) x p as b(g:yy X x)(n:JD):M (V0 X<|.Call (.Name x p) as [] b):=match as with
 |[e]=>oe (blT a)[n]? (λB c=>gp (B.x=x) λh=>bd (r e).e λt=>pr (bA B.r<|U t.t aa,h▸B.ok (br Ye cb ZS) (by rw[h];show g.1) ZS)) no
 |c=>no
def VD{o as ap a env}(c:Ab o)(d:(fI a<|bB as env).any (·.1)=au)(e:as.9<30)(g:(ap.endLine==a.line)=I) m:bC (.Call YW as [] a) env=(do
   let b <-bC o env
   o8 ap.atName
   let (f,first) <-l8 [b] (vO b m<|do return (<-importBound o env).getD I)
   xW a f first (fI a<|bB as env) (qi a<|qg [] env)):=by
 change (do
  let b <-vK o m env (bC o env);o8 ap.atName;methodCall o m ap a env b as.9 (fI a<|bB as env) (qi a<|qg [] env))=_
 haveI h:methodCallForm as.9 (fI a<|bB as env) (qi a<|qg [] env)=I:=by
  change (_&&I&&decide (as.9+0<30))=I
  rw[<-List.not_any_eq_all_not,d];show cn e
 delta methodCall calleeOf methodCallPos;rw[c,h,g];rfl
def eMe(g:Q2) o m as ap c(d:as.9<30)(i:(ap.endLine==c.line)=I)(f:FE)(s:f.ok<|mh X):M (V0 X<|.Call YW as [] c):=match f,s with
 |.me j C y ps q,F=>gp (y=m/\j<=k) λh=>bd (r o).e λw=>oe w.ab (λn t=>mV (motive:=λas=>as.9<30->M (V0 X<|.Call YW as [] c))
   (λd=>pr (c5 C m ps.9 q w.t aa,Kq F.1 (h.1▸F.2) (g.room.mono h.2) w.ok J<|VD n.down J d i _))
   (λe p t d=>bd (r e).e λa=>bd (rA r p) λb=>pr (c5 C m ps.9 q w.t<|U a.t b.t,Kp F.1 (h.1▸F.2) (g.room.mono h.2) w.ok UL J (a.pl.st _ _) (b.al _ _)
    (VD n.down ((e8 (λl=>(fI c l).any (·.1))<|a.pl.st p _).trans<|b.al c _) d i _))) as d) no
 |t,u=>no
structure BM(X:Cx) where
 m:Str
 r:V->List V->Hp->VK->Prop
 ok:∀{o e:dj}{to:TE}{t:TA}{ap a:Pos},PE X o to->PA X [e] t->vK o m Jr (bC o Jr)=bC o Jr->(((((fI a<|bB [e] Jr).all λx=> !x.fst)&&(qi a<|qg [] Jr).all λx=>x.fst.isSome)&&decide (([e].9+([]:List Rp).9+if ([]:List Rp).isEmpty=I then 0 else 1) <30))=I)->(ap.endLine==a.line)=I->bB [e] Jr=JM::bB [] Jr->PE X (.Call YW [e] [] a) (ff U2 "list" r to t)
def bmT X:List (BM X):=[("append",_,λa b c d e f=>IH OU aeD ash D4 a b c d e f J),("extend",_,λa b c d e f=>IH OU asW PySem.F.type_list_extend ahs a b c d e f J)]
def eAp o m as ap b(c:(ap.endLine==b.line)=I)(n:JD):M (V0 X<|.Call YW as [] b):=match as with
 |[e]=>oe (bmT X)[n]? (λB d=>gp (B.m=m) λh=>bd (r o).e λw=>oe w.ab (λa d=>bd (r e).e λu=>
   pr (ff U2 "list" B.r w.t<|U u.t aa,h▸B.ok w.ok (br u.ok cb<|u.pl.st _ _) (a.down _ _ _) (by rw[u.pl.st];rfl) c (u.pl.st _ _))) no) no
 |[]=>gp (m="pop") λh=>bd (r o).e λw=>oe w.ab (λa d=>pr (IG U2 "list" II w.t,h▸ahr OU atn PySem.F.type_list_pop aht w.ok (a.down _ _ _) c)) no
 |d=>no
structure RF(X:Cx)(f:dj)(as:List dj)(a:Pos) where
 m:M (V0 X<|.Call f as [] a)
 ab:Option (PLift<|Ab<|.Call f as [] a)
def VE(j:Q2) f as d:=
 if h:f.ctorIdx=23 then Ai (motive_1:=λf=>RF X f as d) f h λx p=>
  (gp (yy X x) λg=>nx λn=>oe fs[n]? (λF e=>eFn r j x p as d g F<|j.ok.at<|bM e)<|eBi r j x p as d g<|n-90,mV (motive:=λas=>Option<|PLift<|Ab<|.Call (.Name x p) as [] d) O (λs s s=>Y ⟨λa a a=>rfl⟩) as)
 else if h:f.ctorIdx=20 then Rb (motive_1:=λf=>RF X f as d) f h λo m ap=>
  (gp (as.9<30/\(ap.endLine==d.line)=I) λh=>nx λn=>oe fs[n]? (λF e=>eMe r j o m as ap d h.1 h.2 F<|j.ok.at<|bM e)<|eAp r o m as ap d h.2<|n-90,Y ⟨λa a a=>rfl⟩)
 else (gp (f.ctorIdx=21) λh=>Ra (motive_1:=λf=>M<|V0 X<|.Call f as [] d) f h λc i q=>bd (r<|.Subscript c i q).e λw=>mV (motive:=λas=>M<|V0 X<|.Call (.Subscript c i q) as [] d) no
  (λe l s=>bd (r e).e λa=>bd (rA r l) λb=>pr (qF (mh X) k w.t<|U a.t b.t,aiB j.room w.ok UL (a.pl.st _ _)<|b.al _ _)) as,O)
def stR(d:Q2) e:=
 if h:Uq=23 then Ai (motive_1:=Rw X) e h λx p=>wv (λa a=>rfl,λa a a=>rfl,λa a=>rfl,λa a=>rfl,λa=>rfl,λa a a a=>rfl) (Y ⟨λa a a=>rfl⟩) (λa=>rfl)<|eNm d x p
 else if h:Uq=19 then Expr.Constant.elim (motive_1:=Rw X) e h λc j p=>wv (λa a=>rfl,λa a a=>rfl,λa a=>rfl,λa a=>rfl,λa=>rfl,λa a a a=>rfl) (Y ⟨λa a a=>rfl⟩) (λa=>rfl)<|eCo c j p
 else if h:Uq=20 then Rb (motive_1:=Rw X) e h λo f p=>wv (λa a=>rfl,λa a a=>rfl,λa a=>rfl,λa a=>rfl,λa=>rfl,λa a a a=>rfl) (Y ⟨λa a a=>rfl⟩) (λa=>rfl)<|nx λn=>oe (EA A)[n]? (λC e=>gp (f∈C.2) λy=>bd (r o).e λw=>oe w.ab (λg z=>pr (aD C.1 w.t f,i6 ((KY d.W).at (bM e)) y w.ok<|g.down _ _ _)) no)<|bd (r o).e λw=>oe w.ab (λg z=>pr (Iz U2 w.t f,agW w.ok<|g.down _ _ _)) no
 else if h:Uq=2 then Expr.BinOp.elim (motive_1:=Rw X) e h λa op b p=>wv (λa a=>rfl,λa a a=>rfl,λa a=>rfl,λa a=>rfl,λa=>rfl,λa a a a=>rfl) (Y ⟨λa a a=>rfl⟩) (λa=>rfl)<|nx λn=>oe (opR X op n) (λR z=>bd (r a).e λt=>bd (r b).e λu=>pr (ah R.1 t.t u.t,iz R.2 Ye u.ok)) no
 else if h:Uq=21 then Ra (motive_1:=Rw X) e h λa b p=>wv (λa a=>rfl,λa a a=>rfl,λa a=>rfl,λa a=>rfl,λa=>rfl,λa a a a=>rfl) (Y ⟨λa a a=>rfl⟩) (λa=>rfl)<|eIx r a b p
 else if h:Uq=16 then Expr.Call.elim (motive_1:=Rw X) e h λf as i p=>mV (motive:=λi=>Rw X<|.Call f as i p) (wv (λa a=>rfl,λa a a=>rfl,λa a=>rfl,λa a=>rfl,λa=>rfl,λa a a a=>rfl) (VE r d f as p).ab (λa=>rfl) (VE r d f as p).m) (λz z z=>(no,no)) i
 else if h:Uq=24 then Expr.List.elim (motive_1:=Rw X) e h λq p=>wv (λa a=>rfl,λa a a=>rfl,λa a=>rfl,λa a=>rfl,λa=>rfl,λa a a a=>rfl) (Y ⟨λa a a=>rfl⟩) (λa=>rfl)<|bd (rA r q) λt=>pr (bx t.t,jY Ye)
 else if h:Uq=25 then Rk (motive_1:=Rw X) e h λq j p=>wv (λa a=>rfl,λa a a=>rfl,λa a=>rfl,λa a=>rfl,λa=>rfl,λa a a a=>rfl) (Y ⟨λa a a=>rfl⟩) (λa=>rfl)<|bd (rA r q) λt=>pr (hZ t.t,AM Ye)
 else if h:Uq=15 then Expr.Compare.elim (motive_1:=Rw X) e h λa s v p=>(bd (VC r d a s v p) λc=>pr (c.t,c.ok,(λa a=>rfl,λa a a=>rfl,λa a=>rfl,λa a=>rfl,λa=>rfl,λa a a a=>rfl),Y ⟨λa a a=>rfl⟩),bd (VC r d a s v p) λc=>pr (c.u,c.uk))
 else if h:Uq=0 then Expr.BoolOp.elim (motive_1:=Rw X) e h λop l p=>mV (motive:=λl=>Rw X<|.BoolOp op l p) (no,no) (λa l z=>(bd (eBo r op p l a) λc=>pr (c.1,c.2,(λa a=>rfl,λa a a=>rfl,λa a=>rfl,λa a=>rfl,λa=>rfl,λa a a a=>rfl),Y ⟨λa a a=>rfl⟩),bd (tBo r op p l a) λc=>pr (c.1,c.2.pt))) l
 else if h:Uq=5 then Expr.IfExp.elim (motive_1:=Rw X) e h λc a b p=>(bd (r c).t λt=>bd (r a).e λu=>bd (r b).e λw=>pr (_,DH Ye u.ok w.ok,(λa a=>rfl,λa a a=>rfl,λa a=>rfl,λa a=>rfl,λa=>rfl,λa a a a=>rfl),Y ⟨λa a a=>rfl⟩),no)
 else if h:Uq=3 then Expr.UnaryOp.elim (motive_1:=Rw X) e h λop a p=>match op with
  |.USub=>(bd (r a).e λt=>pr (_,R1 DM Ye,(λa a=>rfl,λa a a=>rfl,λa a=>rfl,λa a=>rfl,λa=>rfl,λa a a a=>rfl),Y ⟨λa a a=>rfl⟩),no)
  |.Not=>(no,bd (r a).t λt=>pr (_,agq Ye))
  |z=>(no,no)
 else (no,no)
def VF(a:Q2)(n:JD):∀e,Rw X e:=af3 (λb=>(no,no)) (λb r=>stR r a) n
def rGs(b:Q2) a:M {t // yd X a t/\(ub a Jr).9=a.9/\(ub a Jr).findIdx? (·.1)=O}:=mV (pr (gB,RO,J,J))
 (λe a c=>gp (Uq=23) λh=>Ai (motive_1:=λe=>M {t // yd X (e::a) t/\(ub (e::a) Jr).9=(e::a).9/\(ub (e::a) Jr).findIdx? (·.1)=O}) e h λx p=>
  Bp X x (λi h=>bd c λu=>pr (cX (aC i) u.1,Il (iB i b.nd h.1 h.2.1<|.inl<|b.fn x) u.2.1,e8 (·+1) u.2.2.1,(List.findIdx?_cons ..).trans<|e8 (Ag (·+1)) u.2.2.2)) no) a
def rG(a:Q2) e:=
 if h:Uq=23 then Ai (motive_1:=λe=>M {t // PG X e t}) e h λx p=>Bp X x (λi h=>pr (aC i,iB i a.nd h.1 h.2.1<|.inl<|a.fn x)) no
 else if h:Uq=25 then Rk (motive_1:=λe=>M {t // PG X e t}) e h λb j p=>bd (rGs a b) λu=>pr (gC U2 b.9 u.1,RQ a.calm u.2.1 u.2.2.1 u.2.2.2)
 else gp (Uq=21) λh=>Ra (motive_1:=λe=>M {t // PG X e t}) e h λo i p=>bd (r o).e λt=>bd (r i).e λu=>pr (vX t.t u.t v9,RR Ye u.ok SD<|u.pl.sb _ _ _)
structure IT(X:Cx)(a:dj)(x:Str)(as:List dj)(p b:Pos) where
 t:TI
 ok:PI X a (.Call (.Name x p) as [] b) t
def itT(d:Q2) c x p as f(g:yy X x)(n:JD):M (IT X c x as p f):=match as with
 |[a]=>bd (r a).e λt=>match n with
  |2=>gp (x="range") λh=>pr (kZ<|U t.t aa,h▸wj (d.W.b 1) (br Ye cb ZS) (h▸g.1) ZS)
  |6=>gp (x="reversed") λh=>pr (D7 U2<|U t.t aa,h▸aiy (d.W.b 4) (br Ye cb ZS) (h▸g.1) ZS)
  |n=>gp (x="enumerate"/\c.ctorIdx=25) λh=>Rk (motive_1:=λc=>M<|IT X c x [a] p f) c h.2 λi j q=>pr (su (n-3)
   (jc U2<|U t.t aa,h.1▸Ti (d.W.b 2) (br Ye cb ZS) (h.1▸g.1) ZS) (Kb U2<|U t.t aa,h.1▸ah7 (d.W.b 2) (br Ye cb ZS) (h.1▸g.1) ZS))
 |[a,b]=>bd (r a).e λt=>bd (r b).e λu=>match n with
  |2=>gp (x="range") λh=>pr (AH<|U t.t<|U u.t aa,h▸Th (d.W.b 1) (br Ye (br u.ok cb<|u.pl.st _ _) ZS) (h▸g.1) ((t.pl.st _ _).trans<|e8 _<|u.pl.st _ _) (u.pl.st _ _))
  |l=>gp (x="zip"/\c.ctorIdx=25) λh=>Rk (motive_1:=λc=>M<|IT X c x [a,b] p f) c h.2 λi j q=>pr
   (AZ U2<|U t.t<|U u.t aa,h.1▸aij (d.W.b 3) (br Ye (br u.ok cb<|u.pl.st _ _) ZS) (h.1▸g.1) ZS (by rw[u.pl.st];rfl))
 |l=>no
abbrev RI X b a:={t // PI X b a t/\∀x,xG a Jr x=pure x}
def rI'(j:Q2) b a:=nx λn=>match n with
 |0=>bd (r a).e λt=>pr (gU U2 t.t,qu Ye,t.pl.fo _)
 |1=>bd (r a).e λt=>pr (Io U2 t.t,RZ Ye,t.pl.fo _)
 |7=>bd (r a).e λt=>pr (IY t.t,SV Ye,t.pl.fo _)
 |n=>gp (a.ctorIdx=16) λh=>Expr.Call.elim (motive_1:=λa=>M<|RI X b a) a h λf as c d=>mV (motive:=λc=>M<|RI X b<|.Call f as c d)
  (gp (f.ctorIdx=23) λh=>Ai (motive_1:=λf=>M<|RI X b<|.Call f as [] d) f h λx p=>gp (yy X x) λg=>bd (itT r j b x p as d g n) λi=>pr (i.t,i.ok,λa=>rfl)) (λl l l=>no) c
def rAs(b:Q2) a e p:=
 if h:a.ctorIdx=23 then Ai (motive_1:=λa=>M {t // PS X (.Assign [a] e p) t}) a h λx q=>Bp X x (λi h=>bd (r e).e λt=>pr (aP t.t<|aC i,ij i b.nd Ye h.1 h.2.1 (t.pl.sw _ _ _)<|.inl<|b.fn x)) no
 else if h:a.ctorIdx=20 then Rb (motive_1:=λa=>M {t // PS X (.Assign [a] e p) t}) a h λo f q=>nx λn=>oe (EA A)[n]? (λC z=>gp (f∈C.2) λc=>bd (r o).e λt=>bd (r e).e λu=>pr (cJ C.1 t.t u.t f,Bb ((KY b.W).at (bM z)) c Ye u.ok<|u.pl.sw _ _ _)) no
 else gp (a.ctorIdx=21) λh=>Ra (motive_1:=λa=>M {t // PS X (.Assign [a] e p) t}) a h λo i q=>bd (r e).e λt=>bd (rG r b<|.Subscript o i q) λg=>pr (aP t.t g.1,RV Ye g.2<|t.pl.sw (Y<|.Subscript o i q) p.line Jr)
def rAu(b:Q2) a e p:=
 if h:a.ctorIdx=23 then Ai (motive_1:=λa=>M {t // PS X (.AugAssign a .Add e p) t}) a h λx q=>Bp X x (λi h=>bd (r e).e λt=>pr (n8 i t.t U1,air i b.nd Ye h.1 h.2.1<|.inl<|b.fn x)) no
 else gp (a.ctorIdx=20) λh=>Rb (motive_1:=λa=>M {t // PS X (.AugAssign a .Add e p) t}) a h λo f q=>nx λn=>oe (EA A)[n]? (λC z=>gp (f∈C.2) λc=>bd (r o).e λt=>bd (r e).e λu=>pr (Kd C.1 t.t u.t IA f,ain ((KY b.W).at (bM z)) c Ye u.ok agX)) no
abbrev RS X s:={t // PS X s t}
abbrev KZ X l:={t // iP X l t}
def stS(d:Q2)(h:∀l,M<|KZ X l) s:M (RS X s):=match s with
 |.Return (Y e) j=>bd (r e).e λt=>pr (aH t.t,iQ Ye)
 |.Return O j=>pr (Ii,agu)
 |.Expr e j=>bd (r e).e λt=>pr (cG t.t,Ih Ye<|t.pl.sw _ _ _)
 |.Continue j=>pr (AD,ags)
 |.If c a b j=>bd (r c).t λt=>bd (h a) λu=>bd (h b) λw=>pr (a_ t.t u.1 w.1,vW Ye u.2 w.2)
 |.For f i b [] j=>bd (rI' r d f i) λt=>bd (rG r d f) λg=>bd (h b) λu=>pr (dc t.1 g.1 u.1,vY d.ps d.calm t.2.1 g.2 u.2 t.2.2)
 |.While c b [] j=>bd (r c).t λt=>bd (h b) λu=>pr (r6 t.t u.1,RY d.ps Ye u.2)
 |.AugAssign f .Add e p=>rAu r d f e p
 |.Assign [f] e p=>rAs r d f e p
 |j=>no
def rB1(a:∀s,M<|RS X s) l:=mV (motive:=λl=>∀s,M<|KZ X<|s::l) (λs=>bd (a s) λt=>pr (t.1,fB t.2)) (λq l b s=>bd (a s) λt=>bd (b q) λu=>pr (ay t.1 u.1,eQ t.2 u.2)) l
def VG(a:Q2)(n:JD):∀l,M (KZ X l):=af3 (λc=>no) (λc b l=>mV (pr (ba,yc)) (λs l c=>rB1 (stS r a b) l s) l) n
end
structure CA where
 f:ax
 bu:aO
 A:fA
 outer:List Env
 s:bc
 H:Hp
 E:XK
abbrev yz g A k N a st fs(c:CA):=RX (cx g N a ZN c.f c.bu c.A c.outer c.s c.H c.E) A k fs
def Bq{st}{fs} b{c}(a:yz g A k N d st fs c):=(VG (VF a 12) a 8 (iY st) b).map (·.1.1)
def uH{st}(i:Jn)(S:fe N ps ZN) b fs(ok:Yg)
  (h:∀c (a:yz g A k N d st fs c),Bq b a=Y t):ig g k N d st t:=by
 intro f bu j outer s H E l;let a:yz g A k N d st fs (f,bu,j,outer,s,H,E):=(S.nd,J,λa=>rfl,xQ,l,i,ok);let h:=h _ a;delta Bq at h;cases e:VG (VF a 12) a 8 (iY st) b with|none=>rw[e]at h;cases h|some r=>rw[e]at h;cases h;show r.1.2
section
variable {g:G} {A:Ad} {k:Nat} {x m qual:Str} {C:ax} {ps:List Str} {q:Sq} {fs:List FE} {st:eP}
def fz:jC (FE.ok g) []:=.nil
def fc(F:bI g k x ps q)(t:Yg):jC (FE.ok g) (.fn k x ps q::fs):=.cons F t
def kc(F:dP g k x C ps q)(t:Yg):jC (FE.ok g) (.mk k x C ps q::fs):=.cons F t
def mc(c:jX Jj C)(F:gE g k C m ps q)(t:Yg):jC (FE.ok g) (.me k C m ps q::fs):=.cons (c,F) t
def uI st:=(bY st).names.filterMap λp=>match p.2 with
 |.local=>Y p.1
 |.cell=>Y p.1
 |a=>O
abbrev stN(n:JD)(vs:Ju):L2.St:=vs.map Y++cW (n-vs.9) O
def Br(n:JD) ps st:=Vy (uI st) ps ZN&&HN (uI st).9 n
def Bs:Nat->(List aO->Prop)->Prop|0,P=>P []|n+1,P=>∀a,Bs n λb=>P<|a::b
theorem Bs.at:∀{n P},Bs n P->∀b,b.9=n->P b|0,c,h,[],d=>h|n+1,c,h,a::b,e=>(h a).at b (Nat.succ.inj e)
abbrev Bt x qual st(ps:Zg):=Bs ps.9 λa=>∀(kV b pm:aO) (c:YT) (bu ct:aO),xX (rN x qual (qB st) (iY st) ZN .none kV b pm c bu ct) (a,[])=pure (ps.zip a)
theorem Bt.at(h:Bt x qual st ps):gu x qual st ps:=λa b c d e f i l=>Bs.at h i l a b c d e f
def K0(S:Br n ps st=I):fe (uI st) ps ZN/\(uI st).9=n:=by delta Br at S;rw[jo]at S;show(ik S.1,Nat.eq_of_beq_eq_true S.2)
def EB(s:eP):=(qB s).args.map (·.arg)
abbrev aK(g:G)(k j:JD)(q:Sq):=bI g k (uG YD) (EB YD) q
def aK.rd(a:Jn)(n:JD) b(ok:Yg) t(h:∀vs H Q,vs.9=(EB YD).9->q vs H Q->t Yy (stN n vs) H)
  (d:autoParam (KD.contains j=I) q') (S:autoParam (Br n (EB YD) YD=I) q') (B:autoParam (Bt (uG YD) (uG YD) YD (EB YD)) i') (e:autoParam (∀c (f:yz g A k (uI YD) (uG YD) YD fs c),Bq b f=Y t) i'):aK g QU j q:=by
 let(sc,rfl):=K0 S;show bI.of (a.fns (uG YD,(top j))<|eJ.2 (j,List.contains_iff_mem.1 d,J)) sc B.at (uH a sc b fs ok e) h
def gE.rd(b:Jn)(F:MethAt g C m qual st) n a(ok:Yg) t(h:∀vs H Q,vs.9=ps.9->q vs H Q->t Yy (stN n vs) H)
  (S:autoParam (Br n ps st=I) q') (B:autoParam (Bt m qual st ps) i') (e:autoParam (∀c (d:yz g A k (uI st) qual st fs c),Bq a d=Y t) i'):gE g QU C m ps q:=by
 let(sc,rfl):=K0 S;show gE.of F sc B.at (uH b sc a fs ok e) h
def dP.rd(d:Jn)(c:J_ g x C qual st l) n b(ok:Yg) t
  (i:∀vs H Q,q vs H Q->∀x a,H x=O->H a=O->a≠x->(V.ref x::vs).9=ps.9/\t (iZ λv f=>v=.aW/\Q (.ref x) f) (stN n<|.ref x::vs) UD)
  (S:autoParam (Br n ps st=I) q') (B:autoParam (Bt "__init__" qual st ps) i') (e:autoParam (∀c (j:yz g A k (uI st) qual st fs c),Bq b j=Y t) i'):dP g QU x C ps q:=by
 let(sc,rfl):=K0 S;show dP.of c sc B.at (uH d sc b fs ok e) (q0:=λvs H Q=>t Yy (stN (uI st).9 vs) H) (λm m m m h=>h) i
end
structure K1(X:Cx)(P:ax)(qual:Str):Prop where
 code:∃c,X.env.code=.ref c/\vH YC c P
 bm:∃bm a,X.mg "__builtins__"=Y (.ref bm)/\bm≠Aj/\bm≠eY/\X.base.get? bm=Y a/\a.cls=.type "module"/\a.dict=Y Aj/\a.data=.plain
 qual:X.env.qual++"<lambda>"=qual
def VH{F:L2.St}
  (L:K1 X P i) (a:Inv X yq F H s) (p:H P=Y (.tab z pos i)) (ai:afW params Jr=([],([]))) (N:HJ scope Jr=pure r)
  (h:∀f g j y w,Inv X yq F w y->az H w->w g=Y (.rV i)->w f=O->Jd<=f->y.heap.get? f=Y (zU "<lambda>" i params body scope r ((X.mg "__name__").getD .none) g j)->Q J7 y):
  bj Jm Yp (bC (.Lambda params body scope pos) Jr) Q U0 s:=by
 let(c,R,C):=L.code;let(S,ob,b1,b2,b3,T,b5,b6,b7):=L.bm;let(ps,(m0,al),ab,x,cc):=a.bo P _ p;let A:=a.ok.mod.glob.keeps a.bk;let am:eY≠P:=λq=>by
  let(o,es,ep,e,hd,_):=A;lia
 let an:S≠P:=λq=>by
  let:=(a.bs _ _ T).2;lia
 let hC:=C.keeps a.bk;let k:s.heap.BuiltinsAt X.mg P:=(S,ob,b1,b2,b3,an,a.bk _ _ T,b5,b6,b7);apply PySem.W.kla_eval ai;rw[L.qual];rcases cc with hn|⟨g,B,D⟩
 .show PySem.W.kla_makeFunction N a.ok.glob A R hC ab x hn am k λg j h' tk hx E ac ao ae=>?_
  let l:=a.bo.fresh E;let m:∀b o,b≠P->s.heap.get? b=Y o->(h'.push<|zU "<lambda>" i params body scope r ((X.mg "__name__").getD .none) g j).get? b=Y o:=λb o k e=>dm _<|hx b o k e
  let nP:∀b,H b=O->b≠P:=λb n=>(dH p n).3
  let un:Un X.fs [] H (aA H g<|.rV i) s.13 (h'.push<|zU "<lambda>" i params body scope r ((X.mg "__name__").getD .none) g j):=by
   show(λb o e n K K=>m b o (nP b n) e,λb o e n K K=>(o.slots,m b o (nP b n) e),λb o e n K=>by rw[aJ<|(λb o e=>iw<|iJ (dF e) E) b o e];show n,λb o e K=>?_,λb xs e=>by rw[aJ<|dH e l];show e,λb o u e=>by rw[aJ<|dH e l];show e,λb ps e=>(#[],by rw[aJ<|dH e l,e];simp));cases k:b=P
   .rw[k];show(_,dm _ ae)
   show(o,m b o k e)
  let ok:gS UG X.w (aA H g<|.rV i) (h'.push<|zU "<lambda>" i params body scope r ((X.mg "__name__").getD .none) g j):=by
   let(c2,oc,vs,t,B,D,e3,e4):=id ao;cases B;intro b u e;cases af:b=g
   .subst af;rw[aB]at e;cases e;show(oc,vs,t,dm _ D,e3,e4)
   rw[aJ af]at e;cases ag:b=P
   .subst ag;rw[p]at e;cases e;show(_,(m0++_,by rw[al,Array.append_assoc]),dm _ ae,?_,.inr (g,?_,aB))
    .rw[as7];show TriplesOk_snoc _ _ _ _ x
    rw[as7];show codeAmong_snoc _ x hn
   show (a.bo b u e).ph (λd v hd q=>m d v ?_ q) (λd q=>by rw[aJ<|dH q l];show q) (λd xs q=>by rw[aJ<|dH q l];show q) λd xs q=>by rw[aJ<|dH q l];show q
   rcases hd with rfl|hd
   .show ag
   show eK hd p (by intro z;cases z)
  let hsz:=mU<|fP E ac;show h h'.objs.12 g j _ _ (a.un un ok) (λb u e=>by rw[aJ<|dH e l];show e) aB ?_ hsz UC;rw[aJ<|vL ac];show a.bo.fresh hsz
 show PySem.W.kla_makeFunctionHit N a.ok.glob A R hC ab x B k λj h' tk m hsz=>?_
 show h h'.objs.12 g j _ H (a.kept λb u e=>dm _<|m b u e) QT D (a.bo.fresh hsz) hsz UC
structure FV(g:G)(k:JD)(outer:List Env)(s:bc)(H:Hp)(a:ax)(p:Int->Bool):Prop where
 fn:aua a s.13
 free:H a=O
 nf:a∉kY outer
 run:∀(e:fA) (f:List Env) (d:bc) (b:Hp) (c:JH) (t:JD),cQ k e->og g.P g.w Jj g.mg Wn e f d b->Un (kY outer) [] H b s.13 d.13->az H b->0<=c->c<=Jk->
  o9 (bb g.P g.w) e (.call Jy ([.int c t],[])) (CR jd f g.P g.w b d (λv h=>v=.bl (p c)/\az b h) E0) d
def VI(i:JD)(a:ax)(p:Int->Bool)(H:Hp)(f:TE):TE:=λb g Q=>b[i]?=Y (Y Jy)/\f b g λv d=>∃c,v=.int c/\az H d/\0<=c/\c<=Jk/\∀e,az d e->Q (.bl<|p c) e
def ajP i
  (V:FV g k outer s H a p) (P:cQ k (cx g N d sc f bu A outer s H E).A) (R:∀pos,PE U6 Z9<|Z i) (S:PE U6 e D)
  (he:autoParam (bB [e] (cx g N d sc f bu A outer s H E).env=(au,(bC e (cx g N d sc f bu A outer s H E).env))::bB [] (cx g N d sc f bu A outer s H E).env) a'):
  PE U6 (.Call (.Name x p0) [e] [] pos) (VI i a p H D):=by
 intro yq T m F Q X (ab,h);let L:∀{yq:List QA}{m:L2.St}{j:Hp}{n:bc},Inv U6 yq m j n->aua a n.13:=by
  intro yq m j n w;let(oc,od,fd,sl,ef):=V.fn;show(oc,od,fd,sl,w.base.keep a _ ef V.free V.nf (by intro z;cases z))
 show xF<|bF (R p0 yq T m F (λv j=>v=.ref a/\j=F) X (by change A_ _ _ _;rw[ab];show(J,J))) fun u n (v,j,w,C,ev,eH)=>?_;subst ev;subst eH;obtain rfl:u=eZ a:=C;show PySem.W.callWith_F (L w) (bF ((br S cb he) pos yq n m j (λvs l=>∃c,vs=[.int c]/\az H l/\0<=c/\c<=Jk/\∀b,az l b->Q (.bl<|p c) b) w ?_) fun us s3 (vs,l,B,r3,c,ev,sm,c0,c1,q)=>(L B,?_)) he J
 .change D m j λy l=>∃c,[y]=[.int c]/\az H l/\0<=c/\c<=Jk/\∀b,az l b->Q (.bl<|p c) b
  ext
 subst ev;let(u,rfl,ru):=vals1 r3;let(t,rfl):=ru;show HI<|Ac (V.run _ _ s3 l c t P B.AN B.base sm c0 c1) λr s' o=>?_;cases r with
 |error e=>show gn o
 |ok fl=>
  cases fl with
  |ret u=>
   let(v,b,I4,C,ev,ac):=B.after o;subst ev;show(_,b,I4,C,q b ac)
  |next=>show gn o
  |brk=>show gn o
  |cont=>show gn o
def VJ{K st}(F:uB K x i st f fd)(S:fe N ps ZN)
  (B:vs.9=ps.9) (j:cQ QU A) (g:og P w K mg base A outer s H) (C:BindsTo s fd args<|ps.zip p) (r:bP vs p)
  (D:cQ k (A.deeper<|l9 i ZN Jd f fd.code)->iP (uw jd P w K mg base N i ZN f fd.code A outer s H E).vV (iY st) t)
  (L:t {nx:=λ_ a=>Q .aW a,rt:=Q} U5 H):o9 (bb P w) A (.call J7 args) (CR jd outer P w H s Q E) s:=by
 let(oc,od,kV,ab,pm,an,bu,ct,ac,rfl,R,T):=F.ex;let z:=g.mod.rX.keeps λb o e=>(g.bs b o e).1
 haveI X:∀y∈ps.zip p,(bY st).names.lookup y.1=Y .local\/((bY st).names.lookup y.1=Y .cell/\((iy UZ (bY st).names []).lookup y.1).isSome=I):=fun(n,v) hy=>by
  rcases S.par n (Pq hy).1 with q|q
  .show .inl q
  show .inr (q,aeB _ _ _<|.inl q)
 show atQ j.depth (z _ _ R) J S.co S.gen J (asT z T)<|C _ _ _ _<|asR S.kind X λenv he s1 y=>?_;subst he;show((g.mod.nolimit.keeps λb o e=>(g.bs b o e).1).keeps y.toInCall.keep,codeAny_func<|kX ((D<|j.deeper _).vV [] s1 U5 H _ (Sj S j.hd g B r y) L) (λfl l d=>?_) λe l d=>d);let fin:∀{h:L2.St}{a:Hp}{v:V}{u:aO},Inv (uw jd P w K mg base N i ZN f bu A outer s H E) [] h a l->RelV v u->Q v a->CE outer P w H s Q u l:=
  λ{h a v u} c m q=>(v,a,c.os,c.bare,c.base,c.bo,m,q)
 cases fl with
 |ret u=>
  let(v,h,a,c,m,q):=d;show fin c m q
 |next=>
  let(h,a,c,q):=d;show fin (v:=V.aW) c J q
 |brk=>
  let(_,_,_,q):=d;show gn q
 |cont=>
  let(_,_,_,q):=d;show gn q
abbrev K2:List Str:=["least","holds","end","middle"]
def Bu:fe K2 ["least","holds"] (bY wx):=ik<|by rfl
def ajQ:gu "least_reading" "least_reading" wx ["least","holds"]:=λa a a a a a=>mi λa a=>by kernel_rfl
abbrev VL a p H:=ay (aP (ah QN (tC<|.int Jk) Jh) QQ)<|ay (r6 (aY<|ah QO Ji Jv)<|ay (aP (ah (rI uE wo) (ah QN Ji Jv)<|tC<|.int 2) Zx)<|a_ (tB<|VI 1 a p H JC) (aP JC QQ)<|aP (ah QN JC Jh)<|aC 0)<|aH Ji
def ajR(b:Jn)(V:FV g k outer s H a p)
  (c:cQ k<|d.deeper<|l9 "least_reading" (bY wx) Jd f bu):iP (cx g K2 "least_reading" (bY wx) f bu d outer s H E) (iY wx) (VL a p H):=by
 show eQ (ij 2 Bu.nd<|iz qw (wg<|b.c 19) e_)<|eQ (RY xQ (r8 DP Q3 Wu<|qx _)<|eQ (ij 3 Bu.nd<|iz Ei (iz qw Q3 Wu) e_)<|fB<|vW (vT<|ajP 1 V c (λe=>pv 1) YX) (fB<|ij 2 Bu.nd YX)<|fB<|ij 0 Bu.nd<|iz qw YX e_)<|fB<|iQ Q3
def cY(H a:Hp):Prop:=(∀b xs,H b=Y UO->a b=Y UO)/\∀b o u,H b=Y (.fR o u)->a b=Y (.fR o u)
def cg(s:WE):cY H a:=(λb c h=>s b _ h,λb c c h=>s b _ h)
def cY.trans(a:cY H d)(b:cY d e):cY H e:=(λc f h=>b.1 c _<|a.1 c _ h,λc f f h=>b.2 c _ _<|a.2 c _ _ h)
def cY.refl H:cY H H:=(λa a h=>h,λa a a h=>h)
def aG(h:H p=O):az H (aA H p o):=λb u e=>by rw[aJ<|dH e h];show e
def ajS(s:WE)(h:a p=O):az H (aA a p o):=s.trans<|aG h
theorem cY.lst(h:H p=Y JX):cY H (aA H p o):=
 (λb a e=>by rw[aJ<|eK e h Ja];show e,λb u v e=>by rw[aJ<|eK e h Ja];show e)
theorem cY.ins(h:H p=Y (.ins C a fs)):cY H (aA H p o):=
 (λb c e=>by rw[aJ<|eK e h Ja];show e,λb u v e=>by rw[aJ<|eK e h Ja];show e)
def cN{K}(s:cY H b)(h:bR K H a xs):bR K b a xs:=by
 rcases h with (h|⟨o,h⟩)|h
 .show .inl<|.inl<|s.1 _ _ h
 .show .inl<|.inr (o,s.2 _ _ _ h)
 show .inr h
section
variable {α β:Type} {R S:α->β->Prop}
theorem eS:∀{l}{m}{i:Nat}{y},bw R l m->m[i]?=Y y->∃x,l[i]?=Y x/\R x y
 |_,_,_,_,.nil,e=>by simp at e
 |_,_,0,_,.cons r _,e=>by
  let e:=bt e;subst e;show(_,J,r)
 |_,_,i+1,y,.cons _ t,e=>eS (i:=i) t e
theorem d7:∀{l}{m}{i:Nat}{x},bw R l m->l[i]?=Y x->∃y,m[i]?=Y y/\R x y|_,_,_,_,.nil,e=>by simp at e|_,_,0,_,.cons r _,e=>by ext|_,_,i+1,y,.cons _ t,e=>d7 (i:=i) t e
def b_(h:bw R l m):=auc h
theorem ED(r:R x y):∀{l m} i,bw R l m->bw R (l.set i x) (m.set i y)|_,_,_,.nil=>.nil|_,_,0,.cons _ t=>.cons r t|_,_,i+1,.cons q t=>.cons q<|ED r i t
theorem yA:∀{l a m b},bw R l m->bw R a b->bw R (l++a) (m++b)|_,_,_,_,.nil,s=>s|_,_,_,_,.cons r t,s=>.cons r<|yA t s
def ot(h:bw R l m)(r:R x y):=yA h<|.cons r .nil
theorem dk(f:∀a b,R a b->S a b):∀{l m},bw R l m->bw S l m|_,_,.nil=>.nil|_,_,.cons r t=>.cons (f _ _ r)<|dk f t
end
theorem K3{K}:∀{vs c},bw (Dp K H) vs c->om K H vs c|_,_,.nil=>.nil|_,_,.cons a b=>.cons a<|K3 b
def EE{K}(h:H T=Y (.tup [x,y]))(k:Q ((a.set p<|Y x).set q<|Y y) H):gC K 2 U4 (.ref T) a H Q:=
 (_,_,J,bR.of h,J,_,_,J,_,_,J,J,k)
def lh{K}{j:TS}{D:jU}(Pv:Nat->L2.St->Hp->Prop)(n:Pv 0 b H)(o:∀i b H,i<=xs.9->Pv i b H->aq K H a xs)
  (r:∀i x b H T,xs[i]?=Y x->Pv i b H->H T=O->j {D with nx:=Pv JK,ct:=Pv JK,bk:=D.nx} ((b.set p<|Y WD).set q<|Y x) (aA H T Ue)) (hd:∀b H,Pv xs.9 b H->D.nx b H):
  ∃d:Nat->Nat->L2.St->Hp->Prop,(∃m,d 0 m b H)/\∀i m b H,d i m b H->
   ((uA K a).stop i H/\D.nx b H)\/((uA K a).go i H/\∃N:L2.St->Hp->Prop,(∀f c,N f c->∃k,k<m/\d JK k f c)/\∀x c,(uA K a).jW i H x c->gC K 2 U4 x b c λs t=>j {D with nx:=N,ct:=N,bk:=D.nx} s t):=by
 show(λi m b H=>m=xs.9-i/\i<=xs.9/\Pv i b H,(xs.9,Jc,eX _,n),?_);intro i m b H (rfl,hi,g);let h:=o i b H hi g;cases l:i<xs.9
 .show .inr ((xs,xs[i],h,by simp[l]),Pv JK,λf c u=>(xs.9-JK,JE,J,l,u),λx c y=>?_);let(T,v,rfl,w,rfl,y):=y;show EE aB<|r i v b H T (y xs h) g w
 let e:i=xs.9:=Ja
 subst e;show .inl ((xs,h,JR),hd b H g)
section
variable {K:bH} {H:Hp} {a:ax} {xs:List V} {i j:Int} {v:V} {Q:VK}
def avy(b:bR K H a xs)(h:jw xs i=Y v)(k:Q v H):cf K Jy WD H Q:=(b,h,k)
def avz(b:aq K H a xs)(h:jw xs i=Y v)(k:Q v H):aX K Jy WD H Q:=(b,h,k)
def avA(k:Q (f i j) H):aR f WD (.int j) H Q:=k
end
def g8(x:Str):=x.cps.toList
def VN s:g8 (aZ s)=s.toList.map HS:=by delta g8;rw[Str.ofString_eq_toList]
def VO x y:g8 (x++y)=g8 x++g8 y:=by
 change (x.cps++y.cps).toList=_
 ext;rfl
def K4 x:x.9=(g8 x).9:=by rfl
def VP(h:n<10):=(by decide:∀n<10,(Nat.digitChar n).6=n+48) n h
theorem VQ:∀(f n:Nat),n≠0->n<10^f->(Dm 10 n).map HS=((rF 10 f n).reverse).map λd=>d+48
 |0,n,a,h=>by simp at h;lia
 |f+1,n,a,h=>by
  delta rF;rw[aj a];cases b:n<10
  .haveI e:n / 10=0:=by lia
   haveI c:rF 10 f 0=[]:=by cases f<;>simp[rF]
   rw[asL b,e,c,show n % 10=n by lia];simp[VP b]
  let g:n / 10≠0:=Ja
  let t:Dm 10 (n / 10)++Dm 10 (n % 10)=Dm 10 (10*(n / 10)+n % 10):=Nat.toDigits_append_toDigits Jc Ja Ja;rw[show 10*(n / 10)+n % 10=n by lia]at t;rw[<-t,eV,VQ f (n / 10) g Ja,asL Ja];simp[VP (by lia:n % 10<10)]
def ajT n:n<10^xD n:=by delta xD;let a:n<2^(Am n+1):=auh;let b:2^(Am n+1)<=10^(Am n+1):=atp Jc _;lia
def VR n:(Dm 10 n).map HS=oO n:=by
 delta oO OZ;cases h:n=0
 .subst h;rfl
 rw[aj h];show VQ _ n h<|ajT n
def VS n:(afY n).toList=Dm 10 n:=Jc
def K5 i:g8 (aZ Y4)=tW i:=by
 rw[VN];delta tW;cases i with
 |ofNat n=>
  change (afY n).toList.map HS=_
  rw[VS,VR];rfl
 |negSucc n=>
  change ("-"++afY (n+1)).toList.map HS=_
  rw[String.toList_append,eV,VS,VR,ak Jc];rfl
abbrev VT:List Str:=["letter","whole","ends"]
def VU:fe VT ["letter","whole"] (bY Kr):=ik Jo
def ajU:gu "is_in_range" "is_in_range" Kr ["letter","whole"]:=λa a a a a a=>mi λa a=>by kernel_rfl
def ajV(a:Jn)(b:TabAt g.P g.w Jj A.Be c):ig g 0 VT "is_in_range" Kr (ay (aP (S2 c A.Be (tC<|.ref A.Be) Ji) QQ)<|aH<|uo (ah Ym Jl<|ah JN Jv Jf)<|ah (aR Kj) Jl<|ah JN Jv Jh):=by show λf bu d outer s H E e=>eQ (ij 2 VU.nd<|aik b (Kf<|a.r 1) Q3)<|fB<|iQ<|DG (AK DS ZL (gK oj Wu e_ λa a=>rfl)<|qx _)<|RJ<|AK DQ ZL (gK oj Wu e_ λa a=>rfl)<|qx _
abbrev K6:List Str:=["text","sign"]
def K7:fe K6 ["text"] (bY Ej):=ik Jo
def ajW:gu "bytes_of" "bytes_of" Ej ["text"]:=λa a a a a a=>yr λa=>by kernel_rfl
def ajX(a:Jn):ig g 0 K6 "bytes_of" Ej (aH<|jy (IY Ji) Wv k9 (bA Tc Qh) [1]):=λf bu b outer s H E c=>fB<|iQ<|qE K7.nd (SV Q3) (nc (N:=K6) (sc:=bY Ej) (own:=[("sign",(1))])<|by decide +kernel) (λd d d d d=>iB 1 K7.nd) ZE λd d d d d=>Tg (a.b 9)<|br ZL cb
abbrev VV:List Str:=["over","under","divisor","top","bottom","text"]
def Bv:fe VV ["over","under"] (bY Ks):=ik Jo
def ajY:gu "fraction_answer" "fraction_answer" Ks ["over","under"]:=λa a a a a a=>mi λa a=>by kernel_rfl
abbrev VW(g:G):=aH<|ah ic (bx<|U (bA Qb<|U Q6 aa) aa) Q6
def ajZ(a:Jn)(c:bI g 1 "bytes_of" ["text"] Bw)(d:bI g 1 "common_divisor" ["first","second"] Bx):ig g 1 VV "fraction_answer" Ks (ay (aP (aN 2 Bx<|U (bA S9 ZZ) Qh) QQ)<|ay (aP (ah (rI uE wo) Ji Jv) Zx)<|ay (aP (ah (rI uE wo) Jl Jv) UN)<|ay (aP (aN 1 Bw<|U (rZ (aY<|ah dR Qi Jh) (bA Ta Zo)<|To JC Qi) aa) Ww)<|VW g):=by show λf bu e outer s H E b=>eQ (ij 2 Bv.nd<|nh d Zn<|br (Te (a.b 7)<|br Q3 cb)<|br ZL cb)<|eQ (ij 3 Bv.nd<|iz Ei Q3 Wu)<|eQ (ij 4 Bv.nd<|iz Ei ZL Wu)<|eQ (ij 5 Bv.nd<|nh c Zn<|br (DH (r8 uu (pv 4) e_<|qx _) (Tf (a.b 8)<|br YX cb)<|aiA YX<|pv 4) cb)<|fB<|iQ<|iz sg (jY<|br (pE (a.b 0)<|br (pv 5) cb) cb)<|pv 5
abbrev VX:List Str:=["fact","word","form","part"]
def VY:fe VX ["fact","word"] (bY Ek):=ik Jo
def aj0:gu "take_word" "take_word" Ek ["fact","word"]:=λa a a a a a=>mi λa a=>by kernel_rfl
def aj1(b:Jn)(c:bI g 2 "find_kind" ["word"] a):ig g 4 VX "take_word" Ek (ay (a_ (tB<|gT<|aD YV Ji "kind") (ay (cJ YV Ji (aN 1 a Qh) "kind")<|aH<|qp<|aD YV Ji "kind") ba)<|ay (aP (ah JN (tC<|.ref A.Bf)<|aD YV Ji "kind") QQ)<|ay (a_ (aY<|ah dR (bA Qb<|U (aD YV Ji "parts") aa)<|bA Qb Qg) WJ ba)<|ay (aP (qF g 4 (ah JN Jv<|bA Qb<|U (aD YV Ji "parts") aa) Qh) Zx)<|ay (a_ (tB<|gT JC) WJ ba)<|ay (cG<|ff Jj "list" gb (aD YV Ji "parts") Zo)<|aH<|tC<|.bl I):=
 uH b VY [1,1,0,1,1,1,0,90,1,90,1,90,1,90,1] [.fn 2 "find_kind" ["word"] a] (.cons c .nil) (λd d=>by kernel_rfl)
abbrev VZ:List Str:=["told","parts"]
def V2:fe VZ ["told","parts"] (bY El):=ik Jo
def aj2:gu "take_word" "take_word" El ["told","parts"]:=λa a a a a a=>mi λa a=>by kernel_rfl
def aj3(a:Jn)(b:dP g 1 "Word" A.j0 ["self","source","goal","least","greatest"] EF):ig g 2 VZ "take_word" El (cG<|ff Jj "list" gb ZQ<|U (fJ EF<|U Qo<|U JZ<|U JV<|U (ah Jq Jl<|tC<|.int 3) aa) aa):=
 uH a V2 [90,8,0,0,0,0,0] [.mk 1 "Word" A.j0 ["self","source","goal","least","greatest"] EF] (.cons b .nil) (λc c=>by kernel_rfl)
abbrev V8:List Str:=["first","second"]
def aj4:fe V8 ["first","second"] (bY Kt):=ik Jo
def aj5:gu "add_limits" "add_limits" Kt ["first","second"]:=λa a a a a a=>mi λa a=>by kernel_rfl
def aj6(a:Jn):ig g 0 V8 "add_limits" Kt (ay (a_ (fS (tB<|gT Ji)<|tB<|gT Jl) Zy ba)<|aH<|hZ<|U (ah QN (ah JN Ji Jf)<|ah JN Jl Jf)<|U (bA S_<|U (ah JN Ji Jh)<|U (ah JN Jl Jh) aa) aa):=by show λf bu b outer s H E c=>eQ (vW (RH (um<|DE Q3)<|RG<|um<|DE ZL).pt (fB<|iQ Ic) yc)<|fB<|iQ<|AM<|br (iz qw (gK oj Q3 e_ λa a=>rfl)<|gK oj ZL e_ λa a=>rfl)<|br (aiu (a.b 5)<|br (gK oj Q3 e_ λa a=>rfl)<|br (gK oj ZL e_ λa a=>rfl) cb) cb
abbrev K8:List Str:=["rows","limits","middle","onward","row"]
def yB:fe K8 ["rows"] (bY Em):=ik Jo
def aj7:gu "close_limits" "close_limits" Em ["rows"]:=λa a a a a a=>yr λa=>by kernel_rfl
def aj8(a:Jn)(b:bI g 2 "tighten_row" ["row","first","onward"] K9):ig g 2 K8 "close_limits" Em (ay (aP (jy (gU Jj Ji) UN k9 (bA (Kg Jj) ZY) [4]) Wv)<|ay (dc (kZ<|U (bA Qb Qh) aa) QQ<|ay (aP (bA (Kg Jj)<|U (ah Jq Jl Jv) aa) Zx)<|dc (gU Jj Jl) UN<|a_ (tB<|qp<|ah Jq Qi Jv) (cG<|aN 3 K9<|U Qi<|U (ah Jq Qi Jv) Zo) ba)<|aH Jl):=by show λf bu d outer s H E c=>eQ (Ke 1 yB.nd (qu Q3) (nc (N:=K8) (sc:=bY Em) (own:=[("row",(4))])<|by decide +kernel) (λe e e e e=>iB 4 yB.nd) ZE λe e e e e=>Kh (a.b 10)<|br (pv 4) cb)<|eQ (vY xQ J (wj (a.b 1)<|br (pE (a.b 0)<|br ZL cb) cb) (iB 2 yB.nd)<|eQ (ij 3 yB.nd<|Kh (a.b 10)<|br (gK jx ZL Wu λa a=>rfl) cb)<|fB<|vY xQ J (qu ZL) (iB 4 yB.nd)<|fB<|vW (um<|DF<|gK jx (pv 4) Wu λa a=>rfl) (fB<|Ih<|nh b (c.mono Je)<|br (pv 4)<|br (gK jx (pv 4) Wu λa a=>rfl)<|br YX cb) yc)<|fB<|iQ ZL
abbrev K_:List Str:=["self","scale","known","place","event"]
def EG:fe K_ ["self","scale","known"] (bY Bc):=ik Jo
def aj9:gu "__init__" "Steps.__init__" Bc ["self","scale","known"]:=λa a a a a a=>Ki λa a a=>by kernel_rfl
def aka(a:Jn):ig g 0 K_ "Steps.__init__" Bc (ay (cJ ZO Ji Jl "scale")<|ay (cJ ZO Ji Jv "known")<|ay (cJ ZO Ji (jy (kZ<|U (ah QN (bA Qb Qg) Jh) aa) UN k9 (ah yj (bx<|U (tC .aW) aa)<|ah QN (bA Qb Qg) Jh) [4]) "rows")<|dc (kZ<|U (ah QN (bA Qb Qg) Jh) aa) Zx<|aP Zu<|vX (ah Jq (aD ZO Ji "rows") JC) JC v9):=by show λf bu b outer s H E c=>eQ (Bb a.iC.dW (.head _) Q3 ZL)<|eQ (Bb a.iC.dW Qc Q3 Wu)<|eQ (Bb a.iC.dW Yc Q3<|qE EG.nd (wj (a.b 1)<|br (iz qw (pE (a.b 0)<|br Wu cb) e_) cb) (nc (N:=K_) (sc:=bY Bc) (own:=[("event",(4))])<|by decide +kernel) (λd d d d d=>iB 4 EG.nd) ZE λd d d d d=>iz SI (jY<|br Ic cb)<|iz qw (pE (a.b 0)<|br Wu cb) e_)<|fB<|vY xQ J (wj (a.b 1)<|br (iz qw (pE (a.b 0)<|br Wu cb) e_) cb) (iB 3 EG.nd)<|fB<|RV (Kf<|a.r 6)<|RR (gK jx (i6 a.iC.dW Yc Q3) YX λa a=>rfl) YX SD
abbrev EH:List Str:=["told","event","node","before","earlier","word"]
def yC:fe EH ["told","event"] (bY Bd):=ik Jo
def akb:gu "events_before" "events_before" Bd ["told","event"]:=λa a a a a a=>mi λa a=>by kernel_rfl
def akc(a:Jn):ig g 0 EH "events_before" Bd (ay (aP (aD WX (ah Jq J3 Jl) "node") QQ)<|ay (aP (jy (kZ Qh) UN (aY<|ah dR (aD WX (ah Jq J3 Qi) "node") Jv) Qi [4]) Zx)<|aH<|ah ic JC<|jy (gU Jj ZQ) Ww (aY<|ah dR (aD A.j0 Q6 "goal") Jl) (aD A.j0 Q6 "source") [5]):=by show λf bu b outer s H E c=>eQ (ij 2 yC.nd<|i6 a.Bk.dW (.head _)<|gK jx (i6 a.oq.dW Qc Q3) ZL λa a=>rfl)<|eQ (Ke 3 yC.nd (wj (a.b 1)<|br ZL cb) (nc (N:=EH) (sc:=bY Bd) (own:=[("earlier",(4))])<|by decide +kernel) (λd d d d d=>iB 4 yC.nd) (λd d d d d=>IV<|r8 uu (i6 a.Bk.dW (.head _)<|gK jx (i6 a.oq.dW Qc Q3) (pv 4) λa a=>rfl) Wu<|qx _) λd d d d d=>pv 4)<|fB<|iQ<|iz sg YX<|qE yC.nd (qu<|i6 a.oq.dW Yc Q3) (nc (N:=EH) (sc:=bY Bd) (own:=[("word",(5))])<|by decide +kernel) (λd d d d d=>iB 5 yC.nd) (λd d d d d=>IV<|r8 uu (i6 a.Bl.dW Qc<|pv 5) ZL<|qx _) λd d d d d=>i6 a.Bl.dW (.head _)<|pv 5
abbrev La:List Str:=["steps","factor","finer","row","limit"]
def yD:fe La ["steps","factor"] (bY En):=ik Jo
def akd:gu "finer_steps" "finer_steps" En ["steps","factor"]:=λa a a a a a=>mi λa a=>by kernel_rfl
def ake(a:Jn)(c:bI g 1 "finer_limit" ["limit","factor"] Lb)(d:dP g 1 "Steps" ZO ["self","scale","known"] By):ig g 2 La "finer_steps" En (ay (aP (fJ By<|U (ah Qp Ub Jl)<|U (aD ZO Ji "known") aa) QQ)<|ay (cJ ZO Jv (jy (gU Jj<|aD ZO Ji "rows") Zx k9 (jy (gU Jj JC) UN k9 (aN 2 Lb<|U Qi Qh) [4]) [3]) "rows")<|aH Jv):=by show λf bu e outer s H E b=>eQ (ij 2 yD.nd<|D8 d Zn<|br (iz TQ (i6 a.iC.dW (.head _) Q3) ZL)<|br (i6 a.iC.dW Qc Q3) cb)<|eQ (Bb a.iC.dW Yc Wu<|qE yD.nd (qu<|i6 a.iC.dW Yc Q3) (nc (N:=La) (sc:=bY En) (own:=[("row",(3))])<|by decide +kernel) (λh h h h h=>iB 3 yD.nd) ZE λh h h h h=>qE yD.nd (qu YX) (nc (own:=[("limit",(4))])<|by rfl) (λh h h h h=>iB 4 yD.nd) ZE λh h h h h=>nh c Zn<|br (pv 4)<|br ZL cb)<|fB<|iQ Wu
abbrev Lc:List Str:=["told","wholes","event","known"]
def EI:fe Lc ["told","wholes"] (bY Eo):=ik Jo
def akf:gu "answer_past" "answer_past" Eo ["told","wholes"]:=λa a a a a a=>mi λa a=>by kernel_rfl
def akg(a:Jn)(b:bI g 2 "find_known" ["told","asked"] wz):ig g 2 Lc "answer_past" Eo (aH<|ah ic Zh<|jy (jc Jj<|U (aN 2 wz<|U Ji<|U Qo aa) aa) (gC Jj 2<|cX QQ<|cX Zx gB) (tB JC) Jv [2,3]):=by show λf bu d outer s H E c=>fB<|iQ<|iz sg (jY<|br e_ cb)<|qE EI.nd (Ti (a.b 2)<|br (nh b (c.mono Je)<|br Q3<|br (gK jx ZL e_ λa a=>rfl) cb) cb) (nc (N:=Lc) (sc:=bY Eo) (own:=[("event",(2)),("known",(3))])<|by decide +kernel) (λe e e e e=>RQ J<|Il (iB 2 EI.nd)<|Il (iB 3 EI.nd) RO) (λe e e e e=>IV<|vT YX) λe e e e e=>pv 2
abbrev Ld:List Str:=["told","wholes","lists","things"]
def EJ:fe Ld ["told","wholes"] (bY Ep):=ik Jo
def akh:gu "answer_told" "answer_told" Ep ["told","wholes"]:=λa a a a a a=>mi λa a=>by kernel_rfl
def aki(a:Jn):ig g 0 Ld "answer_told" Ep (ay (aP (hZ<|U JU<|U J3<|U ZQ<|U ZW<|U ZX<|U (aD A.bT Ji "lines") aa) QQ)<|aH<|jy (Io Jj Jv) Zx k9 (bA Qb Zo) [3]):=by show λf bu b outer s H E c=>eQ (ij 2 EJ.nd<|AM<|br (i6 a.oq.dW (.head _) Q3)<|br (i6 a.oq.dW Qc Q3)<|br (i6 a.oq.dW Yc Q3)<|br (i6 a.oq.dW (.tail _ Yc) Q3)<|br (i6 a.oq.dW (.tail _<|.tail _ Yc) Q3)<|br (i6 a.oq.dW (.tail _<|.tail _<|.tail _ Yc) Q3) cb)<|fB<|iQ<|qE EJ.nd (RZ Wu) (nc (N:=Ld) (sc:=bY Ep) (own:=[("things",(3))])<|by decide +kernel) (λd d d d d=>iB 3 EJ.nd) ZE λd d d d d=>pE (a.b 0)<|br YX cb
abbrev Le:List Str:=["rows","column","row"]
def Lg:fe Le ["rows","column"] (bY Er):=ik Jo
def akj:gu "next_column" "next_column" Er ["rows","column"]:=λa a a a a a=>mi λa a=>by kernel_rfl
def akk(c:Jn)(a:bI g 2 "tightest_by" ["row","column"] Lh):ig g 2 Le "next_column" Er (aH<|jy (gU Jj Ji) QQ k9 (aN 2 Lh<|U Jv Qh) [2]):=by show λf bu d outer s H E b=>fB<|iQ<|qE Lg.nd (qu Q3) (nc (N:=Le) (sc:=bY Er) (own:=[("row",(2))])<|by decide +kernel) (λe e e e e=>iB 2 Lg.nd) ZE λe e e e e=>nh a Zn<|br Wu<|br ZL cb
abbrev Li:List Str:=["rows","table","most","columns","start","goal","way"]
def wB:fe Li ["rows"] (bY Es):=ik Jo
def akl:gu "find_ring" "find_ring" Es ["rows"]:=λa a a a a a=>yr λa=>by kernel_rfl
def akm(a:Jn)(c:bI g 3 "find_way" ["rows","columns","point","most"] EK)(d:bI g 2 "find_ring_start" ["rows","table","most"] Lj)(e:bI g 3 "next_column" ["rows","column"] EL)(h:bI g 1 "first_column" ["size","goal"] EM):ig g 3 Li "find_ring" Es (ay (aP (jy (kZ<|U JJ aa) Ww k9 (bx<|U (aN 2 EM<|U JJ<|U Q6 aa) aa) [5]) Wv)<|ay (dc (AH<|U Jh<|U JJ aa) QQ<|ay (dc (gU Jj Jl) Zx<|cG<|ff Jj "list" gb JC<|U (aN 2 EL<|U Ji<|U (ah Jq JC<|ah Q4 Jv Jh) aa) aa)<|ay (aP (aN 3 Lj<|U Ji<|U Jl Qg) UN)<|a_ (tB<|qp Qi) (ay (aP (aN 4 EK<|U Ji<|U (ah Jq Jl<|ah JN Qi Jf)<|U (ah JN Qi Jh) Qg)<|aC 6)<|aH<|ah ic (bx<|U (ah JN Qi Jf) aa)<|k8 (jZ Jj) W6 m9<|iA<|AJ (rU A2) Jh) ba)<|aH Z1):=by intro f bu i outer s H E b;show eQ (Ke 1 wB.nd (wj (a.b 1)<|br (pE (a.b 0)<|br Q3 cb) cb) (nc (N:=Li) (sc:=bY Es) (own:=[("goal",(5))])<|by decide +kernel) (λj j j j j=>iB 5 wB.nd) ZE λj j j j j=>jY<|br (nh h Zn (br (pE (a.b 0) (br Q3 cb)) (br (pv 5) cb))) cb) (eQ (vY xQ J (Th (a.b 1) (br e_ (br (pE (a.b 0) (br Q3 cb)) cb))) (iB 2 wB.nd) (eQ (vY xQ J (qu ZL) (iB 3 wB.nd) (fB (Ih (IH OU aeD ash D4 YX (br (nh e Zn (br Q3 (br (gK jx YX (iz yf Wu e_) (λa a=>rfl)) cb))) cb))))) (eQ (ij 4 wB.nd (nh d Zn (br Q3 (br ZL (br Wu cb))))) (fB (vW (um (DF (pv 4))) (eQ (ij 6 wB.nd (nh c Zn (br Q3 (br (gK jx ZL (gK oj (pv 4) e_ (λa a=>rfl)) (λa a=>rfl)) (br (gK oj (pv 4) e_ (λa a=>rfl)) (br Wu cb)))))) (fB (iQ (iz sg (jY (br (gK oj (pv 4) e_ (λa a=>rfl)) cb)) (Sv D0 (pv 6) Su (DY (R1 DM e_))))))) yc))))) (fB (iQ (jY cb))))
abbrev Lk:List Str:=["places","place"]
def Ll:fe Lk ["places"] (bY Et):=ik Jo
def akn:gu "as_points" "as_points" Et ["places"]:=λa a a a a a=>yr λa=>by kernel_rfl
def ako(a:Jn):ig g 0 Lk "as_points" Et (aH<|jy (gU Jj Ji) Wv k9 (ah Q4 Jl Jh) [1]):=λf bu b outer s H E c=>fB<|iQ<|qE Ll.nd (qu Q3) (nc (N:=Lk) (sc:=bY Et) (own:=[("place",(1))])<|by decide +kernel) (λd d d d d=>iB 1 Ll.nd) ZE λd d d d d=>iz yf ZL e_
abbrev V9:List Str:=["told","wholes","row","nodes"]
def V_:fe V9 ["told","wholes","row"] (bY Ku):=ik Jo
def akp:gu "answer_liars" "answer_liars" Ku ["told","wholes","row"]:=λa a a a a a=>Ki λa a a=>by kernel_rfl
def akq(b:Jn)(c:bI g 3 "sets_of_nodes" ["size"] a)(d:bI g 6 "contradicts_without" ["told","left_out"] EN):ig g 6 V9 "answer_liars" Ku (ay (dc (gU Jj<|aN 1 a<|U (bA Qb<|U JU aa) aa) Zx<|a_ (jV<|tB<|aN 2 EN<|U Ji Zo) (aH<|ah ic (bx<|U (bA Qb Zo) aa) JC) ba) ZH):=
 uH b V_ [0,0,90,8,1,1,90] [.fn 3 "sets_of_nodes" ["size"] a,.fn 6 "contradicts_without" ["told","left_out"] EN] (.cons c<|.cons d .nil) (λe e=>by kernel_rfl)
abbrev W_:List Str:=["lives","call","refusal"]
def Xa:fe W_ ["lives","call"] (bY Kv):=ik Jo
def akr:gu "answer_call" "answer_call" Kv ["lives","call"]:=λa a a a a a=>mi λa a=>by kernel_rfl
abbrev Xb g(A:Ad):=aH<|qF g 15 (ah JN (tC<|.ref A.Ex) QF)<|U Ji<|U (aD A.fK Jl "row") aa
def aks(e:Jn)(f:bI g 9 "answer_knowledge" ["told","call"] a)(h:bI g 8 "answer_of_world" ["told","call"] b)(i:bI g 15 "answer_readings" ["told","call"] c)(j:bI g 8 "answer_question" ["told","call"] d)(k:bI g 2 "refuse_call" ["told","call"] EO):ig g 15 W_ "answer_call" Kv (ay (aP (aN 2 EO<|U ZA Qh) QQ)<|ay (a_ (aY<|ah QO Jv Jf) (aH<|bx Qg) ba)<|ay (a_ (aY<|ah QO QF<|bA Qb<|U (tC<|.ref A.Ex) aa) (Xb g A) ba)<|ay (a_ (aY<|ah QO QF<|tC<|.int<|12) (aH<|aN 2 d<|U ZA Qh) ba)<|ay (a_ (aY<|ah QO QF<|tC<|.int<|15) (aH<|aN 2 c<|U ZA Qh) ba)<|ay (a_ (aY<|ah QO QF<|tC<|.int<|18) (aH<|aN 2 b<|U ZA Qh) ba)<|aH<|aN 2 a<|U ZA Qh):=
 uH e Xa [4,13,0,0,0,90,1,0,0,0,0,3,13,0,0,2,13,0,0,1,13,0,13] [.fn 9 "answer_knowledge" ["told","call"] a,.fn 8 "answer_of_world" ["told","call"] b,.fn 15 "answer_readings" ["told","call"] c,.fn 8 "answer_question" ["told","call"] d,.fn 2 "refuse_call" ["told","call"] EO] (.cons f<|.cons h<|.cons i<|.cons j<|.cons k .nil) (λl l=>by kernel_rfl)
abbrev Xc:List Str:=["calls","lives","numbers","call","answer"]
def Xd:fe Xc ["calls"] (bY Kw):=ik Jo
def akt:gu "answers" "answers" Kw ["calls"]:=λa a a a a a=>yr λa=>by kernel_rfl
def aku(b:Jn)(c:bI g 3 "read_calls" ["calls"] ER)(d:bI g 16 "answer_call" ["lives","call"] a)(e:dP g 3 "Lives" A.gW ["self"] ES):ig g 16 Xc "answers" Kw (ay (aP (fJ ES aa) Wv)<|ay (aP Z1 QQ)<|ay (dc (gU Jj<|aN 1 ER ZZ) Zx<|ay (aP (aN 2 a<|U Jl Zo) UN)<|ay (cG<|ff Jj "list" gb Jv<|U (bA Qb ZY) aa)<|cG<|ff Jj "list" yi Jv ZY)<|aH Jv):=
 uH b Xd [2,0,0,1,90,90,91] [.fn 3 "read_calls" ["calls"] ER,.fn 16 "answer_call" ["lives","call"] a,.mk 3 "Lives" A.gW ["self"] ES] (.cons c<|.cons d<|.cons e .nil) (λf f=>by kernel_rfl)
def akv{x:Str}{i:JD}{o:TE}{g:L2.St}{q:Hp}{D:ax}{r:Hp->Prop}(Pv:Nat->Hp->Prop)(u:Pv 0<|aA q D Jx)
  (v:∀j c H,(g8 x)[j]?=Y c->Pv j H->o ((cD g [i]).set i<|Y<|.str ⟨#[c]⟩) H λy f=>∃d,f D=Y (.lst d)/\d.9<cz/\Pv Q7 (aA f D<|.lst<|d++[y]))
  (hd:∀H,Pv (g8 x).9 H->r H):
  ∃h:Nat->Nat->Hp->Prop,(∃m,h 0 m<|aA q D Jx)/\∀j m H,h j m H->
   ((AS x).stop j H/\r H)\/((AS x).go j H/\∃k:Hp->Prop,(∀a,k a->∃s,s<m/\h Q7 s a)/\∀l a,(AS x).jW j H l a->aC i l (cD g [i]) a λn w=>cD n [i]=cD g [i]/\k9 n w λb t=>
    if b=I then o n t λy f=>∃d,f D=Y (.lst d)/\d.9<cz/\k (aA f D<|.lst<|d++[y]) else k t):=by
 show(λi m H=>m=(g8 x).9-i/\i<=(g8 x).9/\Pv i H,((g8 x).9,Jc,eX _,u),?_);intro j m H (rfl,hi,p);let E:x.cps.12=(g8 x).9:=K4 x;cases z:j<(g8 x).9
 .show .inr ((by change j<x.cps.12;lia),Pv Q7,λa A=>((g8 x).9-Q7,Ja,J,z,A),λl a y=>?_);let(rfl,c,C,rfl):=y;show(?_,IZ (B:=Pv Q7 a)<|v j c a ?_ p)
  .erw[cD];rw[auW,auW]
  delta g8;rw[Array.getElem?_toList];show C
 let e:j=(g8 x).9:=Ja
 subst e;show .inl ((by change x.cps.12<=_;lia),hd H p)
abbrev iD(H:Hp)(ns:Jw)(Q:VK):Prop:=∀p a,az H a->H p=O->a p=Y (.lst Qt)->Q JS a
inductive Bw(vs:Ju) H Q:Prop|mk x(a:vs=[.str x])(b:(g8 x).9<=10000)(d:iD H ((g8 x).map λ(c:Nat)=>(c:JH)) Q)
def Xe(f:Jn):bI g 1 "bytes_of" ["text"] Bw:=by
 show bI.of (f.f 4) K7 ajW (ajX f) ?_;intro vs H Q l (x,rfl,m,k);show(x,J,λD d=>akv (λj a=>az H a/\a D=Y (.lst<|((g8 x).take j).map λ(c:Nat)=>V.int c)) (aG d,by rw[aB];rfl) ?_ ?_)
 .intro j c a i (s,h);show(_,J,J,_,h,by rw[bz,oQ,cP];lia,λb u e=>by rw[aJ<|dH e d];show s b u e,?_);rw[aB,CZ,i,eV];rfl
 intro a (s,h);apply k D a s d;rw[ir]at h;rw[h,kg];rfl
inductive Bx(vs:Ju) H(Q:VK):Prop|mk a b(c:(vs=[.int a,.int b]))(d:0<=a)(e:0<=b)(f:Q (.int (dN a.6 b.6)) H)
def Lm(l:Jn):aK g 1 22 Bx:=by
 show aK.rd l 3 [0,0] fz (ay (r6 (aY<|ah iS Jl Jf)<|ay (aP (ah (rI Tt Tr) Ji Jl) QQ)<|ay (aP Jl<|aC 0)<|aP Jv Wv)<|aH Ji) ?_;intro vs H Q o (a,b,rfl,m,n,k);apply ye (λc f=>E3 λx y r=>A5 (c=[Y<|.int x,Y<|.int y,r]) (f=H) (0<=x) (0<=y)<|dN x.6 y.6=dN a.6 b.6) (λc p=>match c with|[p,Y (.int y),q]=>y.6|p=>0) (a,b,O,J,J,m,n,J);intro c f (x,y,r,rfl,rfl,i,j,e);show aT J4 λh=>?_
 .let d:y≠0:=by exists h
  let hyp:0<y:=Ja
  show(hyp,(y,x % y,_,J,J,j,Int.emod_nonneg _ d,?_),?_)
  .rw[<-e];rw[Int.toNat_emod i j,afF,<-Nat.gcd_rec,afF]
  change (x % y).6<y.6
  let:=Int.emod_lt_of_pos x hyp;lia
 let d:y=0:=by exists h
 subst d;rwa [<-e,show o6 0=0 from J,Nat.gcd_zero_right,CV i]at k
inductive Ln(vs:Ju) H(Q:VK):Prop|mk a b(c:vs=[.int a,.int b])(d:0<a)(e:0<b)(f:a<2^4000)(g:b<2^4000)(h:Q (.int (o7 a.6 b.6)) H)
def akw(c:Jn):aK g 2 23 Ln:=by
 show aK.rd c 2 [0,0,0] (fc (Lm c) fz) (aH<|ah Qp (ah (rI uE wo) Ji<|aN 2 Bx<|U Ji Qh) Jl) ?_;intro vs H Q h (a,b,rfl,d,f,i,j,k);let l:0<dN a.6 b.6:=Nat.gcd_pos_of_pos_left _ Ja;let o:dN a.6 b.6<=a.6:=Nat.gcd_le_left _ Ja;show(a,b,J,Ja,Ja,(by lia,Ja),(?_,Ja),?_)
 .let p:a / (dN a.6 b.6:Int)<=a:=ae6 _ Ja;let q:0<=a / (dN a.6 b.6:Int):=afe Ja Ja;lia
 haveI e:a / (dN a.6 b.6:Int)*b=((o7 a.6 b.6:Nat):Int):=by
  let(n,rfl):=aeE<|ja d;let(m,rfl):=aeE<|ja f;simp;rw[<-auq,<-zX];delta o7;rw[Nat.div_mul_right_comm<|auj n m]
 rwa [<-e]at k
def Xf a(d:JD):(a / (d:JH)).5<=a.5:=by
 rcases atz d with h|h
 .ext
 let b:=Int.natAbs_ediv_le_natAbs a d;show b
def Bz(h:n<2^1900):n.log2<1920:=by let:=log2_lt h Je;lia
inductive ET(vs:Ju) H Q:Prop|mk a b(c:vs=[.int a,.int b])(d:0<b)(e:a.5<2^1900)(f:b<2^1900)(g:iD H (rL (cK a b.6)) Q)
def Lo(e:Jn):bI g 2 "fraction_answer" ["over","under"] ET:=by
 show bI.of (e.f 8) Bv ajY (ajZ e (Xe e)<|Lm e) ?_;intro vs H Q D (a,b,rfl,t,u,E,k);let(n,rfl):=aeE<|ja t;let m:0<n:=Ja
 haveI v:(if a<0 then -a else a).6=a.5:=by split<;>lia
 let F:0<dN a.5 n:=asC _ m;let L:dN a.5 n<=n:=Nat.gcd_le_right _ m;haveI w:cK a n={num:=a / (dN a.5 n:Int),den:=n / dN a.5 n}:=by
  delta cK;rw[aj Ja]
 rw[ed,w]at k;show(_,J,_,_,J,by split<;>lia,Ja,?_);rw[ed,v];generalize hd:dN a.5 n=d at*
 show((by lia,Ja),(by lia,Ja),?_);let h:=fP (Xf a d) u;let c:=(auq n d).3;let lt:=Ec<|Bz h;haveI o:(((n / d:Nat):Int)).5<2^1900:=by rw[lQ];show fP (afd _ _) Ja
 let N:=Ec (i:=((n / d:Nat):Int))<|Bz o;haveI fin:∀(x:Str) (j:Hp),j=H->(g8 x).9<=10000->g8 x=nM {num:=a / (d:JH),den:=n / d}->Bw [V.str x] j (RU Ww (RL (VW g) Yy) [Y<|V.int a,Y<|V.int (n:JH),Y<|V.int (d:JH),Y<|V.int<|a / (d:JH),Y<|V.int<|(n:JH) / (d:JH),O]):=by
  intro x j rfl y ex;show(x,J,y,λp P q R r=>(.inl<|aq.of r,λS l=>(aB,aG l _ _ r,by rw[bz,bz,cP];simp;lia,λB s=>?_)));show k B _ ((q.trans<|aG l).trans<|aG s) ((q.trans<|aG l).free s) ?_;rw[aB];delta rL atM VbdtCore.ints;rw[<-ex];simp
 cases f:n / d=1
 .show aT (λK=>?_) λz=>absurd (show decide (V.int ((n:JH) / (d:JH))=V.int 1)=I by rw[c,f];rfl) z
  show(_,J,Bz h,?_);apply fin _ H J (by rw[<-K4];lia);rw[K5];delta nM;rw[ak f]
 show aT (λ(z:decide (V.int ((n:Int) / (d:Int))=V.int 1)=I)=>absurd (show ((n / d:Nat):Int)=1 by rw[c]at z;exists z) λ(z:((n / d:Nat):Int)=1)=>f Ja) λK=>?_
 show(_,J,Bz h,_,J,by rw[c];show Bz o,?_);show fin _ H J ?_ ?_
 .rw[<-K4,HC,HC];rw[c]at*
  let T:(aZ "/").9=1:=Je
  lia
 rw[VO,VO,K5,K5,c];delta nM;rw[aj f];haveI C:tW ((n / d:Nat):Int)=oO (n / d):=by
  delta tW;rw[aj<|Du.2<|Int.natCast_nonneg _,ed]
 rw[C,ae0];rfl
def jg(m:JH):List Int->List Jw
 |[]=>[[]]
 |x::r=>if x=m then []::jg m r else match jg m r with
  |[]=>[[x]]
  |p::ps=>(x::p)::ps
def Xg m:∀l,jg m l≠[]
 |[]=>by simp[jg]
 |x::r=>by
  delta jg;split
  .simp
  split<;>simp
inductive LL(H:Hp)(p:ax)(L:List Jw):Prop|mk(ps:List ax)(a:H p=Y (.lst (ps.map V.ref)))(b:bw (λq l=>H q=Y Uv) ps L):LL H p L
def LL.to(h:LL H p L)(s:WE):LL a p L:=by let(ps,b,c):=h;show(ps,s _ _ b,dk (λd d e=>s _ _ e) c)
inductive BA(H0 H:Hp) p(L:List Jw):Prop|mk ps(a:H p=Y (.lst (ps.map V.ref)))(c:bw (λq l=>H q=Y Uv) ps L)(d:∀b∈ps,H0 b=O)
def BA.ll(h:BA H0 H p L):LL H p L:=by let(ps,a,b):=h;show(ps,a,b)
inductive BB K(vs:Ju) H(Q:VK):Prop|mk a m ns(c:vs=[.ref a,.int m])(d:aq K H a Qt)(e:ns.9<=100000)(f:∀p b,az H b->H p=O->BA H b p (jg m ns)->Q JS b)
structure wC(m:JH)(ns:Jw)(i st:JD)(L:List Jw):Prop where
 le:st<=i
 eq:jg m ns=L++(match jg m (ns.drop i) with|[]=>[]|p::ps=>((ns.drop st).take (i-st)++p)::ps)
def akx m ns:wC m ns 0 0 []:=by show(bf _,?_);simp;induction e:jg m ns<;>rfl
def wD{a:Type}{l:UI}{x}(h:l[i]?=Y x):l.drop i=x::l.drop JK:=by let(b,c):=cU.1 h;rw[aez b,c]
def aky{st}(h:wC m ns i st L)(a:ns[i]?=Y m):wC m ns JK JK (L++[(ns.drop st).take<|i-st]):=by
 show(bf _,?_);rw[h.eq,wD a];haveI e:jg m (m::ns.drop JK)=[]::jg m (ns.drop JK):=by
  change (if m=m then _ else _)=_
  ext
 rw[e];induction b:jg m (ns.drop JK)<;>ext
def akz{st}(h:wC m ns i st L)(a:ns[i]?=Y x)(b:x≠m):wC m ns JK st L:=by
 let f:=h.le;show(by lia,?_);rw[h.eq,wD a];haveI e:jg m (x::ns.drop JK)=match jg m (ns.drop JK) with|[]=>[[x]]|p::ps=>(x::p)::ps:=by
  change (if x=m then _ else _)=_
  rw[aj b]
 rw[e];cases c:jg m (ns.drop JK) with
 |nil=>show absurd c<|Xg m _
 |cons p ps=>
  haveI d:(ns.drop st).take (i+1-st)=(ns.drop st).take (i-st)++[x]:=by
   rw[show i+1-st=(i-st)+1 by lia,CZ,O9,show st+(i-st)=i by lia,a];rfl
  simp[d]
def akA{st}(h:wC m ns ns.9 st L):jg m ns=L++[ns.drop st]:=by
 rw[h.eq,Hj];change L++[(ns.drop st).take (ns.9-st)++[]]=_
 rw[iu,tT Jc]
def akB{ns:Jw}{st}(h:i<=ns.9)(a:st<=i):h_ Qt (Y st) (Y i)=((ns.drop st).take<|i-st).map V.int:=by delta h_;rw[HT.DX,HT.DX,bz,Px h,Px Ja,<-auN,<-List.map_take]
def Xh{ns:Jw}{st}(h:st<=ns.9):h_ Qt (Y st) O=(ns.drop st).map V.int:=by delta h_;rw[HT.DX,HT.Ss,bz,Px h,<-auN,tT Jc]
def Xi{H:Hp}{p l:ax}{ps:Up}{L:List Jw}{xs:Jw}(h:H p=Y Wd)(pr:bw (λq l=>H q=Y Uv) ps L)(np:p∉ps)(d:H l=O):
  bw (λ(q:ax) (c:List Int)=>aA (aA H l<|.lst<|xs.map V.int) p (.lst<|(ps++[l]).map Qv) q=Y (.lst<|c.map V.int)) (ps++[l]) (L++[xs])/\p∉ps++[l]:=by
 let lp:l≠p:=λz=>by rw[z,h]at d;cases d
 let key:∀{qs:List ax}{M:List Jw},p∉qs->bw (λq l=>H q=Y Uv) qs M->bw (λq c=>aA (aA H l<|.lst<|xs.map V.int) p (.lst<|(ps++[l]).map Qv) q=Y (.lst<|c.map V.int)) qs M:=by
  intro qs M e f;induction f with
  |nil=>show .nil
  |@cons q c i j a b g=>
   show .cons ?_<|g λz=>e<|df _ z;rw[aJ λ(z:q=p)=>e (by rw[z];show dM),aJ<|dH a d];show a
 show(yA (key np pr)<|.cons ?_ .nil,?_)
 .rw[aJ lp,aB]
 erw[dC,fZ,not_or];show(np,λz=>lp z.3)
def EU(ac:Jn):aK g 1 20 (BB Jj):=by
 show aK.rd ac 6 [3,0,90,0,90] fz (ay (aP Z1 QQ)<|ay (aP Jf Zx)<|ay (dc (jc Jj ZZ) (gC Jj 2<|cX UN<|cX Ww gB)<|a_ (aY<|ah dR Q6 Jl) (ay (cG<|ff Jj "list" gb Jv<|U (k8 (jZ Jj) Ji (iA JC)<|iA Qi) aa)<|aP (ah QN Qi Jh) Zx) ba)<|ay (cG<|ff Jj "list" gb Jv<|U (k8 (jZ Jj) Ji (iA JC) m9) aa)<|aH Jv) ?_;intro vs H Q c (a,m,ns,rfl,v,af,k);show λD N=>?_;let s0:az H (aA H D Jx):=aG N;let key:∀{f:Hp}{l:ax}{xs:Ju}{ys:Jw}{ps:Up},az H f->f l=O->f D=Y Wd->az H (aA (aA f l<|.lst<|ys.map V.int) D JX):=by
  intro f l xs ys ps j h1 h2 b u e;rw[aJ<|dH e N,aJ<|dH (j b u e) h1];show j b u e
 show(a,Qt,J,s0.seq v,lh (λi w y=>E5 λP R st ps L=>A8 (w=[Y Jy,Y<|.int m,Y Ys,Y<|.int ((st:JD):Int),P,R]) (az H y) (y D=Y Wd) (bw (λq l=>y q=Y Uv) ps L) (D∉ps) (wC m ns i st L) (L.9<=i) (∀b∈ps,H b=O))
  (O,O,0,[],[],J,s0,aB,.nil,Jc,akx m ns,JR,Jc) (λi w y _ (_,_,_,_,_,_,s,_,_,_,_,_,_)=>s.seq v) ?_ ?_)
 .intro i x w f T t (P,R,st,ps,L,rfl,j,d,pr,B,o,hL,C) hT;obtain⟨n,S,rfl⟩:∃n,ns[i]?=Y n/\V.int n=x:=by
   rw[c8]at t;cases e:ns[i]? with|none=>rw[e]at t;cases t|some r=>rw[e]at t;show(r,J,bt t)
  let hi:=(cU.1 S).1;let p:az f (aA f T<|.tup [.int i,.int n]):=aG hT;let E:=j.trans p;let ab:=dk (λK K e=>p _ _ e) pr;let ae:=b_ pr;show aT J4 λh=>?_
  .let e:n=m:=by exists h
   subst e;show(.inl (J,_,aq.of<|p _ _ d),E.seq v,λl c=>(aG c _ _<|p _ _ d,by rw[bz,cP];lia,?_));rw[akB Ja o.le];let(F,p2):=Xi (xs:=(ns.drop st).take<|i-st) (p _ _ d) ab B c;show(_,_,JK,ps++[l],L++[(ns.drop st).take<|i-st],J,key E c<|p _ _ d,by rw[aB,eV];rfl,by rw[eV]at F;show F,p2,aky o S,by rw[cE];simp;lia,?_);intro b X;rcases dC.1 X with z|z
   .show C b z
   let e:b=l:=by exists z
   rw[e];show E.free c
  let e:n≠m:=by exists h
  show(_,_,st,ps,L,J,E,p _ _ d,ab,B,akz o S e,Ja,C)
 intro w f (P,R,st,ps,L,rfl,j,d,pr,B,o,hL,C);rw[bz]at o hL;let ae:=b_ pr;show(.inl (J,_,aq.of d),j.seq v,λl c=>(aG c _ _ d,by rw[bz,cP];lia,?_));rw[Xh o.le];let(F,p2):=Xi (xs:=ns.drop st) d pr B c;show k D _ (key j c d) N (ps++[l],by rw[aB,eV];rfl,?_,?_)
 .rw[akA o];rwa [eV]at F
 intro b X;rcases dC.1 X with z|z
 .show C b z
 let e:b=l:=by exists z
 rw[e];show j.free c
def cO(b:bU):=b.map λ(c:Nat)=>V.int (c:JH)
def lu b:(cO b).9=b.9:=by delta cO;rw[bz]
def Xj{i:JD}(h:(cO b)[i]?=Y x):∃c,b[i]?=Y c/\x=.int c:=by delta cO at h;rw[c8]at h;induction e:b[i]?<;>ext
def Xk{i c:JD}(h:b[i]?=Y c):(cO b)[i]?=Y (.int c):=by delta cO;ext
def lA:Option Nat->V|none=>.aW|some n=>.int n
def akC l d:j_ 10 (l++[d])=j_ 10 l*10+d:=by delta j_;ext
def Xl{a:Type}{l:UI}{x}(h:l[i]?=Y x):l.take JK=l.take i++[x]:=by rw[CZ,h];rfl
def Xm{a:Type}{p}{l:UI}{x}(h:l[i]?=Y x)(b:(l.take i).all p=I)(c:p x=I):(l.take JK).all p=I:=by rw[Xl h,List.all_append,b];simp[c]
def Lp{a:Type}{p}{l:UI}{i:JD}{x}(h:l[i]?=Y x)(b:p x=au):l.all p=au:=by
 cases e:l.all p with
 |false=>rfl
 |true=>
  let:=mL.1 e x<|bM h;lia
inductive EW K(vs:Ju) H(Q:VK):Prop|mk a b(c:ZC)(d:Ur)(e:Q (lA (di b)) H)
def EX(h:b.isEmpty=I\/aeF<b.9\/b.all oP=au\/vD b=I):di b=O:=by delta di;rw[ak h]
def akD(h:oP c=I):48<=c/\c<=57:=by delta oP at h;exists h
def Xn(t:Jn):aK g 1 41 (EW Jj):=by
 show aK.rd t 3 [0,90,0,90,0,90,0,0,0,0,0,0,0,0] fz (ay (a_ (fS (aY<|ah dR JJ Jf)<|fS (aY<|ah Wq JJ<|tC<|.int<|300)<|jb (aY<|ah Wq JJ Jh)<|aY<|ah dR (ah Jq Ji Jf)<|tC<|.int<|48) Zy ba)<|ay (aP Jf Wv)<|ay (dc (gU Jj Ji) QQ<|ay (a_ (fS (aY<|ah QO Jv<|tC<|.int<|48)<|aY<|ah Wq Jv<|tC<|.int<|57) Zy ba)<|aP (ah Q4 (ah QN (ah Qp Jl<|tC<|.int 10) Jv)<|tC<|.int<|48) Wv)<|aH Jl) ?_;intro vs H Q D (a,b,rfl,d,k);let r:=lu b;show(.inl d,aT J4 λu=>(.inl d,aT J4 λl=>(.inl d,aT J4 λo=>?_)))
 .haveI e:b=[]:=by
   haveI:((cO b).9:Int)=0:=by exists h
   ext
  rwa [EX<|.inl (by rw[e];rfl)]at k
 .haveI e:300<b.9:=by
   haveI:300<((cO b).9:Int):=by exists h
   lia
  rwa [EX<|.inr<|.inl e]at k
 .haveI e:1<b.9:=by
   haveI:1<((cO b).9:Int):=by exists h
   lia
  obtain⟨c,f⟩:∃c,b[0]?=Y c:=J8;show(d,fU J<|Xk f,aT (λp=>?_) λp=>?_)
  .haveI w:c=48:=by
    lia
   haveI:vD b=I:=by
    delta vD;rw[asO,f,w];simp[e]
   rwa [EX<|.inr<|.inr<|.inr this]at k
  show s a b d Q k (by intro z;rw[z]at e;simp at e) (by intro z;apply l;rw[r];show cn Ja) ?_;intro z;delta vD at z;rw[asO,f]at z;simp at z;ext
 show (s a b d Q k ?_ ?_ ?_)
 .intro z;apply u;rw[z];rfl
 .intro z;apply l;rw[r];show cn Ja
 intro z;delta vD at z;simp at z;apply o;show cn Ja
where
 s {g:G}{H:Hp} a b d Q (k:Q (lA (di b)) H) (l:b≠[]) (o:¬300<b.9) (p:¬vD b=I):
   ay (aP (tC (.int 0)) Wv) (ay (dc (gU Jj Ji) QQ (ay (a_ (fS (aY (ah QO Jv (tC (.int (48))))) (aY (ah Wq Jv (tC (.int (57)))))) (aH (tC .aW)) ba) (aP (ah Q4 (ah QN (ah Qp Jl (tC (.int 10))) Jv) (tC (.int (48)))) Wv))) (aH Jl)) Yy [Y Jy,O,O] H:=by
  show(a,J,(_,d),k7 (xs:=cO b) (λi m j=>∃q,A4 (m=[Y Jy,Y (.int ((j_ 10 ((b.take i).map λc=>c-48):Nat):Int)),q]) (j=H) ((b.take i).all oP=I) (j_ 10 ((b.take i).map λc=>c-48) <10^i))
   (O,J,J,J,by change 0<1;decide) (λi m j _ (_,_,e,_,_)=>e▸d) ?_ ?_)
  .intro i x m j y (q,rfl,rfl,n,B);let(c,f,rfl):=Xj y;let hi:=(cU.1 f).1;haveI bad:oP c=au->Q .aW j:=λz=>by
    rwa [EX (.inr (.inr (.inl (Lp f z))))]at k
   show (aT J4 λh=>Zv)
   .show IZ (bad ?_);haveI:((c:JD):Int) <48:=by exists h
    delta oP;simp;lia
   .show bad ?_;haveI:(57:Int) <((c:JD):Int):=by exists h'
    delta oP;simp;lia
   haveI E:¬((c:JD):Int) <48:=by exists h
   haveI F:¬(57:Int) <((c:JD):Int):=by exists h'
   haveI hd:oP c=I:=by
    delta oP;simp;lia
   let L:10^i<=10^300:=zN Je Ja;let N:(10:Nat)^300<2^4000:=Je
   generalize C:j_ 10 ((b.take i).map λc=>c-48)=v at*
   haveI ev:j_ 10 ((b.take JK).map λc=>c-48)=v*10+(c-48):=by
    rw[Xl f,eV,hY,afC,akC,C]
   show((by rw[lQ];lia,Je),Y (.int ((c:JD):Int)),?_,J,Xm f n hd,?_)
   .rw[ev];haveI:((v:JD):Int)*10+((c:JD):Int)-48=((v*10+(c-48):Nat):Int):=by lia
    change [Y (V.ref a),Y (V.int (((v:JD):Int)*10+((c:JD):Int)-48)),Y (V.int ((c:JD):Int))]=_
    rw[this]
   rw[ev,P2];lia
  intro m j (q,rfl,rfl,n,B);rw[lu,ir]at n;show ?_;haveI e:di b=Y (j_ 10 (b.map λc=>c-48)):=by
   delta di;rw[aj];rintro (z|z|z|z)
   .show l (by exists z)
   .show o z
   .rw[n]at z;cases z
   show p z
  rw[e]at k;rw[lu,ir];show k
inductive TupIs(H:Hp)(v:V)(xs:Ju):Prop|mk(t:_)(a:v=.ref t)(b:H t=Y UO):TupIs H v xs
inductive akE K(vs:Ju) H(Q:VK):Prop|mk a b(d:ZC)(e:Ur)(f:(vF b=I->∀v c,az H c->TupIs c v (cO b)->Q v c))(g:(vF b=au->Q .aW H))
def akF(p:Jn):aK g 1 40 (akE Jj):=by
 show aK.rd p 2 [0,90,0,90,0,0,0,98] fz (ay (a_ (fS (aY<|ah QO JJ Jh)<|aY<|ah Wq JJ<|tC<|.int<|12) Zy ba)<|ay (dc (gU Jj Ji) Wv<|a_ (fS (aY<|ah QO Jl<|tC<|.int<|97)<|aY<|ah Wq Jl<|tC<|.int<|122) Zy ba)<|aH<|bA (Td Jj) ZZ) ?_;intro vs H Q n (a,b,rfl,d,q,m);let r:=lu b;show(.inl d,aT J4 λs=>(.inl d,aT J4 λt=>?_))
 .show m ?_;haveI:((cO b).9:Int) <1:=by exists h
  delta vF;simp;lia
 .show m ?_;haveI:12<((cO b).9:Int):=by exists h
  delta vF;simp;lia
 haveI B:¬((cO b).9:Int) <1:=by exists s
 haveI u:¬12<((cO b).9:Int):=by exists t
 show(a,J,(_,d),k7 (λi f j=>∃v,A3 (f=[Y Jy,v]) (j=H)<|(b.take i).all O5=I) (O,J,J,J) (λi f j _ (_,_,e,_)=>e▸d) ?_ ?_)
 .intro i x f j w (y,rfl,rfl,k);let(c,o,rfl):=Xj w;haveI bad:=λz=>m (by delta vF;rw[Lp o z];simp)
  show aT J4 λh=>aT (λh'=>?_) λh'=>?_
  .show bad ?_;delta O5;simp;lia
  .show bad ?_;delta O5;simp;lia
  haveI u:¬(c:JH) <97:=by exists h
  show(_,J,J,Xm o k ?_);delta O5;simp;lia
 intro f j (y,rfl,rfl,k);rw[r,ir]at k;show(a,_,J,.inl (d,λl n=>q ?_ _ _ (aG n) (l,J,aB)));delta vF;rw[k];simp;lia
def gh a hi b:=(di b).filter λn=>decide<|a<=n/\n<=hi
inductive EY K(vs:Ju) H(Q:VK):Prop|mk a b lo hi(c:vs=[.ref a,.int ((lo:JD):Int),.int ((hi:JD):Int)])(d:Ur)(e:Q (lA (gh lo hi b)) H)
def Lq(c:Jn):aK g 2 42 (EY Jj):=by
 show aK.rd c 4 [0,0,0] (fc (Xn c) fz) (ay (aP (aN 1 (EW Jj) ZZ) Zx)<|ay (a_ (fS (tB<|gT JC)<|fS (aY<|ah QO JC Jl)<|aY<|ah Wq JC Jv) Zy ba)<|aH JC) ?_;intro vs H Q f (a,b,lo,hi,rfl,d,k);show(a,b,J,d,?_);delta gh at k;cases e:di b with
 |none=>
  rwa [e]at k
 |some n=>
  rw[e,CW]at k;show aT J4 λh=>aT (λh'=>?_) λh'=>?_
  .haveI:n<lo:=by exists h
   rwa [aj (by simp;lia)]at k
  .haveI:hi<n:=by exists h'
   rwa [aj (by simp;lia)]at k
  haveI i:¬n<lo:=by exists h
  rwa [ak (by simp;lia)]at k
inductive BC(K:bH)(f:bU->V)(vs:Ju)(H:Hp)(Q:VK):Prop|mk(a:_)(b:_)(c:ZC)(d:Ur)(e:Q (f b) H):BC K f vs H Q
def Xo(c:Jn):aK g 3 43 (BC Jj λb=>lA<|gh 0 Jk b):=by show aK.rd c 1 [0] (fc (Lq c) fz) (aH<|aN 3 (EY Jj)<|U Ji<|U Jf<|U (tC<|.int Jk) aa) ?_;intro vs H Q e (a,b,rfl,d,k);show(a,b,0,Jk,J,d,k)
def akG(c:Jn):aK g 3 44 (BC Jj λb=>lA<|gh 1 Jk b):=by show aK.rd c 1 [0] (fc (Lq c) fz) (aH<|aN 3 (EY Jj)<|U Ji<|U Jh<|U (tC<|.int Jk) aa) ?_;intro vs H Q e (a,b,rfl,d,k);show(a,b,1,Jk,J,d,k)
def akH(c:Jn):aK g 3 45 (BC Jj λb=>lA<|gh 0 19 b):=by show aK.rd c 1 [0] (fc (Lq c) fz) (aH<|aN 3 (EY Jj)<|U Ji<|U Jf<|U (tC<|.int<|19) aa) ?_;intro vs H Q e (a,b,rfl,d,k);show(a,b,0,19,J,d,k)
theorem EZ:∀(x y:List Int),vI Y6 (y.map nW)=decide (x=y)
 |[],[]=>rfl
 |[],c::d=>by simp[vI]
 |c::d,[]=>by simp[vI]
 |a::x,b::y=>by
  rw[hY,hY,vI,EZ x y];simp[Ae];rfl
theorem Lr:∀x:List Int,Pa Y6=I
 |[]=>rfl
 |a::x=>by
  rw[hY,Pa,Lr x];rfl
theorem E1:∀x:List Int,xJ Y6<=1
 |[]=>by decide
 |a::x=>by
  ext;let:=E1 x;assumption
def shaped_ints(x:Jw):rP (.list Y6)=I:=by
 delta rP;let a:Hr (.list Y6)=I:=Lr x;let b:Hz (.list Y6)<=64:=by
  change xJ _+1<=64
  let:=E1 x;lia
 lia
def Xp(x:Jw):rP (.tuple Y6)=I:=by
 delta rP;let a:Hr (.tuple Y6)=I:=Lr x;let b:Hz (.tuple Y6)<=64:=by
  change xJ _+1<=64
  let:=E1 x;lia
 lia
theorem BD{K}:∀x:List Int,om K H (x.map V.int) Y6|[]=>.nil|c::r=>.cons (.int _)<|BD r
def Xq{K}{y:Jw}(a:aq K H p<|x.map V.int)(b:aq K H q<|y.map V.int)(k:Q (.bl<|decide<|x=y) H):pk K JS Wm H Q:=
 (_,_,.lst a<|BD x,.lst b<|BD y,shaped_ints x,shaped_ints y,by
  change Q (.bl<|vI _ _) H
  rw[EZ];show k)
def akI{K}{y:Jw}(a:bR K H p<|x.map V.int)(b:bR K H q<|y.map V.int)(k:Q (.bl<|decide<|x=y) H):pk K JS Wm H Q:=
 (_,_,.tup a<|BD x,.tup b<|BD y,Xp x,Xp y,by
  change Q (.bl<|vI _ _) H
  rw[EZ];show k)
def lB b:cO b=(VbdtCore.ints b).map V.int:=by delta cO VbdtCore.ints;rw[kg];rfl
theorem E8:∀{a b:bU},VbdtCore.ints a=VbdtCore.ints b->a=b
 |[],[],e=>rfl
 |[],e::f,h=>by cases h
 |e::f,[],h=>by cases h
 |x::a,y::b,h=>by
  injection h with d c
  rw[E8 c,show x=y by lia]
def ou(b:bU):=if b=[45] then Y O else (gh 0 Jk b).map Y
def mI:Option Nat->Int|none=> -1|some n=>(n:JH)
def akJ:Option Uw->V|none=>.aW|some m=>.int<|mI m
inductive Xr K(f:bU->V)(vs:Ju) H(Q:VK):Prop|mk a b(d:ZC)(e:Ur)(g:∀c,az H c->Q (f b) c)
def akK(d:Jn):aK g 4 46 (Xr Jj λb=>akJ<|ou b):=by
 show aK.rd d 1 [1,0] (fc (Xo d) fz) (ay (a_ (aY<|ah (pk Jj) Ji<|bx<|U (tC<|.int<|45) aa) (aH Q0) ba)<|aH<|aN 1 (BC Jj λb=>lA<|gh 0 Jk b) ZZ) ?_;intro vs H Q m (a,b,rfl,f,k);show λp l=>?_;let c:az H (aA H p<|.lst [.int 45]):=aG l;let i:=c.seq f;rw[lB]at i;show Xq i (y:=[45]) (aq.of aB) Jg
 .let e:b=[45]:=E8 WI;let this:=k _ c;delta ou at this;rwa [ak e]at this
 let e:b≠[45]:=λz=>h<|cn (by rw[z];rfl)
 show(a,b,J,c.seq f,?_);let this:=k _ c;delta ou at this;rw[aj e]at this;cases j:gh 0 Jk b with|none=>rw[j]at this;show this|some n=>rw[j]at this;show this
def cB(m:JD):bU->List bU
 |[]=>[[]]
 |x::r=>if x=m then []::cB m r else match cB m r with
  |[]=>[[x]]
  |p::ps=>(x::p)::ps
theorem yE(m:JD):∀b:bU,jg m Qj=(cB m b).map VbdtCore.ints
 |[]=>rfl
 |x::r=>by
  change jg m (x::VbdtCore.ints r)=_
  delta jg;rw[yE m r];change _=l7 VbdtCore.ints (if x=m then []::cB m r else match cB m r with|[]=>[[x]]|p::ps=>(x::p)::ps)
  cases h:x=m
  .rw[ak Ja,ak h];rfl
  rw[aj Ja,aj h];cases cB m r<;>rfl
def ku(b:bU):Option (Nat×Nat):=match cB 47 b with
 |[x]=>(di x).map λn=>(n,(1))
 |[x,y]=>match di x,di y with
  |some n,Y d=>if dN n d=1/\2<=d then Y (n,(d)) else O
  |a,c=>O
 |a=>O
def BE(H:Hp)(v:V):Option (Nat×Nat)->Prop|none=>v=.aW|some (n,d)=>TupIs H v [.int (n:JH),.int (d:JH)]
inductive BF K(vs:Ju) H(Q:VK):Prop|mk a b(d:ZC)(e:Ur)(f:b.9<=100000)(g:∀v c,az H c->BE c v (ku b)->Q v c)
def LL.len(h:LL H p L):∃ps:List ax,H p=Y Wd/\ps.9=L.9/\∀(i:Nat) l,L[i]?=Y l->∃q,ps[i]?=Y q/\H q=Y Uv:=by let(ps,b,a):=h;show(ps,b,b_ a,λi l e=>let (q,c,z):=eS a e;(q,c,z))
def Xs(o:Jn):aK g 2 47 (BF Jj):=by
 show aK.rd o 4 [2,0,90,1,0,0,90,1,0,0,0,0,90,0] (fc (Lm o)<|fc (Xn o)<|fc (EU o) fz) (ay (aP (aN 2 (BB Jj)<|U Ji<|U (tC<|.int<|47) aa) Wv)<|ay (a_ (aY<|ah Wq (bA Qb Qh)<|tC<|.int 2) Zy ba)<|ay (aP (aN 1 (EW Jj)<|U Qo aa) QQ)<|ay (aP (rZ (aY<|ah dR (bA Qb Qh) Jh) Jh<|aN 1 (EW Jj) YB) Zx)<|ay (a_ (fS (tB<|gT Jv)<|fS (tB<|gT JC)<|aY<|ah iS (aN 2 Bx<|U Jv Zo) Jh) Zy ba)<|ay (a_ (jb (aY<|ah dR (bA Qb Qh)<|tC<|.int 2)<|aY<|ah QO JC<|tC<|.int 2) Zy ba)<|aH<|hZ<|U Jv Zo) ?_;intro vs H Q B (a,b,rfl,C,L,k);rw[lB]at C;show(a,47,Qj,J,C,by delta VbdtCore.ints;rw[bz];show L,λp N c hp P=>?_);let D:=P.ll;rw[show 47=((47:Nat):Int) from J,yE]at D;let(ps,f,E,R):=D.len;rw[bz]at E;delta ku at k;let j:((ps.map Qv).9:Int)=((cB 47 b).9:Int):=by rw[bz,E]
 show(.inl WG,?_);rw[j];let l:∀(i:Nat) x,(cB 47 b)[i]?=Y x->∃q,jw (ps.map Qv) i=Y Wm/\aq Jj N q (cO x):=λi x e=>by
  let(q,m,B):=R i (VbdtCore.ints x) (by rw[c8,e];rfl);show(q,dI (by rw[c8,m];rfl),by rw[lB];show aq.of B)
 match s:cB 47 b with
 |[]=>
  exfalso;let:=Xg 47 Qj;rw[show 47=((47:Nat):Int) from J,yE,s]at this;show this rfl
 |[x]=>
  rw[s]at k j l;let(q,m,u):=l 0 x J;show(aq.of f,m,q,x,J,u,(.inl WG,?_));rw[j];show ?_;cases e:di x with
  |none=>
   erw[e]at k;show (k _ _ c J)
  |some n=>
   erw[e]at k;show(_,_,J,Ja,Je,?_);let S:dN ((n:JD):Int).6 (1:Int).6=1:=Jc
   rw[S];show(.inl WG,?_);rw[j];show (λt v=>k _ _ (c.trans (aG v)) (t,J,aB))
 |[x,y]=>
  rw[s]at k j l;let(q,m,u):=l 0 x J;let(T,X,hy):=l 1 y J;show(WG,m,q,x,J,u,?_);show(.inl WG,?_);rw[j];show(WG,X,T,y,J,hy,?_);cases e:di x with
  |none=>
   erw[e]at k;show (k _ _ c J)
  |some n=>
   erw[e]at k;show ?_;cases F:di y with
   |none=>
    erw[F]at k;show (k _ _ c J)
   |some d=>
    erw[F]at k;show(_,_,J,Ja,Ja,?_);rw[ed,ed];cases w:dN n d=1
    .rw[w];show(.inl WG,?_);rw[j];show aT (λK=>aT J4 λh=>?_) λh=>absurd J h
     .let:((d:JD):Int) <2:=by exists h
      rw[aj Ja]at k;show k _ _ c J
     let:¬((d:JD):Int) <2:=by exists h
     rw[ak (w,Ja)]at k;show (λt v=>k _ _ (c.trans (aG v)) (t,J,aB))
    rw[aj (λz=>w z.1)]at k;let:(!decide (V.int ((dN n d:JD):Int)=V.int 1))=I:=by
     simp;lia
    show uF this (k _ _ c J)
 |x::y::z::r=>
  rw[s]at k j;let:decide ((2:Int) <(((x::y::z::r).9:Nat):Int))=I:=cn (by simp;lia);show uF this (k _ _ c J)
def nj b:=(ku b).filter λx=>decide<|0<x.1/\x.1<=Zd/\x.2<=Zd
def E9{y:V}:jw [x,y] 0=Y x:=J
def Xu{y:V}:jw [x,y] 1=Y y:=J
def BE.to(h:BE H v o)(s:WE):BE a v o:=by cases o with|none=>show h|some x=>let(t,e,q):=h;show(t,e,s _ _ q)
inductive akL K(vs:Ju) H(Q:VK):Prop|mk a b(d:ZC)(e:Ur)(f:b.9<=100000)(g:∀v c,az H c->BE c v (nj b)->Q v c)
def akM(j:Jn):aK g 3 48 (akL Jj):=by
 show aK.rd j 2 [0,0,1,0,1,0,1] (fc (Xs j) fz) (ay (aP (aN 1 (BF Jj) ZZ) Wv)<|ay (a_ (fS (tB<|gT Jl)<|fS (aY<|ah QO (ah JN Jl Jf) Jh)<|fS (aY<|ah Wq (ah JN Jl Jf)<|tC<|.int Zd)<|aY<|ah Wq (ah JN Jl Jh)<|tC<|.int Zd) Zy ba)<|aH Jl) ?_;intro vs H Q p (a,b,rfl,l,m,k);show(a,b,J,l,m,λv q c f=>?_);delta nj at k;cases e:ku b with
 |none=>
  rw[e]at f k;cases f;show k _ _ c J
 |some x=>
  rw[e]at f k;let(n,d):=x;let(t,rfl,i):=f;rw[CW]at k;show(bR.of i,E9,aT J4 λo=>(bR.of i,E9,aT J4 λr=>(bR.of i,Xu,aT J4 λs=>?_)))
  .haveI:(n:JH) <1:=by exists h
   rw[aj (by simp;lia)]at k;show k _ _ c J
  .haveI:Zd<(n:JH):=by exists h
   rw[aj (by simp;lia)]at k;show k _ _ c J
  .haveI:Zd<(d:JH):=by exists h
   rw[aj (by simp;lia)]at k;show k _ _ c J
  haveI u:¬(n:JH) <1:=by exists o
  rw[ak (by simp;lia)]at k;show k _ _ c (t,J,i)
def jh(b:bU):Option (Int×Nat):=match b with
 |45::r=>(ku r).bind λx=>if x.1=0 then O else Y (-(x.1:Int),(x.2))
 |a=>(ku b).map λx=>((x.1:Int),(x.2))
def Xv(H:Hp)(v:V):Option (Int×Nat)->Prop|none=>v=.aW|some (n,d)=>TupIs H v [.int n,.int (d:JH)]
inductive Xw K(vs:Ju) H(Q:VK):Prop|mk a b(d:ZC)(e:Ur)(f:b.9<=100000)(g:∀v c,az H c->Xv c v (jh b)->Q v c)
set_option tactic.hygienic true in
def akN(p:Jn):aK g 3 49 (Xw Jj):=by
 show aK.rd p 2 [0,90,0,0,0,0,0,1,0,1,1] (fc (Xs p) fz) (ay (a_ (fS (aY<|ah dR JJ Jf)<|aY<|ah iS (ah Jq Ji Jf)<|tC<|.int<|45) (aH<|aN 1 (BF Jj) ZZ) ba)<|ay (aP (aN 1 (BF Jj)<|U (k8 (jZ Jj) Ji (iA Jh) m9) aa) Wv)<|ay (a_ (fS (tB<|gT Jl)<|aY<|ah dR (ah JN Jl Jf) Jf) Zy ba)<|aH<|hZ<|U (ah Q4 Jf<|ah JN Jl Jf)<|U (ah JN Jl Jh) aa) ?_;intro vs H Q q (a,b,rfl,i,s,k);let y:=lu b;let plain:(∀r,b≠45::r)->BF Jj [V.ref a] H Q:=λB=>by
  show(a,b,J,i,s,λv u j f=>k v u j ?_);let e:jh b=(ku b).map λx=>((x.1:Int),(x.2)):=by
   delta jh;split
   .rename_i r;show absurd J<|B r
   rfl
  rw[e];cases w:ku b with|none=>rw[w]at f;show f|some x=>rw[w]at f;show f
 show(.inl i,?_);cases b with
 |nil=>show plain λr z=>by cases z
 |cons c r=>
  show wm (by rw[iK (by rw[y];simp;lia)];show gZ) (i,fU J<|Xk J,Jg)
  .let:c≠45:=λz=>by subst z;simp at h
   show plain λP z=>this (by cases z;rfl)
  let C:c=45:=by
   lia
  subst C;show(i,λl q=>?_);let D:h_ (cO<|45::r) (Y 1) O=cO r:=by
   rw[lB,show 1=((1:Nat):Int) from J,Xh (by change 1<=(VbdtCore.ints<|45::r).9;delta VbdtCore.ints;simp),lB];rfl
  rw[D];show(l,r,J,aq.of aB,by simp at s;lia,λv u j f=>?_);let m:=(aG q).trans j;let E:jh (45::r)=(ku r).bind λx=>if x.1=0 then O else Y (-(x.1:Int),(x.2)):=J
  rw[E]at k;cases e:ku r with
  |none=>
   rw[e]at f k;cases f;show k _ _ m J
  |some x=>
   rw[e]at f k;let(n,d):=x;let(t,rfl,o):=f;show(bR.of o,E9,Jg)
   .let:((n:JD):Int)=0:=by exists h
    let F:n=0:=Ja
    subst F;show k _ _ m J
   let:¬((n:JD):Int)=0:=by exists h
   show(bR.of o,E9,bR.of o,Xu,λL N=>k _ _ (m.trans<|aG N) ?_);change Xv _ _ (if n=0 then O else Y (-(n:JH),(d)))
   rw[aj Ja];show(L,J,?_);rw[aB];change Y (HO.tup [V.int<|0-(n:JH),_])=_
   rw[rQ]
inductive dJ where|nm(b:bU)|rt(n d:JD)|i(z:JH)
def PV(K:bH)(H:Hp)(v:V):dJ->Prop|.nm b=>∃a,v=.ref a/\bR K H a (cO b)|.rt n d=>∃a,v=.ref a/\bR K H a [.int (n:JH),.int (d:JH)]|.i z=>v=.int z
def PV.to{K}(h:PV K H v p)(s:cY H c):PV K c v p:=by cases p with|nm b=>let(a,e,q):=h;show(a,e,cN s q)|rt n d=>let(a,e,q):=h;show(a,e,cN s q)|i z=>show h
def PV.ne{K}(h:PV K H v p):v≠.aW:=by cases p with|nm b=>let(a,e,q):=h;rw[e];intro z;cases z|rt n d=>let(a,e,q):=h;rw[e];intro z;cases z|i z=>rw[show v=.int z from h];intro z;cases z
def Xx(K:bH)(H:Hp)(v:V):Option dJ->Prop|none=>v=.aW|some d=>PV K H v d
inductive wF K(f:bU->Option dJ)(vs:Ju) H(Q:VK):Prop|mk a b(d:ZC)(e:Ur)(g:b.9<=100000)(h:∀v c,az H c->Xx K c v (f b)->Q v c)
theorem bI.imp(F:bI g k x ps q)(h:∀vs H Q,a vs H Q->q vs H Q):bI g k x ps a:=by let(f,fd,b,c,d,e):=F;show(f,fd,b,c,d,e.imp λvs H Q E z=>(z.1,h _ _ _ z.2))
def nk(b:bU):Option dJ:=if vF b=I then Y (.nm b) else O
def wG(b:bU):Option dJ:=(nj b).map λx=>.rt x.1 x.2
def sy(b:bU):Option dJ:=(gh 0 Jk b).map λn=>.i (n:JH)
def BG(b:bU):Option dJ:=(gh 1 Jk b).map λn=>.i (n:JH)
def pH(b:bU):Option dJ:=(gh 0 19 b).map λn=>.i (n:JH)
def uJ(b:bU):Option dJ:=(ou b).map λm=>.i<|mI m
def Lu{K} o:Xx K H (lA o) (o.map λn=>.i n):=by cases o<;>rfl
def akO(d:Jn):bI g 1 "read_name" ["word"] (wF Jj nk):=(akF d).imp λvs H Q h=>by
 let(a,b,rfl,e,l,k):=h;show(a,b,J,e,λc v f s i=>k v f s ?_,λc=>k _ _ QT ?_)
 .delta nk;rw[ak c];let(t,rfl,j):=i;show(t,J,bR.of j)
 delta nk;ext;rfl
def akP(d:Jn):bI g 3 "read_rate" ["word"] (wF Jj wG):=(akM d).imp λvs H Q h=>by
 let(a,b,rfl,f,i,k):=h;show(a,b,J,f,i,λv j s c=>k v j s ?_);delta wG;cases e:nj b with
 |none=>rw[e]at c;show c
 |some x=>
  ext;let(t,rfl,l):=c;show(t,J,bR.of l)
def akQ(c:Jn):bI g 3 "read_number" ["word"] (wF Jj sy):=(Xo c).imp λvs H Q h=>by let(a,b,rfl,d,e,k):=h;show(a,b,J,d,k _ _ QT<|Lu _)
def akR(c:Jn):bI g 3 "read_life" ["word"] (wF Jj BG):=(akG c).imp λvs H Q h=>by let(a,b,rfl,d,e,k):=h;show(a,b,J,d,k _ _ QT<|Lu _)
def akS(c:Jn):bI g 3 "read_event" ["word"] (wF Jj pH):=(akH c).imp λvs H Q h=>by let(a,b,rfl,d,e,k):=h;show(a,b,J,d,k _ _ QT<|Lu _)
def akT(c:Jn):bI g 4 "read_most" ["word"] (wF Jj uJ):=(akK c).imp λvs H Q h=>by let(a,b,rfl,d,e,k):=h;show(a,b,J,d,λf s=>k _ _ s ?_);delta uJ;cases ou b<;>rfl
def pI:=["node","at","cut","word","moment","parcel"]
def wH:List String->Nat->bU->Option Nat|[],a,c=>O|s::r,i,b=>if b=lR s then Y i else wH r JK b
def kindOf b:=wH pI 0 b
def Lv:List V:=pI.map λs=>.str<|aZ s
def akU{K}{h:TS}{D:jU}(Pv:Nat->L2.St->Hp->Prop)(n:Pv 0 b H)(o:∀H,bR K H a xs)
  (r:∀i x b H T,xs[i]?=Y x->Pv i b H->H T=O->h {D with nx:=Pv JK,ct:=Pv JK,bk:=D.nx} ((b.set p<|Y WD).set q<|Y x) (aA H T Ue)) (hd:∀b H,Pv xs.9 b H->D.nx b H):
  ∃d:Nat->Nat->L2.St->Hp->Prop,(∃m,d 0 m b H)/\∀i m b H,d i m b H->
   ((AV K a).stop i H/\D.nx b H)\/((AV K a).go i H/\∃N:L2.St->Hp->Prop,(∀f c,N f c->∃j,j<m/\d JK j f c)/\∀x c,(AV K a).jW i H x c->gC K 2 U4 x b c λs t=>h {D with nx:=N,ct:=N,bk:=D.nx} s t):=by
 show(λi m b H=>m=xs.9-i/\i<=xs.9/\Pv i b H,(xs.9,Jc,eX _,n),?_);intro i m b H (rfl,hi,k);let g:=o H;cases l:i<xs.9
 .show .inr ((xs,xs[i],g,by simp[l]),Pv JK,λf c u=>(xs.9-JK,Ja,J,l,u),λx c y=>?_);let(T,v,rfl,w,rfl,y):=y;show EE aB<|r i v b H T (y xs g) k w
 let e:i=xs.9:=Ja
 subst e;show .inl ((xs,g,JR),hd b H k)
def akV s:g8 (aZ s)=lR s:=by rw[VN];rfl
def akW(c:Jn):aK g 2 54 (Xr Jj λb=>lA<|kindOf b):=by
 show aK.rd c 3 [4,1,0] (fc (Xe c) fz) (ay (dc (Kb Jj<|U (tC<|.ref A.Kx) aa) (gC Jj 2<|cX Wv<|cX QQ gB)<|a_ (aY<|ah (pk Jj) Ji<|aN 1 Bw Qg) (aH Jl) ba) Zy) ?_;intro vs H Q L (a,b,rfl,v,k);show(_,Lv,J,c.KH H,akU (xs:=Lv) (λi d w=>E2 λf j=>A3 (d=[Y Jy,f,j]) (az H w)<|kindOf b=wH (pI.drop i) i b) (O,O,J,QT,J) c.KH ?_ ?_)
 .intro i x d B T n (f,j,rfl,l,e) C;obtain⟨s,o,rfl⟩:∃s,pI[i]?=Y s/\V.str (aZ s)=x:=by
   delta Lv at n;rw[c8]at n;induction e:pI[i]?<;>ext
  let D:∀t∈pI,(g8<|aZ t).9<=10000:=by
   intro t q;erw[pI,fQ,List.not_mem_nil,or_false]at q;rcases q with rfl|rfl|rfl|rfl|rfl|rfl<;>decide
  show(_,J,D s<|bM o,λp N E P r=>?_);let m:=(l.trans<|aG C).trans E;let u:=m.seq v;rw[lB]at u;rw[akV]at r;rw[wD o]at e;let e:kindOf b=if b=lR s then Y i else wH (pI.drop JK) JK b:=e
  show Xq u (y:=VbdtCore.ints<|lR s) (aq.of r) Jg
  .let F:=E8 WI;rw[ak F]at e;let this:=k _ m;rwa [e]at this
  rw[aj λz=>h<|cn<|by rw[z]]at e;show(_,_,J,m,e)
 intro d B (f,j,rfl,l,e);let this:=k _ l;rwa [e]at this
def bZ(s:WE)(h:H x=O):az H (aA a x o):=λb u e=>by rw[aJ<|dH e h];show s b u e
def lC(b:H x=O)(hd:H a=O):az H UD:=bZ (bZ QT hd) b
def akX:aA (aA H a o) a u=aA H a u:=by funext b;delta aA;split<;>rfl
def lE(h:fs.9<=n):(bD f v fs).9<=n+1:=eO (Iv f v fs) Ja
def ji:(bD f v []).9<1000:=fP (lE JR) Je
def iE:(bD f v<|bD a b []).9<1000:=fP (lE<|lE JR) Je
def BH:(bD f v<|bD a b<|bD c d []).9<1000:=fP (lE<|lE<|lE JR) Je
def pl4:(bD f v<|bD a b<|bD c d<|bD e g []).9<1000:=fP (lE<|lE<|lE<|lE JR) Je
def pl5:(bD f v<|bD a b<|bD c d<|bD e g<|bD h v4 []).9<1000:=fP (lE<|lE<|lE<|lE<|lE JR) Je
abbrev Lw(a b:V) c d:=[(aZ "line",(a)),(aZ "kind",(b)),(aZ "parts",(.ref c)),(aZ "fault",(.int d))]
inductive pJ(A:Ad)(H:Hp) p ln kd pt a:Prop|mk dx(b:H p=Y (.ins YV dx (Lw ln kd pt a)))
inductive Xy A vs H(Q:VK):Prop|mk ln(b:vs=[ln])(c:∀p pt a,H p=O->H pt=O->p≠pt->az H a->pJ A a p ln .aW pt (-1)->a pt=Y Jx->Q JS a)
def akY(d:Jn):dP g 1 "Fact" YV ["self","line"] (Xy A):=by
 show dP.rd d d.KJ.at_ 2 [1,1,1,1] fz (ay (cJ YV Ji Jl "line")<|ay (cJ YV Ji (tC .aW) "kind")<|ay (cJ YV Ji Z1 "parts")<|cJ YV Ji (AJ (rU A2) Jh) "fault") λvs H Q h x c a j l=>?_
 let(e,rfl,k):=h;show(J,(aB,Je,aB,ji,λf b=>?_));let np:x≠f:=λz=>by rw[<-z,aB]at b;cases b
 let i:=bZ (o:=.ins YV c<|bD "kind" V.aW<|bD "line" e []) (bZ (o:=.ins YV c<|bD "line" e []) (lC (C:=YV) a j) a) a;show((by rw[aJ np];show aB),iE,aB,BH,J,k x f _ a (i.free b) np (bZ (bZ (i.trans<|aG b) a) a) (c,by rw[aB];rfl)<|by rw[aJ np.3,aJ np.3,aB])
inductive Xz(A:Ad)(vs:Ju) H(Q:VK):Prop|mk(b:vs=[])(c:∀p dx pt a,H p=O->H pt=O->p≠pt->az H a->a p=Y (.ins A.jB dx [(aZ "facts",(.ref pt)),(aZ "fault",(.int (-1)))])->a pt=Y Jx->Q JS a)
def akZ(c:Jn):dP g 1 "FactsText" A.jB ["self"] (Xz A):=by
 show dP.rd c c.KL.at_ 1 [2,2] fz (ay (cJ A.jB Ji Z1 "facts")<|cJ A.jB Ji (AJ (rU A2) Jh) "fault") λvs H Q h x f a i j=>?_
 let(rfl,k):=h;show(J,λd b=>?_);let np:x≠d:=λz=>by rw[<-z,aB]at b;cases b
 let e:=lC (C:=A.jB) a i;show((by rw[aJ np];show aB),Je,aB,ji,J,k x f d _ a (e.free b) np (bZ (bZ (e.trans<|aG b) a) a) (by rw[aB];rfl)<|by rw[aJ np.3,aJ np.3,aB])
def d6:=[[nk,wG,wG],[nk,sy],[nk],[pH,pH,sy,uJ],[pH,sy,uJ],[nk,pH,BG]]
def jD(c:Uw)(a:List dJ)(b:bU):=match c with
 |none=>(kindOf b).map λk=>(k,(a))
 |some k=>match WK[a.9]? with
  |none=>O
  |some f=>(f b).map λd=>(k,(a++[d]))
def nr:=lA
def XA{g:G}{A:Ad}(c:Jn){k:JD}{fs:List (bU->Option dJ)}(h:d6[k]?=Y fs):
  ∃i:List ax,(∀H,bR Jj H A.Bf<|i.map Qv)/\∃t,i[k]?=Y t/\∃as:List ax,(∀H,bR Jj H t<|as.map Qv)/\as.9=fs.9/\∀(j:Nat) (f:bU->Option dJ),fs[j]?=Y f->∃a,as[j]?=Y a/\qC g 4 a ["word"] (wF Jj f):=by
 let(l,m,n,o,p,q,Q,(r,s,u,S,T,X,m2),(v,w,ab,n0,n1),(x,ac,ae),(y,z,B,C,af,e0,e1,e2,e3),(D,f1,f2,ag,g0,g1,g2),(E,F,L,ai,i0,i1,i2)):=c.U_;show([l,m,n,o,p,q],Q,?_);let N:=akO c;let R:=akP c;let e:=akQ c;let Lf:=akR c;let d:=akS c;let P:=akT c;match k,h with
 |0,h=>
  cases (bt h);show(l,J,[r,s,u],S,J,λj f b=>?_);match j,b with
  |0,b=>cases (bt b);show(r,J,(N.at T).mono Je)
  |1,b=>cases (bt b);show(s,J,(R.at X).mono Je)
  |2,b=>cases (bt b);show(u,J,(R.at m2).mono Je)
 |1,h=>
  cases (bt h);show(m,J,[v,w],ab,J,λj f b=>?_);match j,b with
  |0,b=>cases (bt b);show(v,J,(N.at n0).mono Je)
  |1,b=>cases (bt b);show(w,J,(e.at n1).mono Je)
 |2,h=>
  cases (bt h);show(n,J,[x],ac,J,λj f b=>?_);match j,b with
  |0,b=>cases (bt b);show(x,J,(N.at ae).mono Je)
 |3,h=>
  cases (bt h);show(o,J,[y,z,B,C],af,J,λj f b=>?_);match j,b with
  |0,b=>cases (bt b);show(y,J,(d.at e0).mono Je)
  |1,b=>cases (bt b);show(z,J,(d.at e1).mono Je)
  |2,b=>cases (bt b);show(B,J,(e.at e2).mono Je)
  |3,b=>cases (bt b);show(C,J,(P.at e3).mono Je)
 |4,h=>
  cases (bt h);show(p,J,[D,f1,f2],ag,J,λj f b=>?_);match j,b with
  |0,b=>cases (bt b);show(D,J,(d.at g0).mono Je)
  |1,b=>cases (bt b);show(f1,J,(e.at g1).mono Je)
  |2,b=>cases (bt b);show(f2,J,(P.at g2).mono Je)
 |5,h=>
  cases (bt h);show(q,J,[E,F,L],ai,J,λj f b=>?_);match j,b with
  |0,b=>cases (bt b);show(E,J,(N.at i0).mono Je)
  |1,b=>cases (bt b);show(F,J,(d.at i1).mono Je)
  |2,b=>cases (bt b);show(L,J,(Lf.at i2).mono Je)
 |k+6,h=>simp[d6]at h
abbrev SL:=Option<|Int×Bool
def gD(o:Bool):=if o then -1 else 0
def cS(K:bH)(H:Hp)(v:V):SL->Prop|none=>v=.aW|some (n,o)=>∃a,v=.ref a/\bR K H a [.int n,.int<|gD o]
def cS.to{K}(h:cS K H v l)(s:cY H b):cS K b v l:=by cases l with|none=>show h|some x=>let(a,e,q):=h;show(a,e,cN s q)
def bh:SL->SL->SL|some a,Y b=>Y (a.1+b.1,(a.2||b.2))|c,d=>O
inductive uK K vs H(Q:VK):Prop|mk v1 b c d(e:vs=[v1,b])(f:cS K H v1 c)(g:cS K H b d)(h:∀v a,az H a->cS K a v (bh c d)->Q v a)
def yF(a:Jn):bI g 1 "add_limits" ["first","second"] (uK Jj):=by
 show bI.of (a.f 39) aj4 aj5 (aj6 a) ?_;intro vs H Q m (v1,n,f,h,rfl,b,c,k);cases f with
 |none=>
  cases b;show k _ _ QT J
 |some x=>
  let(o,i):=x;let(q,rfl,d):=b;cases h with
  |none=>
   cases c;show k _ _ QT J
  |some y=>
   let(r,j):=y;let(s,rfl,e):=c;show(d,J,e,J,d,J,e,J,_,_,J,λp l=>k _ _ (aG l) (p,J,bR.of ?_));rw[aB];cases i<;>cases j<;>rfl
def iF:SL->SL|some a=>Y (0-a.1,(a.2))|none=>O
def cA:SL->SL->Bool|none,c=>au|some c,O=>I|some a,Y b=>decide (a.1<b.1)||(decide (a.1=b.1)&&(a.2&& !b.2))
def bG(x y:SL):SL:=if cA y x=I then y else x
def Lx a b:HT.lexLt [a.1,gD a.2] [b.1,gD b.2]=cA (Y a) (Y b):=by
 let(n,o):=a;let(m,u):=b;erw[HT.lexLt,cA];cases h:n=m
 .subst h;cases o<;>cases u<;>simp[gD]
 ext
inductive Ly K vs H(Q:VK):Prop|mk v1 b(c:vs=[v1])(d:cS K H v1 b)(e:∀v a,az H a->cS K a v (iF b)->Q v a)
def XC(c:Jn):aK g 1 98 (Ly Jj):=by
 show aK.rd c 1 [0,1,1] fz (ay (a_ (tB<|gT Ji) Zy ba)<|aH<|hZ<|U (ah Q4 Jf<|ah JN Ji Jf)<|U (ah JN Ji Jh) aa) ?_;intro vs H Q f (v1,d,rfl,a,k);cases d with
 |none=>
  cases a;show k _ _ QT J
 |some x=>
  let(h,rfl,b):=a;show(b,J,b,J,λp e=>k _ _ (aG e) (p,J,bR.of aB))
inductive wI K vs H(Q:VK):Prop|mk v1 a b c(d:vs=[v1,a])(e:cS K H v1 b)(f:cS K H a c)(g:Q (.bl (cA b c)) H)
def yG(c:Jn):aK g 1 99 (wI Jj):=by
 show aK.rd c 2 [1] fz (ay (a_ (tB<|gT Ji) WJ ba)<|aH<|vU (gT Jl)<|ah (DZ Jj) Ji Jl) ?_;intro vs H Q l (v1,m,d,e,rfl,a,b,k);cases d with
 |none=>
  cases a;show k
 |some x=>
  let(f,rfl,h):=a;cases e with
  |none=>
   cases b;show k
  |some y=>
   let(i,rfl,j):=b;show(f,i,[x.1,gD x.2],[y.1,gD y.2],J,J,h,j,?_);rwa [Lx]
inductive E_ K vs H(Q:VK):Prop|mk v1 a b c(d:vs=[v1,a])(e:cS K H v1 b)(f:cS K H a c)(g:∀v,cS K H v (bG c b)->Q v H)
def ak0(a:Jn):aK g 2 100 (E_ Jj):=by show aK.rd a 2 [0] (fc (yG a) fz) (aH<|rZ (tB<|aN 2 (wI Jj)<|U Ji Qh) Ji Jl) ?_;intro vs H Q i (v1,d,e,f,rfl,b,c,k);show(v1,d,e,f,J,b,c,aT (λh=>k _ (by delta bG;rw[ak h];show b)) λh=>k _ (by delta bG;rw[aj h];show c))
abbrev Sm(i:JH):Prop:=i.5<2^4000
def uL(k:JH):SL->SL|some a=>Y (a.1*k,(a.2))|none=>O
inductive Lb K vs H(Q:VK):Prop|mk v1 b k(d:vs=[v1,.int k])(e:cS K H v1 b)(f:(∀a∈b,Sm a.1))(g:Sm k)(h:∀v c,az H c->cS K c v (uL k b)->Q v c)
def ak1(c:Jn):aK g 1 101 (Lb Jj):=by
 show aK.rd c 2 [0,1,1] fz (ay (a_ (tB<|gT Ji) Zy ba)<|aH<|hZ<|U (ah Qp (ah JN Ji Jf) Jl)<|U (ah JN Ji Jh) aa) ?_;intro vs H Q j (v1,d,f,rfl,a,e,h,k);cases d with
 |none=>
  cases a;show k _ _ QT J
 |some x=>
  let(l,rfl,b):=a;show(b,J,(e _ J,h),b,J,λp i=>k _ _ (aG i) (p,J,bR.of aB))
inductive fm K H r ls:Prop|mk vs(a:H r=Y YK)(b:bw (cS K H) vs ls)
def gL(r:ax)(H a:Hp):Prop:=∀b u,b≠r->H b=Y u->a b=Y u
def lF{K}(h:bw (cS K H) vs ls)(s:cY H a):bw (cS K a) vs ls:=dk (λb b x=>cS.to x s) h
def fm.to{K}(h:fm K H r ls)(s:WE):fm K a r ls:=by let(vs,b,c):=h;show(vs,s _ _ b,lF c<|cg s)
def gL.t{vs':Ju}(s:gL r H a)(h:H r=Y YK):cY H a:=
 (λb xs e=>s b _ (eK e h Ja) e,λb o u e=>s b _ (eK e h Ja) e)
def fm.wJ{K}(h:fm K H o ls)(a:H r=Y YK)(s:gL r H b)(c:o≠r):fm K b o ls:=by let(d,e,f):=h;show(d,s _ _ c e,lF f<|s.t (vs':=[]) a)
def nt ls f ms:=PU (λl m=>bG l<|bh f m) ls ms
inductive K9 K vs H(Q:VK):Prop|mk r f o ls b ms(c:vs=[.ref r,f,.ref o])(d:r≠o)(e:fm K H r ls)(g:cS K H f b)(h:fm K H o ms)(i:ls.9=ms.9)(j:∀a,gL r H a->fm K a r (nt ls b ms)->Q .aW a)
def Lz{b:Type}{xs a:List b}{y}(d:xs.9=a.9)(h:a[i]?=Y y):(a.take i++xs.drop i).set i y=a.take JK++xs.drop JK:=by
 let hi:=(cU.1 h).1;let c:(a.take i).9=i:=by rw[oQ];lia
 rw[List.set_append_right (h:=by lia),c,afE,aez Ja,List.set_cons_zero,CZ,h];simp
def LA{b:Type}{xs a:List b}{x}(c:xs.9=a.9)(h:xs[i]?=Y x):(a.take i++xs.drop i)[i]?=Y x:=by let hi:=(cU.1 h).1;rwa [G6 (by rw[oQ];lia),oQ,O9,show i+(i-min i a.9)=i by lia]
theorem XD{b:Type}:∀{l:List b}{i}{x},l[i]?=Y x->l.set i x=l
 |[],c,d,h=>by simp at h
 |a::r,0,x,h=>by
  rw[bt h];rfl
 |a::r,i+1,x,h=>by
  change a::r.set i x=a::r
  rw[XD (l:=r) h]
def XE{c:Type}{xs a:List c}{x}(b:xs.9=a.9)(h:xs[i]?=Y x)(d:a[i]?=Y x):a.take i++xs.drop i=a.take JK++xs.drop JK:=by rw[<-Lz b d];show (XD<|LA b h).3
def ak2(v:Jn):aK g 2 103 (K9 Jj):=by
 show aK.rd v 6 [3,1,0,0] (fc (yG v)<|fc (yF v) fz) (dc (jc Jj Qg) Ql<|ay (aP (aN 2 (uK Jj)<|U Jl ZY) Ww)<|a_ (tB<|aN 2 (wI Jj)<|U Q6<|U (ah Jq Ji JC) aa) (aP Q6<|vX Ji JC v9) ba) ?_;intro vs H Q n (r,f,o,ls,a,ms,rfl,ac,(vs,L,pv),hf,(N,P,pw),ae,k);haveI z:(nt ls a ms).9=ls.9:=by delta nt;rw[G_];lia
 show(o,N,J,aq.of P,lh (xs:=N) (λi p d=>E4 λB C D vs'=>A4 (p=[Y<|.ref r,Y f,Y<|.ref o,B,C,D]) (gL r H d) (d r=Y (.lst vs'))<|bw (cS Jj d) vs'<|(nt ls a ms).take i++ls.drop i)
  (O,O,O,vs,J,λK K K e=>e,L,by exists pv) ?_ ?_ ?_)
 .intro i p d _ (_,_,_,_,_,c,_);show aq.of<|c o _ ac.3 P
 .intro i x p R T hx (B,C,D,vs',rfl,c,E,q) hT;let(m,S,af):=d7 pw hx;let ai:=(cU.1 S).1;obtain⟨l,n⟩:∃l,ls[i]?=Y l:=J8;haveI X:(nt ls a ms)[i]?=Y (bG l<|bh a m):=by
   delta nt;rw[asY,n,S]
  let t1:=c.t (vs':=[]) L;let F:az R (aA R T Ue):=aG hT;show(f,x,a,m,J,(cS.to hf t1).to<|cg F,(cS.to af t1).to<|cg F,λw H2 s2 hw=>?_);let s:=F.trans s2;let j:=s _ _ E;let ab:=lF q<|cg s;let(y,hy,ag):=eS ab<|LA z.3 n;show(aq.of j,dI hy,w,y,_,l,J,hw,ag,Jg)
  .haveI hj:oh vs'.9 i=Y i:=by
    let:=(cU.1 hy).1;delta oh;rw[ak Ja,ak Ja];simp
   show(r,vs',_,i,J,J,j,hj,_,_,_,_,J,?_,aB,?_)
   .intro b u t e;rw[aJ t];show s b u<|c b u t e
   let e:=Lz z.3 X;rw[show bG l (bh a m)=bh a m by delta bG;rw[ak h]]at e;rw[<-e];show ED (cS.to hw<|cY.lst j) i<|lF ab<|cY.lst j
  show(_,_,_,_,J,λb u t e=>s b u<|c b u t e,j,?_);rwa [<- (XE z.3 n (by rw[X];delta bG;rw[aj h]))]
 intro p d (B,C,D,vs',rfl,c,E,q);show k d c (vs',E,?_);rw[b_ pw,<-ae]at q;rwa [tT Ja,List.drop_of_length_le Ja,iu]at q
structure eF(K:bH)(H:Hp)(a:ax)(b:Up)(M:JY):Prop where
 top:H a=Y (.lst<|b.map Qv)
 rows:bw (fm K H) b M
 nd:b.Nodup
 na:a∉b
theorem eF.to{K M}(h:eF K H a b M)(s:az H c):eF K c a b M:=(s _ _ h.top,dk (λd d x=>x.to s) h.rows,h.nd,h.na)
def fF(M:JY) k:=M.map λrow=>nt row (row.getD k O)<|M.getD k []
def aE M:=(aQ M.9).foldl fF M
def gi(M:JY):Prop:=∀r∈M,r.9=M.9
def ak3(h:ls.9=ms.9):(nt ls f ms).9=ls.9:=by delta nt;rw[G_];lia
def yH M k:(fF M k).9=M.9:=by delta fF;rw[bz]
def LC{M}(h:gi M)(c:k<M.9):gi (fF M k):=by intro r b;let(x,a,rfl):=eJ.1 b;rw[yH,ak3<|by rw[h x a,h _<|by ext],h x a]
def ak4(h:ls.9=ms.9):nt ls O ms=ls:=by
 delta nt;induction ls generalizing ms with
 |nil=>simp
 |cons a r b=>
  cases ms with
  |nil=>simp at h
  |cons m t=>
   ext;rfl
inductive XF K(vs:Ju) H(Q:VK):Prop|mk a d M(e:ZC)(f:eF K H a d M)(g:gi M)(h:M.9<=WN)(i:∀p ps c,az H c->H p=O->(∀b∈ps,H b=O)->eF K c p ps JI->Q JS c)
inductive Fb(D:ax)(b:Hp)(Pv:Nat->Hp->List V->Prop)(j:JD)(H:Hp):Prop|mk(c:gL D (aA b D Jx) H)(a:_)(d:H D=Y Yx)(e:a.9=j)(f:Pv j H a):Fb D b Pv j H
def XG D c Pv j y b:=∃a,b D=Y Yx/\a.9<cz/\Fb D c Pv Q7 (aA b D<|.lst<|a++[y])
def ak5(f:gL D (aA g D Jx) H)(h:a.9=j)(m:j<100000)(i:gL D H c)(k:c D=Y Yx)(l:Pv Q7 (aA c D<|.lst<|a++[y])<|a++[y]):XG D g Pv j y c:=
 (a,k,by rw[cP];lia,λb u d e=>by rw[aJ d];show i b u d<|f b u d e,_,aB,by rw[cE];simp[h],l)
def il(a:c D=O)(d:gL D YI H):az c H:=λb u e=>d b u (dH e a) (by rw[aJ<|dH e a];show e)
def ak6{K}{r:TE}{s:Hp->Prop}(z:d D=O) Pv(A:Pv 0 (aA d D Jx) [])(C:aq K d a xs)
  (E:∀j x H c,xs[j]?=Y x->gL D (aA d D Jx) H->H D=Y (.lst c)->c.9=j->Pv j H c->r ((cD t [i]).set i<|Y x) H (XG D d Pv j))
  (hd:∀H c,gL D (aA d D Jx) H->H D=Y (.lst c)->c.9=xs.9->Pv xs.9 H c->s H):
  ∃g:Nat->Nat->Hp->Prop,(∃m,g 0 m<|aA d D Jx)/\∀j m H,g j m H->
   ((mf K a).stop j H/\s H)\/((mf K a).go j H/\∃h:Hp->Prop,(∀f,h f->∃u,u<m/\g Q7 u f)/\∀x f,(mf K a).jW j H x f->aC i x (cD t [i]) f λk F=>cD k [i]=cD t [i]/\k9 k F λb v=>
    if b=I then r k v λy w=>∃l,w D=Y (.lst l)/\l.9<cz/\h (aA w D<|.lst<|l++[y]) else h v):=by
 show SQ (Fb D d Pv) (λN N N e=>e,[],aB,J,A) (λj H N p=>(il z p.1).seq C) ?_ ?_
 .intro j x H L (n,c,o,q,p);show(?_,?_)
  .erw[cD];ext
  show IZ (B:=Fb D d Pv Q7 H)<|E j x H c L n o q p
 intro H (n,c,o,q,p);show hd H c n o q p
def Fc M k:(aQ QU).foldl fF M=fF ((aQ k).foldl fF M) k:=by rw[oR,zR];rfl
theorem BI M:∀k,((aQ k).foldl fF M).9=M.9|0=>rfl|k+1=>by rw[Fc,yH,BI M k]
theorem Fd{M}(h:gi M):∀k,k<=M.9->gi ((aQ k).foldl fF M)
 |0,b=>h
 |k+1,a=>by
  rw[Fc];show LC (Fd h k Ja) (by rw[BI];lia)
def take_snoc{a:Type}{l:UI}{x}(h:l[i]?=Y x):l.take JK=l.take i++[x]:=by rw[CZ,h];rfl
theorem Fe{K}(d:H p=Y YK)(f:gL p H g)(l:fm K g p new):∀{ps c j},bw (fm K H) ps c->ps.Nodup->ps[j]?=Y p->bw (fm K g) ps (c.set j new)
 |_,_,_,.nil,_,h=>by simp at h
 |q::ps,m::c,0,.cons a b,i,h=>by
  let e:=bt h;subst e;let(k,n):=mM.1 i;show .cons l<|sA d f b k
 |q::ps,m::c,j+1,.cons a b,i,h=>by
  let(k,n):=mM.1 i;show .cons (a.wJ d f λz=>k<|z▸bM h)<|Fe d f l b n h
where
 sA {K:bH}{H g:Hp}{p:ax}{vs:Ju}(d:H p=Y YK) f:∀{ps:List ax}{c:List (List SL)},bw (fm K H) ps c->p∉ps->bw (fm K g) ps c
 |_,_,.nil,_=>.nil
 |q::ps,_,.cons a b,h=>.cons (a.wJ d f λz=>h<|z▸dM)<|sA d f b λz=>h<|df _ z
def sA{K}(a:H p=Y YK)(b:gL p H d)(h:bw (fm K H) ps e) c:=Fe.sA a b h c
def qM:gL p H (aA H p o):=λb u a e=>by rw[aJ a];show e
def mj(s:WE):gL r H a:=λb u c e=>s b u e
def ak7{M}(a:gi M)(b:row∈M)(c:k<M.9):row[k]?=Y (row.getD k O):=by rw[jO,cy (by rw[a row b];show c)];rfl
def fG{a:Type}{l:UI}{d x}(h:l[k]?=Y x):l.getD k d=x:=by ext
def ak8(al:Jn):bI g 3 "close_limits" ["rows"] (XF Jj):=by
 show bI.of (al.f 46) yB aj7 (aj8 al<|ak2 al) ?_;intro vs H Q hl (a,rs,M,rfl,F,a4,bl,k);show(a,J,(_,aq.of F.top),λD L=>ak6 L (λj d ys=>∃ps:List ax,ys=ps.map Qv/\bw (fm Jj d) ps (M.take j)/\ps.Nodup/\D∉ps/\∀b∈ps,H b=O)
  ([],J,.nil,xK,Jc,Jc) (aq.of F.top) ?_ ?_)
 .intro j x N ys t P R ar (ps,rfl,pr,B,C,S);obtain⟨r,hr,rfl⟩:∃r,rs[j]?=Y r/\V.ref r=x:=by ext
  let(m,v,vs,hv,pv):=d7 F.rows hr;let s1:=il L P;let bm:=(cU.1 v).1;show(r,vs,J,.inl<|aq.of<|s1 _ _ hv,λl hl=>?_);let n1:az N (aA N l YK):=aG hl;let lD:D≠l:=Ja
  let am:aA N l YK D=Y Wd:=by rw[aJ lD];show R
  show ak5 P ar Ja (mj n1) am (ps++[l],by rw[eV];rfl,?_,?_,?_,?_)
  .rw[take_snoc v];show yA (sA am qM (dk (λK K x=>x.to n1) pr) C)<|.cons (fm.wJ (vs,aB,lF (lF pv<|cg s1)<|cg n1) am qM lD.3) .nil
  .show wc B λz=>?_
   let(i,hi):=kL z;let(_,_,_,e):=d7 pr hi;lia
  .ext
  intro b hb;rcases dC.1 hb with z|z
  .show S b z
  let e:b=l:=by exists z
  rw[e];show s1.free hl
 intro N ys P R ar (ps,rfl,pr,B,C,S);rw[bz,b_ F.rows,ir]at pr;let a5:=b_ pr;let hn:(((ps.map Qv).9:Nat):Int).6=M.9:=by ext
 show(.inl<|aq.of R,_,J,Ja,by rw[bz];lia,pj (λi f d=>E3 λx2 x3 n=>A3 (f=[Y Jy,Y Ys,x2,x3,n]) (az H d)<|eF Jj d D ps<|(aQ i).foldl fF M)
  (O,O,O,J,il L P,R,pr,B,C) ?_ ?_)
 .intro i f T hi (x2,x3,n,rfl,s2,q);let as:=BI M i;let w:=Fd a4 i Ja;generalize a6:(aQ i).foldl fF M=y at q as w;obtain⟨m,v⟩:∃m,y[i]?=Y m:=J8;let(r,hr,vr,a7,a8):=eS q.rows v;let av:=bM v;show(aq.of q.top,fU (j:=i) (by change (0:Int)+i=_;lia) (by rw[c8,hr];rfl),r,vr,J,.inl<|aq.of a7,λo ho=>?_);let n2:az T (aA T o<|.lst vr):=aG ho;let a9:o∉ps:=λz=>by
   let(i,hi):=kL z;let(_,_,_,e):=d7 q.rows hi;rw[ho]at e;cases e
  let an:=q.to n2;let E:=yH y i;show(D,J,(_,aq.of an.top),k7 (λj f d=>∃n,A5 (f=[Y Jy,Y Ys,Y<|.int<|0+i,Y<|.ref o,n]) (az H d) (d D=Y Wd) (fm Jj d o m)<|bw (fm Jj d) ps<|(fF y i).take j++y.drop j)
   (n,J,s2.trans n2,an.top,(vr,aB,lF a8<|cg n2),by exists an.rows) (λj f d _ (_,_,_,h,_,_)=>aq.of h) ?_ ?_)
  .intro j x f H4 t (n,rfl,X,ab,ac,ae);obtain⟨p,s,rfl⟩:∃r,ps[j]?=Y r/\V.ref r=x:=by
    rw[c8]at t;cases e:ps[j]? with|none=>rw[e]at t;cases t|some r=>rw[e]at t;show(r,J,bt t)
   obtain⟨row,af⟩:∃row,y[j]?=Y row:=(_,cy (by let:=(cU.1 s).1;lia));let ao:=bM af;let aw:(fF y i)[j]?=Y (nt row (row.getD i O) m):=by
    delta fF;rw[c8,af,fG v];rfl
   let(p',a0,a1):=eS ae<|LA E.3 af;rw[s]at a0;obtain rfl:p=p':=bt a0;let(vp,ag,be):=id a1;let(c,hc,ap):=eS be<|ak7 (k:=i) w ao Ja;let a2:jw vp (0+i)=Y c:=fU Ja hc;show(aq.of ag,a2,aT (λa3=>?_) λa3=>?_)
   .let po:p≠o:=λz=>a9 (z▸bM s)
    show(aq.of ag,a2,p,c,o,row,_,m,J,po,a1,ap,ac,by rw[w row ao,w m av],λH5 ai bi=>(_,J,λb u e=>ai b u (λz=>by rw[z,S p<|bM s]at e;cases e)<|X b u e,ai _ _ (λz=>by rw[<-z]at s;show C<|bM s) ab,ac.wJ ag ai po.3,?_));rw[<-Lz E.3 aw];show Fe ag ai bi ae B s
   let bk:row.getD i O=O:=by
    cases e:row.getD i O with
    |none=>rfl
    |some x=>
     rw[e]at ap;let(z,rfl,_):=ap;show absurd J a3
   show(_,J,X,ab,ac,?_);rwa [<-XE E.3 af (by rw[aw,bk,ak4<|by rw[w row ao,w m av]])]
  intro f H4 (n,rfl,X,ab,ac,ae);show(_,_,_,J,X,ab,?_,B,C);rw[Fc,a6];rwa [bz,a5,<-as,<-E,ir,E,Hj,iu]at ae
 intro f T (x2,x3,n,rfl,s2,q);rw[hn]at q;show k D ps T s2 L S q
def eG p q(H a:Hp):=∀b u,b≠p->b≠q->H b=Y u->a b=Y u
def eG.refl p q H:eG p q H H:=λa a a a e=>e
def eG.trans(a:eG p q H g)(b:eG p q g h):eG p q H h:=λc u d f e=>b c u d f<|a c u d f e
def eG.of(s:WE):eG p q H a:=λc u b b e=>s c u e
def eG.u1:eG p q H (aA H p o):=λc u a b e=>by rw[aJ a];show e
def eG.u2:eG p q H (aA H q o):=λc u b a e=>by rw[aJ a];show e
def eG.t(s:eG p q H d)(a:H p=Y (.ins C f fs))(c:H q=Y JX):cY H d:=
 (λb g e=>s b _ (eK e a Ja) (eK e c Ja) e,λb o u e=>s b _ (eK e a Ja) (eK e c Ja) e)
def uM{K}(h:bw (PV K H) vs ls)(s:cY H a):bw (PV K a) vs ls:=dk (λb b x=>PV.to x s) h
inductive LD K A(vs:Ju) H(Q:VK):Prop|mk p w ln kd pt d c xs b(g:vs=[.ref p,.ref w])(h:pJ A H p ln (nr kd) pt d)(i:H pt=Y JX)(j:bw (PV K H) xs c)(l:aq K H w (cO b))(m:b.9<=100000)(n:(∀k,kd=Y k->k<6/\c.9<=(d6.getD k []).9))(o:(jD kd c b=O->∀v a,eG p pt H a->pJ A a p ln v pt d->Q (.bl au) a))(q:(∀k e,jD kd c b=Y (k,(e))->∀f a,eG p pt H a->pJ A a p ln (nr (Y k)) pt d->a pt=Y (.lst f)->bw (PV K a) f e->Q (.bl I) a))
def ak9(u:Jn):bI g 5 "take_word_grammar" ["fact","word"] (LD Jj A):=by
 let(f,S,F):=u.Va;suffices h:∃fd,mO Jj J7=I/\Binds Jj fd ["fact","word"] []/\iV g.P g.w Jj g.mg Wn jd 5 f fd ["fact","word"] (pC 2<|LD Jj A) by
  let(fd,T,X,h3):=h;show(f,fd,S,T,X,h3)
 show AU F VY aj0 (aj1 u<|akW u) ?_;intro vs H Q hl (p,w,E,x,r,L,s,xs,b,rfl,(l,c),j,pv,N,hb,hk,B,kS);show(c,Jg)
 .let e:x=O:=by cases x with|none=>rfl|some k=>simp[nr,lA]at h
  subst e;show(w,b,J,N,λy i=>(i _ _ c,(by change 4<WN;decide),aB,?_));let goal:∀o,kindOf b=o->Q (.bl<|!decide (lA o=.aW)) (aA y p<|.ins YV l<|bD "kind" (lA o)<|Lw E (nr O) r L):=by
   intro o e;let m:eG p r H (aA y p<|.ins YV l<|bD "kind" (lA o)<|Lw E (nr O) r L):=(eG.of i).trans eG.u1;cases o with
   |none=>
    show B (by delta jD;rw[e];rfl) .aW _ m (l,?_);rw[aB];rfl
   |some k=>
    show kS k s (by delta jD;rw[e];rfl) xs _ m (l,by rw[aB];rfl) (by rw[aJ<|eK j c (by intro z;cases z)];show i _ _ j)<|uM pv<|m.t c j
  show goal _ J
 obtain⟨k,rfl⟩:∃k,x=Y k:=by cases x with|none=>simp[nr,lA]at h|some k=>show(k,J)
 let(af,ab):=hk k J;obtain⟨fs,C⟩:∃fs,d6[k]?=Y fs:=(_,cy (by change k<6;omega));let D:d6.getD k []=fs:=fG C;let(ts,ac,t,ht,as,has,ag,ae):=XA u C;let lx:=b_ pv;show(c,ac H,dI (v:=V.ref t) (by rw[c8,ht];rfl),c,.inl<|aq.of j,.inr<|has H,Jg)
 .show B ?_ _ _ (eG.refl _ _ _) (l,c);let h:xs.9=(((as.map Qv).9:Nat):Int):=by exists h
  delta jD;erw[D];rw[bz]at h;rw[CT JE]
 let h:¬xs.9=(((as.map Qv).9:Nat):Int):=by exists h
 rw[bz]at h;rw[D]at ab;obtain⟨n,P⟩:∃n,fs[s.9]?=Y n:=(_,cy JE);let(a,ha,FA):=ae _ n P;let R:jD (Y k) s b=(n b).map λd=>(k,(s++[d])):=by delta jD;erw[D,P]
 show(c,.inl<|aq.of j,has H,fU (by rw[lx]) (by rw[c8,ha];rfl),a,_,_,J,FA,J,w,b,J,N,hb,λv y i q=>aT J4 λh=>?_)
 .cases e:n b with
  |none=>show B (by rw[R,e];rfl) _ _ (eG.of i) (l,i _ _ c)
  |some d=>
   rw[e]at q;show absurd (by exists h)<|PV.ne q
 cases e:n b with
 |none=>
  rw[e]at q;show absurd (by rw[q];rfl) h
 |some d=>
  rw[e]at q;let m:eG p r H (aA y r<|.lst<|xs++[v]):=(eG.of i).trans eG.u2;show(i _ _ c,.inl (J,_,aq.of<|i _ _ j),i _ _ j,?_,kS k (s++[d]) (by rw[R,e];rfl) (xs++[v]) _ m (l,?_) aB ?_)
  .rw[cP];let:fs.9<=4:=by
    rcases k with _|_|_|_|_|_|k
    all_goals (try (have:=bt C;rw[<-this];decide))
    lia
   lia
  .rw[aJ<|eK c j (by intro z;cases z)];show i _ _ c
  show ot (uM pv<|m.t c j)<|PV.to q<|cY.lst<|i _ _ j
def Ff(s:WE)(c:H p=O)(d:H q=O)(t:eG p q a f):az H f:=λb u e=>t b u (dH e c) (dH e d)<|s b u e
def pK(n:JD):Option Nat->List dJ->Nat->List bU->Except Nat (Nat×List dJ)
 |b,a,d,[]=>match b with
  |some k=>if a.9<(d6.getD k []).9 then .error n else .ok (k,(a))
  |none=>.error n
 |b,a,pl,w::c=>match jD b a w with
  |none=>.error pl
  |some x=>pK n (Y x.1) x.2 YL c
def kx b:=pK b.9 O [] 0<|cB 32 b
set_option tactic.hygienic true in
def ala(h:jD c i b=Y (k,(m)))(n:c=O->i=[])(o:∀j,c=Y j->j<6/\i.9<=(d6.getD j []).9):k<6/\m.9<=(d6.getD k []).9:=by
 delta jD at h;cases c with
 |none=>
  rw[n J]at h;erw[tS]at h;let(j,a,l):=h;injection l with e g
  subst e g;show(?_,eX _);delta kindOf pI at a;erw[wH]at a;split at a
  .cases a;decide
  lia
 |some j=>
  let(a,l):=o j J;simp only at h;split at h
  .cases h
  rename_i f p;erw[tS]at h;let(d,r,q):=h;injection q with e g
  subst e g;show(a,?_);let:=(cU.1 p).1;rw[cE,nJ];lia
inductive LF K A(vs:Ju) H(Q:VK):Prop|mk a b(e:ZC)(g:H a=Y (.lst (cO b)))(h:b.9<=100000)(i:(∀f,kx b=.error f->∀p v pt c,az H c->H p=O->pJ A c p Jy v pt (f:JD)->Q JS c))(j:(∀k d,kx b=.ok (k,(d))->∀p pt xs c,az H c->H p=O->H pt=O->pJ A c p Jy (nr (Y k)) pt (-1)->c pt=Y JX->bw (PV K c) xs d->Q JS c))
def XH m b:cB m b≠[]:=by
 induction b with
 |nil=>simp[cB]
 |cons c r a=>
  delta cB;split
  .simp
  split<;>simp
set_option tactic.hygienic true in
def LG m b:∀w∈cB m b,w.9<=b.9:=by
 induction b with
 |nil=>simp[cB]
 |cons c r d=>
  delta cB;split
  .intro w a;rcases fQ.1 a with e|a
   .rw[e];simp
   let:=d w a;simp;lia
  split
  .ext
  rename_i f g e;intro w a;rw[e]at d;rcases fQ.1 a with h|a
  .ext
  let:=d w<|df _ a;simp;lia
def BA.get{c:List bU}(h:BA H0 H p<|c.map VbdtCore.ints):∃ps:List ax,H p=Y Wd/\ps.9=c.9/\(∀b∈ps,H0 b=O)/\∀(i:Nat) q,ps[i]?=Y q->∃w,c[i]?=Y w/\H q=Y (.lst<|cO w):=by
 let(ps,f,d,g):=h;let l:=b_ d;rw[bz]at l;show(ps,f,l,g,λi q j=>?_);let(y,a,k):=d7 d j;rw[c8]at a;cases e:c[i]? with
 |none=>rw[e]at a;cases a
 |some w=>
  rw[e]at a;let a:=bt a;subst a;show(w,J,by rw[lB];show k)
def sC{a:Up}{j:JD}(b:(a.map Qv)[j]?=Y x):∃r,a[j]?=Y r/\V.ref r=x:=by ext
def XI(o:Jn):aK g 6 57 (LF Jj A):=by
 show aK.rd o 4 [2,0,0,1,1,0,90,0,90,1,90,1,1,1,90] (fc (EU o)<|fc (ak9 o)<|kc (akY o) fz) (ay (aP (fJ (Xy A) ZZ) Wv)<|ay (aP Jf QQ)<|ay (dc (gU Jj<|aN 2 (BB Jj)<|U Ji<|U (tC<|.int<|32) aa) Zx<|ay (a_ (jV<|tB<|aN 2 (LD Jj A)<|U Jl Zo) (ay (cJ YV Jl Jv "fault")<|aH Jl) ba)<|n8 2 (ah QN (bA Qb Zo) Jh) U1)<|ay (a_ (aY<|ah QO (bA Qb<|U (aD YV Jl "parts") aa)<|bA Qb<|U (ah JN (tC<|.ref A.Bf)<|aD YV Jl "kind") aa) (cJ YV Jl JJ "fault") ba)<|aH Jl) ?_;intro vs H Q hl (a,b,rfl,X,hb,kE,kO);show(.ref a,J,λp f H1 l F a2 N hF P=>?_);let ab:=N _ _ X;rw[lB]at ab;show(a,32,Qj,J,aq.of ab,by delta VbdtCore.ints;rw[bz];show hb,λL H2 s hL ac=>?_);rw[show 32=((32:Nat):Int) from J,yE]at ac;let(ps,h1,h2,h3,h4):=ac.get;let(dx,ae):=hF;let pL:p≠L:=Ja
 haveI tL:f≠L:=λz=>by rw[<-z,P]at hL;cases hL
 show(_,J,(_,aq.of h1),k7 (xs:=ps.map Qv) (λi u r=>E5 λR c d xs pl=>A9 (u=[Y Jy,Y JS,Y<|.int ((pl:JD):Int),R]) (eG p f H2 r) (pJ A r p Jy (nr c) f<|-1) (r f=Y JX) (bw (PV Jj r) xs d) (c=O->d=[]) ((∀j,c=Y j->j<6/\d.9<=(d6.getD j []).9)) (0<i->c≠O)<|kx b=pK b.9 c d pl ((cB 32 b).drop i))
  (O,O,[],[],0,J,eG.refl _ _ _,(dx,s _ _ ae),s _ _ P,.nil,λa=>rfl,λK h=>(by cases h),λh=>absurd h Je,J) ?_ ?_ ?_)
 .intro i u r _ (_,_,_,_,_,_,m,_);show aq.of<|m _ _ pL.3 tL.3 h1
 .intro i x u y hx (R,c,d,xs,pl,rfl,m,n,B,pv,c1,C,S,e);let(q,hq,rfl):=sC hx;let(w,hw,ap):=h4 i q hq;let af:=bM hq;haveI ag:q≠p:=λz=>by let:=h3 q af;rw[z,ae]at this;cases this
  haveI ai:q≠f:=λz=>by let:=h3 q af;rw[z,P]at this;cases this
  let al:=m _ _ ag ai ap;rw[wD hw]at e;let a3:=LG 32 b w<|bM hw;show(p,q,Jy,c,f, -1,d,xs,w,J,n,B,pv,aq.of al,Ja,C,?_,?_)
  .intro D v H4 E (ar,T);haveI e:kx b=.error pl:=by rw[e];delta pK;rw[D]
   let st:=Ff N l F<|(eG.of s).trans<|m.trans E;show(T,(by change 4<WN;decide),kE pl e p v f _ (bZ st l) l (ar,?_));rw[aB];rfl
  intro k am D av H4 E T aw a0;haveI e:kx b=pK b.9 (Y k) am YL ((cB 32 b).drop JK):=by rw[e];conv=>lhs;unfold pK;rw[D]
  show(_,J,.inl<|aq.of<|E _ _ ag ai al,_,_,J,J,Y Wm,Y k,am,av,YL,?_,m.trans E,T,aw,a0,λz=>(by cases z),λj z=>?_,λK z=>(by cases z),e)
  .change avx _ _ _=_
   simp[lu];lia
  cases z;show ala D c1 C
 intro u y (R,c,d,xs,pl,rfl,m,(an,n),B,pv,c1,C,S,e);rw[bz,h2]at e S;rw[Hj]at e;obtain⟨k,rfl⟩:∃k,c=Y k:=by cases c with|none=>show absurd J<|S<|Ha.2<|XH 32 b|some k=>show(k,J)
 let(a4,a5):=C k J;obtain⟨fs,ao⟩:∃fs,d6[k]?=Y fs:=(_,cy (by change k<6;omega));let(ts,a1,t,ht,as,has,a6):=XA o ao;haveI e:kx b=if d.9<(d6.getD k []).9 then .error b.9 else .ok (k,(d)):=by rw[e];rfl
 rw[fG ao]at e;let st:=Ff N l F<|(eG.of s).trans m;let lx:=b_ pv;show(n,.inl<|aq.of B,n,a1 y,dI (v:=V.ref t) (by rw[c8,ht];rfl),.inr<|has y,Jg)
 .haveI h:xs.9<(((as.map Qv).9:Nat):Int):=by exists h
  rw[bz]at h;rw[ak JE]at e;show(.inl (aq.of (st _ _ X)),n,(by change 4<WN;decide),kE b.9 e p (nr (Y k)) f _ (bZ st l) l (an,?_));rw[aB,lu];rfl
 haveI h:¬xs.9<(((as.map Qv).9:Nat):Int):=by exists h
 rw[bz]at h;rw[aj JE]at e;show (kO k d e p f xs y st l F (an,n) B pv)
def uN b:=(cB 10 b).headD []
def sD(b:bU):Except Nat (Nat×List dJ):=match kx (uN b) with
 |.error f=>.error f
 |.ok x=>if (uN b).9<b.9 then .error (uN b).9 else .ok x
inductive XJ K A(vs:Ju) H(Q:VK):Prop|mk a b(e:ZC)(g:H a=Y (.lst (cO b)))(h:b.9<=100000)(i:(∀f,sD b=.error f->∀p v q pt c,az H c->pJ A c p Wm v pt (f:JD)->Q JS c))(j:(∀k d,sD b=.ok (k,(d))->∀p q pt xs c,az H c->H p=O->H pt=O->H q=O->pJ A c p Wm (nr (Y k)) pt (-1)->c q=Y (.lst (cO (uN b)))->c pt=Y JX->bw (PV K c) xs d->Q JS c))
def alb(s:Jn):aK g 7 58 (XJ Jj A):=by
 show aK.rd s 3 [0,1,0,0,1,0,90,90,1,90] (fc (XI s)<|fc (EU s) fz) (ay (aP (ah Jq (aN 2 (BB Jj)<|U Ji<|U (tC<|.int<|10) aa) Jf) Wv)<|ay (aP (aN 1 (LF Jj A) Qh) QQ)<|ay (a_ (jb (aY<|ah QO (aD YV Jv "fault") Jf)<|aY<|ah QO (bA Qb Qh) JJ) (cJ YV Jv (bA Qb Qh) "fault") ba)<|aH Jv) ?_;intro vs H Q hl (a,b,rfl,C,P,D,R);let E:=C;rw[lB]at E;show(a,10,Qj,J,aq.of E,by delta VbdtCore.ints;rw[bz];show P,λL H1 d hL F=>?_);rw[show 10=((10:Nat):Int) from J,yE]at F;let(ps,S,T,X,h4):=F.get;obtain⟨q,t⟩:∃q,ps[0]?=Y q:=(_,cy (by rw[T];show Ha.2<|XH 10 b));let(w,j,l):=h4 0 q t;let u:uN b=w:=by
  delta uN;cases e:cB 10 b with|nil=>rw[e]at j;simp at j|cons x r=>rw[e]at j;show bt j
 let ac:=LG 10 b w<|bM j;show(aq.of S,fU J (by rw[c8,t];rfl),q,w,J,l,Ja,?_,?_)
 .intro f y p v m z c B (n,i);show(i,Jg)
  .let:(f:JH) <0:=by exists h
   omega
  show D f ?_ p v q m z (d.trans c) (n,i);delta sD;rw[u,y]
 intro k N y p m xs z c B ab (n,i) hP pv;let o:sD b=if w.9<b.9 then .error w.9 else .ok (k,(N)):=by delta sD;rw[u,y]
 show(i,aT J4 λh=>absurd J h);show(.inl<|aq.of<|c _ _ l,.inl<|aq.of<|c _ _<|d _ _ C,Jg)
 .let h:((cO w).9:Int) <((cO b).9:Int):=by exists h
  rw[lu,lu]at h;rw[ak JE]at o;show(.inl<|aq.of<|c _ _ l,i,(by change 4<WN;decide),D _ o p (nr<|Y k) q m _ (bZ (d.trans c)<|d.free B) (n,?_));rw[aB,lu];rfl
 let h:¬((cO w).9:Int) <((cO b).9:Int):=by exists h
 rw[lu,lu]at h;rw[aj JE]at o;show R k N o p q m xs z (d.trans c) (d.free B) (d.free ab) (X q<|bM t) (n,i) (by rw[u];show c _ _ l) hP pv
abbrev uO:=bU×Nat×List dJ
def kD:Nat->List bU->Except Nat (List uO)
 |a,[]=>.ok []
 |st,l::ls=>match kx l with
  |.error f=>.error<|st+f
  |.ok x=>match kD (st+l.9+1) ls with
   |.error e=>.error e
   |.ok r=>.ok<|(l,(x))::r
def ow(b:bU):=if b=[] then .ok [] else kD 0 (cB 10 b)
def LH(a:List uO):Except Nat (List uO)->Except Nat (List uO)|.error e=>.error e|.ok r=>.ok<|a++r
inductive lG(K:bH)(A:Ad)(H0 H:Hp)(v:V)(x:uO):Prop|mk(p:_)(q:_)(pt:_)(xs:_)(a:v=.ref p)(b:pJ A H p Wm (nr (Y x.2.1)) pt (-1))(c:H q=Y (.lst (cO x.1)))(d:H pt=Y JX)(e:bw (PV K H) xs x.2.2)(f:H0 p=O)(g:H0 q=O)(h:H0 pt=O):lG K A H0 H v x
def lG.XM{K}(h:lG K A H0 H v x)(s:eG a b H d)(r:H0 a=Y t)(u:H0 b=Y w)(f:H a=Y (.ins C y fs))(g:H b=Y (.lst B)):lG K A H0 d v x:=by
 let(p,q,i,xs,rfl,(j,k),l,m,o,f1,f2,c):=h;haveI n:∀{z:ax},H0 z=O->z≠a/\z≠b:=λ{z} D=>(λe=>by lia,λe=>by lia)
 show(p,q,i,xs,J,(j,s _ _ (n f1).1 (n f1).2 k),s _ _ (n f2).1 (n f2).2 l,s _ _ (n c).1 (n c).2 m,uM o<|s.t f g,f1,f2,c)
def lG.to{K}(h:lG K A H0 H v x)(s:WE):lG K A H0 a v x:=by let(p,q,b,xs,rfl,(c,d),e,f,g,f1,f2,i):=h;show(p,q,b,xs,J,(c,s _ _ d),s _ _ e,s _ _ f,uM g<|cg s,f1,f2,i)
def lG.old{K}(h:lG K A a H v x)(s:az H0 a):lG K A H0 H v x:=by let(p,q,b,xs,rfl,c,d,e,f,f1,f2,g):=h;show(p,q,b,xs,J,c,d,e,f,s.free f1,s.free f2,s.free g)
abbrev LI(a:ax)(b:JH):List QD:=[(aZ "facts",(.ref a)),(aZ "fault",(.int b))]
inductive LJ K A(vs:Ju) H(Q:VK):Prop|mk a b(d:ZC)(e:H a=Y (.lst (cO b)))(g:b.9<=100000)(h:(∀f,ow b=.error f->∀p dx pt c,az H c->c p=Y (.ins A.jB dx (LI pt (f:JD)))->Q JS c))(i:(∀L,ow b=.ok L->∀p dx pt xs c,az H c->c p=Y (.ins A.jB dx (LI pt (-1)))->c pt=Y JX->H pt=O->bw (lG K A H c) xs L->Q JS c))
set_option tactic.hygienic true in
def alc m b:(cB m b).9<=b.9+1:=by
 induction b with
 |nil=>simp[cB]
 |cons c r a=>
  delta cB;split
  .simp;omega
  split
  .simp
  rename_i d f e;rw[e]at a;simp at a⊢;lia
def XN(N:Jn):aK g 7 59 (LJ Jj A):=by
 show aK.rd N 5 [2,0,90,0,0,1,0,1,2,0,1,90,2,0,90] (fc (EU N)<|fc (XI N)<|kc (akZ N) fz) (ay (aP (fJ (Xz A) aa) Wv)<|ay (a_ (aY<|ah dR JJ Jf) (aH Jl) ba)<|ay (aP Jf QQ)<|ay (dc (gU Jj<|aN 2 (BB Jj)<|U Ji<|U (tC<|.int<|10) aa) Zx<|ay (aP (aN 1 (LF Jj A) Zo) UN)<|ay (a_ (aY<|ah Ym (aD YV Qi "fault") Jf) (ay (cJ A.jB Jl (ah QN Jv<|aD YV Qi "fault") "fault")<|aH Jl) ba)<|ay (cG<|ff Jj "list" gb (aD A.jB Jl "facts") ZY)<|n8 2 (ah QN (bA Qb Zo) Jh) U1)<|aH Jl) ?_;intro vs H Q hl (a,b,rfl,ha,hb,kE,kO);show(J,λp P d R hp S av s t y=>(.inl<|aq.of<|s _ _ ha,Jg))
 .haveI e:b=[]:=by
   haveI:((cO b).9:Int)=0:=by exists h
   rw[lu]at this;ext
  show kO [] (by delta ow;rw[ak e]) p P d [] R s t y S .nil
 haveI e:b≠[]:=λz=>h (by rw[z];rfl)
 haveI eR:ow b=kD 0 (cB 10 b):=by delta ow;rw[aj e]
 let af:=s _ _ ha;rw[lB]at af;show(a,10,Qj,J,aq.of af,by delta VbdtCore.ints;rw[bz];show hb,λL H2 D T ag=>?_);rw[show 10=((10:Nat):Int) from J,yE]at ag;let(ps,h1,h2,h3,h4):=ag.get;haveI pL:p≠L:=λz=>by rw[<-z,t]at T;cases T
 haveI tL:d≠L:=λz=>by rw[<-z,y]at T;cases T
 haveI a5:ps.9<=b.9+1:=by rw[h2];show alc 10 b
 show(_,J,(_,aq.of h1),k7 (xs:=ps.map Qv) (λi X E=>E5 λx3 x4 st n xs=>A7 (X=[Y Jy,Y JS,Y<|.int ((st:JD):Int),x3,x4]) (eG p d H2 E) (E p=Y (.ins A.jB P<|LI d<|-1)) (E d=Y JX) (bw (lG Jj A R E) xs n) (n.9=i)<|ow b=LH n (kD st<|(cB 10 b).drop i))
  (O,O,0,[],[],J,eG.refl _ _ _,D _ _ t,D _ _ y,.nil,J,by rw[eR];simp;cases kD 0 (cB 10 b)<;>rfl) ?_ ?_ ?_)
 .intro i X E _ (_,_,_,_,_,_,l,_);show aq.of<|l _ _ pL.3 tL.3 h1
 .intro i x X H3 hx (x3,x4,st,n,xs,rfl,l,m,o,pv,ai,e);let(q,hq,rfl):=sC hx;let(w,hw,aw):=h4 i q hq;let ab:=bM hq;haveI al:q≠d:=λz=>by let:=h3 q ab;rw[z,y]at this;cases this
  haveI ac:=l _ _ (λz=>by let:=h3 q ab;rw[z,t]at this;cases this) al aw;rw[wD hw]at e;let a6:=LG 10 b w<|bM hw;let hi:=(cU.1 hq).1;let S3:=Ff s hp S<|(eG.of D).trans l;haveI am:∀z,H3 z=O->R z=O:=λz B=>by
   cases e:R z with
   |none=>rfl
   |some u=>
    cases an:z=p
    .rw[an,m]at B;cases B
    cases ao:z=d
    .rw[ao,o]at B;cases B
    rw[l _ _ an ao<|D _ _ e]at B;cases B
  show(q,w,J,ac,Ja,?_,?_)
  .intro f ef C v ap H4 c ar (as,F);show(F,Jg)
   .show(F,c _ _ m,(by change 2<WN;decide),kE (st+f) ?_ p P d _ (bZ (S3.trans c) hp) ?_)
    .rw[e];delta kD;rw[ef];rfl
    rw[aB];rfl
   show absurd (cn Ja) h
  intro k ds ef C ap a0 H4 c ar a1 (as,F) a2 a3;show(F,aT (λh=>absurd WI JE) λh=>?_);let ae:eG p d H4 (aA H4 d<|.lst<|xs++[.ref C]):=eG.u2;let lx:=b_ pv;haveI a4:aA H4 d (.lst<|xs++[.ref C]) q=Y (.lst<|cO w):=by rw[aJ al];show c _ _ ac
  show(c _ _ m,.inl (J,_,aq.of<|c _ _ o),c _ _ o,by rw[cP];omega,_,J,.inl<|aq.of a4,_,_,J,J,Y Wm,Y Zl,st+w.9+1,n++[(w,k,(ds))],xs++[.ref C],?_,(l.trans (eG.of c)).trans ae,?_,aB,?_,?_,?_)
  .change avx _ _ _=_
   simp[lu];omega
  .rw[aJ av];show c _ _ m
  .show ot (dk (λK K x=>lG.XM (x.to c) ae t y (c _ _ m) (c _ _ o)) pv) (lG.XM (C,q,ap,a0,J,(as,F),c _ _ ac,a2,a3,am _ ar,h3 q ab,am _ a1) ae t y (c _ _ m) (c _ _ o))
  .rw[cE,ai];rfl
  rw[e];conv=>lhs;unfold kD
  rw[ef];simp only;cases kD (st+w.9+1) ((cB 10 b).drop JK) with|error z=>rfl|ok r=>simp[LH]
 intro X H3 (x3,x4,st,n,xs,rfl,l,m,o,pv,ai,e);rw[bz,h2,Hj]at e;let S3:az H H3:=Ff s hp S ((eG.of D).trans l);show (kO n (by rw[e];simp[kD,LH]) p P d xs H3 S3 m o S (dk (λK K x=>x.old s) pv))
abbrev XO:=aZ "name"
abbrev uP(nm a hi:ax)(b:JH):List QD:=[(aZ "name",(.ref nm)),(aZ "lowest",(.ref a)),(aZ "highest",(.ref hi)),(aZ "cuts",(.int b))]
inductive iG K(A:Ad) H p(n:t9):Prop|mk dx nm lo hi(a:H p=Y (.ins A.gF dx (uP nm lo hi (n.10:Int))))(b:bR K H nm (cO n.name))(c:bR K H lo [.int n.lo.num,.int (n.lo.den:JH)])(d:bR K H hi [.int n.hi.num,.int (n.hi.den:JH)])
abbrev ald(n r c:JH):List QD:=[(aZ "node",(.int n)),(aZ "run",(.int r)),(aZ "reading",(.int c))]
inductive uQ(A:Ad)(H:Hp)(v:V)(e:afv):Prop|mk p dx(a:v=.ref p)(b:H p=Y (.ins WX dx (ald e.node e.10 e.11)))
abbrev ale(a b c d:JH):List QD:=[(aZ "source",(.int a)),(aZ "goal",(.int b)),(aZ "least",(.int c)),(aZ "greatest",(.int d))]
inductive sF(A:Ad)(H:Hp)(v:V)(l:Q_):Prop|mk p dx(a:v=.ref p)(b:H p=Y (.ins A.j0 dx (ale l.src l.dst l.lo (mI l.hi))))
abbrev alf(a b c:JH):List QD:=[(aZ "event",(.int a)),(aZ "first",(.int b)),(aZ "latest",(.int c))]
inductive sG(A:Ad)(H:Hp)(v:V)(m:PZ):Prop|mk p dx(a:v=.ref p)(b:H p=Y (.ins A.pG dx (alf m.ev m.lo (mI m.hi))))
abbrev alg(nm:ax)(b c:JH):List QD:=[(aZ "name",(.ref nm)),(aZ "event",(.int b)),(aZ "life",(.int c))]
inductive uR K(A:Ad) H(v:V)(x:js):Prop|mk p dx nm(a:v=.ref p)(b:H p=Y (.ins A.kr dx (alg nm WY Wo)))(c:bR K H nm (cO x.name))
inductive BJ(H:Hp)(v:V) f:Prop|mk q(a:v=.ref q)(b:H q=Y (.lst (cO (jq f))))
structure TD where
 dx:ax
 ln:ax
 le:ax
 lw:ax
 lm:ax
 lp:ax
 ll:ax
 ns:List ax
 ve:List V
 vw:List V
 vm:List V
 vp:List V
 vl:List V
abbrev TD.lists(d:TD):=[d.ln,d.le,d.lw,d.lm,d.lp,d.ll]
abbrev XQ(d:TD):List QD:=[(aZ "nodes",(.ref d.ln)),(aZ "events",(.ref d.le)),(aZ "words",(.ref d.lw)),(aZ "moments",(.ref d.lm)),(aZ "parcels",(.ref d.lp)),(aZ "lines",(.ref d.ll))]
structure TA(K:bH)(A:Ad)(S H:Hp)(t:ax)(s:bX)(d:TD):Prop where
 top:H t=Y (.ins A.bT d.dx<|XQ d)
 nl:H d.ln=Y (.lst<|d.ns.map Qv)
 el:H d.le=Y (.lst d.ve)
 wl:H d.lw=Y (.lst d.vw)
 ml:H d.lm=Y (.lst d.vm)
 pl:H d.lp=Y (.lst d.vp)
 ll:H d.ll=Y (.lst d.vl)
 n:bw (iG K A H) d.ns s.7
 e:bw (uQ A H) d.ve s.8
 w:bw (sF A H) d.vw UJ
 m:bw (sG A H) d.vm UT
 p:bw (uR K A H) d.vp Qk
 l:bw (BJ H) d.vl s.log
 nd:d.ns.Nodup
 ls:d.lists.Nodup
 li:∀v∈d.vl,∀b∈d.lists,v≠.ref b
 fr:∀b∈d.lists,S b=O
 fn:∀b∈d.ns,S b=O
inductive c9 K A S H t s:Prop|mk d(a:J9)
def iG.to{K}(h:iG K A H p n)(b:∀u,H p=Y u->a p=Y u)(s:cY H a):iG K A a p n:=by let(c,nm,d,hi,e,f,g,i):=h;show(c,nm,d,hi,b _ e,cN s f,cN s g,cN s i)
def uR.to{K}(h:uR K A H v n)(b:∀p u,v=.ref p->H p=Y u->a p=Y u)(s:cY H a):uR K A a v n:=by let(p,c,nm,rfl,d,e):=h;show(p,c,nm,J,b _ _ J d,cN s e)
def uQ.to(h:uQ A H v n)(a:∀p u,v=.ref p->H p=Y u->b p=Y u):uQ A b v n:=by let(p,c,rfl,d):=h;show(p,c,J,a _ _ J d)
def sF.to(h:sF A H v n)(a:∀p u,v=.ref p->H p=Y u->b p=Y u):sF A b v n:=by let(p,c,rfl,d):=h;show(p,c,J,a _ _ J d)
def sG.to(h:sG A H v n)(a:∀p u,v=.ref p->H p=Y u->b p=Y u):sG A b v n:=by let(p,c,rfl,d):=h;show(p,c,J,a _ _ J d)
def BJ.to(h:BJ H v n)(a:∀p u,v=.ref p->H p=Y u->b p=Y u):BJ b v n:=by let(p,rfl,c):=h;show(p,J,a _ _ J c)
theorem TA.to{K}(T:J9)(m:WE):TA K A S a t s d:=
 (m _ _ Qm,m _ _ YY,m _ _ Y7,m _ _ T.wl,m _ _ T.ml,m _ _ T.pl,m _ _ T.ll,dk (λb b x=>x.to (λb e=>m _ _ e)<|cg m) T.n,dk U7 T.e,dk U7 T.w,dk U7 T.m,dk (λb b x=>x.to (λb b b e=>m _ _ e)<|cg m) T.p,dk U7 T.l,T.nd,T.ls,T.li,T.fr,T.fn)
theorem c9.to{K}(T:JO)(m:WE):c9 K A S a t s:=by let(d,T):=T;show(d,T.to m)
def fM(x:xY):=0<Yw/\Yw<=Zd/\0<Yh/\Yh<=Zd/\dN x.num.5 Yh=1
def ox o:=∀h,o=Y h->h<=Jk
structure aV(s:bX):Prop where
 n6:Jt<=6
 dr:Jb<=20
 mm:Wr<=20
 sI:UU<=10
 oy:QJ<=10
 ep:∀n∈s.7,n.10<=100
 lg:s.log.9<=Jt+Jb+Wr+UU+QJ+(s.nodes.map λn=>n.10).sum
 rt:∀n∈s.7,fM n.lo/\fM n.hi/\mR n.hi n.lo=au
 ev:∀e∈s.8,e.node<Jt/\e.11<=Jk/\e.10<=(aS s e.node).10
 od:∀(i j:Nat) (x y:afv),i<j->s.8[i]?=Y x->s.8[j]?=Y y->Ua=y.node->x.10<=y.10/\(x.10=y.10->x.11<=y.11)
 wd:∀l∈UJ,l.src<Jb/\l.dst<Jb/\(aI s l.src).node≠(aI s l.dst).node/\l.lo<=Jk/\ox l.hi
 mo:∀m∈UT,m.ev<Jb/\m.lo<=Jk/\ox m.hi
 pc:∀p∈Qk,p.ev<Jb/\1<=p.life/\p.life<=Jk
def sJ:kj->Prop|.node w a hi=>fM a/\fM hi|.at_ w c=>c<=Jk|.cut w=>True|.word e f a hi=>e<=19/\f<=19/\a<=Jk/\ox hi|.moment e a hi=>e<=19/\a<=Jk/\ox hi|.parcel w e life=>e<=19/\1<=life/\life<=Jk
def cj:kj->Nat|.node .. =>0|.at_ .. =>1|.cut .. =>2|.word .. =>3|.moment .. =>4|.parcel .. =>5
def Fg:kj->List dJ|.node w a hi=>[.nm w,.rt a.num.6 a.den,.rt hi.num.6 hi.den]|.at_ w c=>[.nm w,.i (c:JH)]|.cut w=>[.nm w]|.word e f a hi=>[.i (e:JH),.i (f:JH),.i (a:JH),.i<|mI hi]|.moment e a hi=>[.i (e:JH),.i (a:JH),.i<|mI hi]|.parcel w e life=>[.nm w,.i (e:JH),.i (life:JH)]
def gX(s:bX)(f:kj):Int:=match eh s f with
 |.error e=>e
 |.ok a=>0
inductive yI K H(v:V) b:Prop|mk p C dx fs q(a:v=.ref p)(c:H p=Y (.ins C dx fs))(d:jX K C)(e:r9 K C XO)(f:fs.lookup XO=Y Wm)(g:bR K H q (cO b))
def LM:Option Nat->Int|none=> -1|some i=>i
inductive wL K(vs:Ju) H(Q:VK):Prop|mk a nm c bs b(e:vs=[.ref a,.ref nm])(f:H a=Y (.lst c))(g:bw (yI K H) c bs)(h:bR K H nm (cO b))(i:∀d,az H d->Q (.int (LM (bs.findIdx? λx=>x==b))) d)
def yI.to{K}(h:yI K H v b)(s:WE):yI K a v b:=by let(p,C,c,fs,q,rfl,d,e,f,g,i):=h;show(p,C,c,fs,q,J,s _ _ d,e,f,g,cN (cg s) i)
def alh{a:Type}{p}{l:UI}{x}(b:∀x∈l.take i,p x=au)(c:l[i]?=Y x)(d:p x=I):l.findIdx? p=Y i:=by
 let(hi,e):=cU.1 c;rw[aew];show(hi,by rw[e];show d,λj f=>?_);haveI:l[j]∈l.take i:=by
  rw[List.mem_take_iff_getElem];show(j,Ja,J)
 simp[b _ this]
def sM{a:Type}{p:a->Bool}{l:UI}{x}(b:∀x∈l.take i,p x=au)(c:l[i]?=Y x)(e:p x=au):∀y∈l.take JK,p y=au:=by
 rw[take_snoc c];intro y d;rcases dC.1 d with h|h
 .show b y h
 ext
def yJ(y:Jn):aK g 1 73 (wL Jj):=by
 show aK.rd y 4 [3,1,99] fz (ay (dc (jc Jj ZZ) (gC Jj 2<|cX QQ<|cX Zx gB)<|a_ (aY<|ah (pk Jj) (Iz Jj JC "name") Jl) (aH Jv) ba)<|aH<|AJ (rU A2) Jh) ?_;intro vs H Q hl (a,nm,B,D,b,rfl,r,pr,E,k);show(a,B,J,aq.of r,lh (λi j t=>E2 λl m=>A3 (j=[Y Jy,Y<|.ref nm,l,m]) (az H t) (∀x∈D.take i,(x==b)=au)) (O,O,J,QT,Jc) (λi j t _ (_,_,_,s,_)=>aq.of<|s _ _ r) ?_ ?_)
 .intro i x j F T L (l,m,rfl,n,d) N;let(c,u,p,C,P,fs,q,rfl,R,S,X,h4,h5):=d7 pr L;let f:=n.trans<|aG (o:=.tup [.int i,.ref p]) N;let v:=cN (cg f) h5;let w:=cN (cg f) E;rw[lB]at v w;show(p,C,P,fs,_,J,f _ _ R,S,X,h4,akI v w Jg)
  .let e:=E8 WI;let:=k _ f;rwa [alh d u<|by simp[e]]at this
  show(_,_,J,f,sM d u ?_);haveI:c≠b:=λz=>h<|cn<|by rw[z]
  simp[this]
 intro j F (l,m,rfl,n,d);let:=k _ n;rw[b_ pr,ir]at d;rwa [List.findIdx?_eq_none_iff.2 d]at this
def BN(a:Jn)(T:TA Jj A S H t s d):bw (yI Jj H) (d.ns.map Qv) (s.nodes.map λn=>n.name):=by
 let h:=T.n;generalize d.ns=l at h;generalize s.7=m at h;induction h with
 |nil=>show .nil
 |cons r j b=>
  let(c,nm,i,hi,e,f):=r;show .cons (_,_,c,_,nm,J,e,a.Bj.cl,a.Bj.dW.na _<|.head _,J,f) b
def ali(a:Jn)(T:TA Jj A S H t s d):bw (yI Jj H) d.vp (s.parcels.map λn=>n.name):=by
 let h:=T.p;generalize d.vp=l at h;generalize Qk=m at h;induction h with
 |nil=>show .nil
 |cons r i b=>
  let(p,c,nm,rfl,e,f):=r;show .cons (_,_,c,_,nm,J,e,a.Bm.cl,a.Bm.dW.na _<|.head _,J,f) b
def BO s w:((s.nodes.map λn=>n.name).findIdx? λx=>x==w)=lS s w:=by ext;rfl
inductive yK K A(vs:Ju) H(Q:VK):Prop|mk S t s i(a:vs=[.ref t,.int i])(b:JO)(c:Q (.bl (decide (0<=i/\i<(s.events.9:Int)))) H)
def Fh(a:Jn):aK g 1 74 (yK Jj A):=by
 show aK.rd a 2 [0,0,90,8] fz (aH<|uo (ah Ym Jl Jf)<|ah QO Jl<|bA Qb<|U J3 aa) ?_;intro vs H Q b (S,t,s,i,rfl,(d,T),k);show aT J4 λh=>?_
 .show(Qm,.inl<|aq.of Y7,?_);rwa [show decide (0<=i/\i<Jb)=decide (i<d.ve.9) by simp[h,b_ T.e]]at k
 ext
inductive LN(vs:Ju) H(Q:VK):Prop|mk o(n:JD)(a:vs=[.int (mI o),.int (n:JH)])(b:Q (.bl (!vG n o)) H)
def XR(a:Jn):aK g 1 76 LN:=by
 show aK.rd a 2 [0,0] fz (aH<|uo (ah iS Ji Q0)<|ah QO Ji Jl) ?_;intro vs H Q b (o,n,rfl,k);cases o with
 |none=>show k
 |some m=>
  show aT (λc=>?_) λh=>?_
  .let e:(!vG n (Y m))=decide (mI (Y m) <n):=by
    erw[vG,mI];cases h:n<=m
    .simp[h]
    simp[h];lia
   rwa [e]at k
  exfalso;apply h;simp[mI]
def alj{K}{g:TG}{k:TS}{D:jU}(Pv:Nat->L2.St->Hp->Prop)(o:Pv 0 b H)(r:∀i b H,i<=xs.9->Pv i b H->aq K H a xs)
  (t:∀i x b H,i<xs.9->xs[xs.9-1-i]?=Y x->Pv i b H->g x b H λd f=>k {D with nx:=Pv JK,ct:=Pv JK,bk:=D.nx} d f) (hd:∀b H,Pv xs.9 b H->D.nx b H):
  ∃h:Nat->Nat->L2.St->Hp->Prop,(∃m,h 0 m b H)/\∀i m b H,h i m b H->
   ((AR K a xs.9).stop i H/\D.nx b H)\/((AR K a xs.9).go i H/\∃N:L2.St->Hp->Prop,(∀j c,N j c->∃l,l<m/\h JK l j c)/\∀x c,(AR K a xs.9).jW i H x c->g x b c λd f=>k {D with nx:=N,ct:=N,bk:=D.nx} d f):=by
 show(λi m b H=>m=xs.9-i/\i<=xs.9/\Pv i b H,(xs.9,Jc,eX _,o),?_);intro i m b H (rfl,hi,p);let q:=r i b H hi p;cases n:i<xs.9
 .show .inr ((n,xs,xs[xs.9-1-i],q,by rw[cy]),Pv JK,λj c s=>(xs.9-JK,JE,J,n,s),λx c y=>?_);let(e,y):=y;ext
 let e:i=xs.9:=Ja
 subst e;show .inl (bf _,hd b H p)
def alk{a:Type} p(l:UI):(l.filter p).getLast?=l.reverse.find? p:=Jc
def BP{a:Type}{p}{l:UI}{x}(b:∀x∈l.take i,p x=au)(c:l[i]?=Y x)(d:p x=I):l.find? p=Y x:=by rw[<-asX i l,List.find?_append,zP.2 λy e=>by simp[b y e],wD c];simp[d]
def cF s i:=((lY s i).map λx=>x.11).getD 0
inductive BQ K A(vs:Ju) H(Q:VK):Prop|mk S t s i(a:vs=[.ref t,.int ((i:JD):Int)])(b:JO)(c:i<Jt)(d:Q (.int (cF s i:JD)) H)
def uS(h:s.7[i]?=Y n):aS s i=n:=by delta aS;show fG h
def nu(h:s.8[i]?=Y n):aI s i=n:=by delta aI;show fG h
def Fi(B:Jn):aK g 1 75 (BQ Jj A):=by
 show aK.rd B 3 [6,8,0,4,0,4,3,0,8,4] fz (ay (dc (D7 Jj<|U J3 aa) QQ<|a_ (jb (aY<|ah dR (aD WX Jv "node") Jl)<|aY<|ah dR (aD WX Jv "run")<|aD A.gF (ah Jq JU Jl) "cuts") (aH<|aD WX Jv "reading") ba)<|aH Jf) ?_;intro vs H Q L (S,t,s,i,rfl,(d,T),hi,k);obtain⟨n,q⟩:∃n,s.7[i]?=Y n:=(_,cy hi);let(pn,N,R,nm,X,ab,C):=eS T.n q;let le:=b_ T.e;let r:=uS q;letI P:afv->Bool:=λx=>Ua==i&&x.10==(aS s i).10
 let u:cF s i=((s.events.reverse.find? P).map λx=>x.11).getD 0:=by delta cF lY;rw[alk]
 show(Qm,d.le,d.ve,J,aq.of Y7,alj (λj b w=>∃c,A3 (b=[Y Zm,Y WD,c]) (w=H) (∀x∈s.events.reverse.take j,P x=au)) (O,J,J,Jc) (λj b w _ (_,_,e,_)=>e▸aq.of Y7) ?_ ?_)
 .intro j x b D hj E (c,rfl,rfl,a);let(ev,he,p,dx,rfl,f):=d7 T.e E;let l:s.events.reverse[j]?=Y ev:=by rw[List.getElem?_reverse Ja,<-he,le]
  show(f,Jg)
  .let m:ev.node=i:=by
    lia
   show(f,Qm,aq.of YY,dI (v:=V.ref pn)<|by ext,C,Zv)
   .let o:ev.10=n.10:=by
     lia
    show(f,?_);rwa [u,BP a l<|by simp[P,m,o,r]]at k
   show(_,J,J,sM a l ?_);let o:ev.10≠n.10:=Ja
   simp[P,r,o]
  show(_,J,J,sM a l ?_);let m:ev.node≠i:=λz=>h (by rw[z];simp)
  simp[P,m]
 intro b D (c,rfl,rfl,a);rw[le,<-List.length_reverse,ir]at a;rwa [u,zP.2 λy F=>by simp[a y F]]at k
inductive wM K A kn(vs:Ju) H(Q:VK):Prop|mk S t s f pt xs(b:vs=[.ref t,.ref pt])(c:JO)(d:J6)(e:sJ f)(g:cj f=kn)(h:H pt=Y JX)(i:bw (PV K H) xs (Fg f))(j:∀a,az H a->Q (.int (gX s f)) a)
def Fj(h:0<z):(z.6:Int)=z:=Ja
def qN(h:fM x):x.num.5<2^4000/\(x.den:JH).5<2^4000:=by let(a,b):=h;constructor<;>omega
def Fm o:decide (0<=LM o)=o.isSome:=by cases o<;>simp[LM]
def XS s w a hi:gX s (.node w a hi)=if (lS s w).isSome=I then -4 else if mR hi a=I then -7 else if 6<=Jt then -9 else 0:=by
 delta gX eh;cases b:(lS s w).isSome=I
 .simp[b]
 cases c:mR hi a=I
 .simp[b,c]
 cases d:6<=Jt<;>simp[b,c,d,auw]
def alm(c:Jn):aK g 2 77 (wM Jj A 0):=by
 show aK.rd c 4 [0,0,0,0,8,0,0,0,1,1,0,1,1,0,90,8] (fc (yJ c) fz) (ay (aP JZ QQ)<|ay (aP JV Zx)<|ay (a_ (aY<|ah Ym Uj Jf) (aH<|tC<|.int<|-4) ba)<|ay (a_ (aY<|ah QO (ah Qp (ah JN JC Jf)<|ah JN Jv Jh)<|ah Qp (ah JN Jv Jf)<|ah JN JC Jh) (aH<|tC<|.int<|-7) ba)<|ay (a_ (aY<|ah Ym (bA Qb<|U JU aa)<|tC<|.int<|6) WU ba)<|aH Jf) ?_;intro vs H Q u (S,t,s,f,v,xs,rfl,(d,T),x,o,b,e,pv,k);cases f with
 |node w n hi=>
  let(i,j):=o;cases pv with|cons p0 pv=>cases pv with|cons p pv=>cases pv with|cons q pv=>cases pv with|nil=>
  let(r,rfl,q0):=p0;let(y,rfl,l):=p;let(B,rfl,m):=q;rw[Fj i.1]at l;rw[Fj j.1]at m;rw[XS]at k;show(aq.of e,J,aq.of e,J,Qm,aq.of e,J,d.ln,r,_,_,w,J,YY,BN c T,q0,λC a=>?_);rw[BO];show aT J4 λh=>?_
  .rw[Fm]at h;rw[ak h]at k;show k _ a
  rw[Fm]at h;rw[aj h]at k;show(cN (cg a) m,J,cN (cg a) l,J,((qN j).1,(qN i).2),cN (cg a) l,J,cN (cg a) m,J,((qN i).1,(qN j).2),Jg)
  .let h:mR hi n=I:=h;rw[ak h]at k;show k _ a
  let h:¬mR hi n=I:=h;rw[aj h]at k;show(a _ _ Qm,.inl<|aq.of<|a _ _ YY,Jg)
  .let h:(6:Int)<=((d.ns.map Qv).9:Nat):=WI;rw[bz,b_ T.n]at h;rw[ak JE]at k;show k _ a
  let h:¬(6:Int)<=((d.ns.map Qv).9:Nat):=Zj
  rw[bz,b_ T.n]at h;rw[aj JE]at k;show k _ a
 |at_ D E=>simp[cj]at b
 |cut D=>simp[cj]at b
 |word D E F K=>simp[cj]at b
 |moment D E F=>simp[cj]at b
 |parcel D E F=>simp[cj]at b
def Fn(h:lS s w=Y i):=(aew.1 h).1
def XT s w c:gX s (.at_ w c)=match lS s w with
  |none=> -5
  |some i=>if c<cF s i then -7 else if 20<=Jb then -9 else 0:=by
 delta gX eh;simp only;cases e:lS s w with
 |none=>rfl
 |some i=>
  haveI d:((lY s i).any λx=>decide<|c<x.11)=decide (c<cF s i):=by
   delta cF;cases lY s i<;>simp
  ext;cases a:c<cF s i
  .simp[a]
  cases b:20<=Jb<;>simp[a,b,afm]
def aln(j:Jn):aK g 2 78 (wM Jj A 1):=by
 show aK.rd j 3 [1,8,0,0,0,0,0,0,90,8] (fc (Fi j)<|fc (yJ j) fz) (ay (aP Uj QQ)<|ay (a_ (aY<|ah QO Jv Jf) WV ba)<|ay (a_ (aY<|ah QO JZ<|aN 2 (BQ Jj A)<|U Ji Qg) (aH<|tC<|.int<|-7) ba)<|ay (a_ (aY<|ah Ym (bA Qb<|U J3 aa)<|tC<|.int<|20) WU ba)<|aH Jf) ?_;intro vs H Q o (S,t,s,f,p,xs,rfl,(d,T),q,r,b,l,pv,k);cases f with
 |at_ w c=>
  cases pv with|cons p0 pv=>cases pv with|cons m pv=>cases pv with|nil=>
  let(n,rfl,q0):=p0;cases m;rw[XT]at k;show(Qm,aq.of l,J,d.ln,n,_,_,w,J,YY,BN j T,q0,λu a=>?_);rw[BO];cases e:lS s w with
  |none=>
   rw[e]at k;show k _ a
  |some i=>
   rw[e]at k;show(aq.of<|a _ _ l,J,S,t,s,i,J,(d,T.to a),Fn e,Jg)
   .let h:c<((cF s i:JD):Int):=WI;simp only at k;rw[ak JE]at k;show k _ a
   let h:¬c<((cF s i:JD):Int):=Zj
   simp only at k;rw[aj JE]at k;show(a _ _ Qm,.inl<|aq.of<|a _ _ Y7,Jg)
   .let h:(20:Int)<=d.ve.9:=WI;rw[b_ T.e]at h;rw[ak JE]at k;show k _ a
   let h:¬(20:Int)<=d.ve.9:=Zj
   rw[b_ T.e]at h;rw[aj JE]at k;show k _ a
 |node v x y=>simp[cj]at b
 |cut v=>simp[cj]at b
 |word v x y B=>simp[cj]at b
 |moment v x y=>simp[cj]at b
 |parcel v x y=>simp[cj]at b
def XU s w:gX s (.cut w)=match lS s w with
  |none=> -5
  |some i=>if 100<=(aS s i).10 then -9 else 0:=by
 delta gX eh;simp only;cases e:lS s w with|none=>rfl|some i=>cases a:100<=(aS s i).10<;>simp[a,auK]
def alo(c:Jn):aK g 2 79 (wM Jj A 2):=by
 show aK.rd c 3 [0,8,0,0,0,3,0,8] (fc (yJ c) fz) (ay (aP Uj QQ)<|ay (a_ (aY<|ah QO Jv Jf) WV ba)<|ay (a_ (aY<|ah Ym (aD A.gF (ah Jq JU Jv) "cuts")<|tC<|.int<|100) WU ba)<|aH Jf) ?_;intro vs H Q q (S,t,s,f,r,xs,rfl,(d,T),u,x,b,l,pv,k);cases f with
 |cut w=>
  cases pv with|cons p0 pv=>cases pv with|nil=>
  let(m,rfl,q0):=p0;rw[XU]at k;show(Qm,aq.of l,J,d.ln,m,_,_,w,J,YY,BN c T,q0,λy a=>?_);rw[BO];cases e:lS s w with
  |none=>
   rw[e]at k;show k _ a
  |some i=>
   rw[e]at k;obtain⟨n,j⟩:∃n,s.7[i]?=Y n:=(_,cy<|Fn e);let(pn,o,B,nm,C,D,p):=eS T.n j;show(a _ _ Qm,aq.of<|a _ _ YY,dI (v:=V.ref pn) (by rw[c8,o];rfl),a _ _ p,Jg)
   .let h:100<=(n.10:Int):=WI;erw[uS j]at k;rw[ak JE]at k;show k _ a
   let h:¬100<=(n.10:Int):=Zj
   erw[uS j]at k;rw[aj JE]at k;show k _ a
 |node E F K=>simp[cj]at b
 |at_ E F=>simp[cj]at b
 |word E F K L=>simp[cj]at b
 |moment E F K=>simp[cj]at b
 |parcel E F K=>simp[cj]at b
def XW s e a hi:gX s (.moment e a hi)=if Jb<=e then -5 else if (!vG a hi)=I then -7 else if 10<=UU then -9 else 0:=by
 delta gX eh;cases b:Jb<=e
 .simp[b]
 cases c:vG a hi=I
 .cases d:10<=UU<;>simp[b,c,d,auy]
 simp[b,c]
def alp(b:Jn):aK g 2 81 (wM Jj A 4):=by
 show aK.rd b 2 [1,0,0,0,0,0,90,8] (fc (XR b)<|fc (Fh b) fz) (ay (a_ (jV<|tB<|aN 2 (yK Jj A)<|U Ji<|U Qo aa) WV ba)<|ay (a_ (tB<|aN 2 LN<|U JV YB) (aH<|tC<|.int<|-7) ba)<|ay (a_ (aY<|ah Ym (bA Qb<|U ZW aa)<|tC<|.int<|10) WU ba)<|aH Jf) ?_;intro vs H Q n (S,t,s,f,o,xs,rfl,(d,T),p,q,a,c,pv,k);cases f with
 |moment e j hi=>
  cases pv with|cons p0 pv=>cases pv with|cons l pv=>cases pv with|cons m pv=>cases pv with|nil=>
  cases p0;cases l;cases m;rw[XW]at k;let k:=k _ QT;show(aq.of c,J,S,t,s,_,J,(d,T),?_);cases i:Jb<=e
  .rw[ak i]at k;show aT (λh=>k) λh=>?_;ext
  rw[aj i]at k;show aT (λh=>by simp at h;omega) λh=>?_;show(aq.of c,J,aq.of c,J,hi,j,J,Jg)
  .rw[ak h]at k;show k
  rw[aj h]at k;show(Qm,.inl<|aq.of T.ml,Jg)
  .let h:(10:Int)<=d.vm.9:=WI;rw[b_ T.m]at h;rwa [ak JE]at k
  let h:¬(10:Int)<=d.vm.9:=Zj
  rw[b_ T.m]at h;rwa [aj JE]at k
 |node r u v=>simp[cj]at a
 |at_ r u=>simp[cj]at a
 |cut r=>simp[cj]at a
 |word r u v w=>simp[cj]at a
 |parcel r u v=>simp[cj]at a
def alq s w e life:gX s (.parcel w e life)=if ((s.parcels.map λn=>n.name).findIdx? λx=>x==w).isSome=I then -4 else if Jb<=e then -5 else if 10<=QJ then -9 else 0:=by
 haveI c:((s.parcels.map λn=>n.name).findIdx? λx=>x==w).isSome=s.parcels.any λx=>x.name==w:=by
  ext;rfl
 delta gX eh;rw[c];cases a:(s.parcels.any λx=>x.name==w)=I
 .erw[a,qj]
 cases b:Jb<=e
 .erw[a,b];rfl
 cases d:10<=QJ<;>erw[a,b,d,ae8]<;>rfl
def alr(c:Jn):aK g 2 82 (wM Jj A 5):=by
 show aK.rd c 2 [0,1,8,0,0,0,0,90,8] (fc (Fh c)<|fc (yJ c) fz) (ay (a_ (aY<|ah Ym (aN 2 (wL Jj)<|U ZX<|U Qo aa) Jf) (aH<|tC<|.int<|-4) ba)<|ay (a_ (jV<|tB<|aN 2 (yK Jj A)<|U Ji YB) WV ba)<|ay (a_ (aY<|ah Ym (bA Qb<|U ZX aa)<|tC<|.int<|10) WU ba)<|aH Jf) ?_;intro vs H Q n (S,t,s,f,o,xs,rfl,(d,T),p,q,a,i,pv,k);cases f with
 |parcel w e life=>
  cases pv with|cons p0 pv=>cases pv with|cons l pv=>cases pv with|cons r pv=>cases pv with|nil=>
  let(m,rfl,q0):=p0;cases l;rw[alq]at k;show(Qm,aq.of i,J,d.lp,m,_,_,w,J,T.pl,ali c T,q0,λu b=>?_);let k:=k _ b;show aT J4 λh=>?_
  .rw[Fm]at h;rw[ak h]at k;show k
  rw[Fm]at h;rw[aj h]at k;show(aq.of<|b _ _ i,J,S,t,s,_,J,(d,T.to b),?_);cases j:Jb<=e
  .rw[ak j]at k;show aT (λh=>k) λh=>?_;simp at h;omega
  rw[aj j]at k;show aT (λh=>by simp at h;omega) λh=>?_;show(b _ _ Qm,.inl<|aq.of<|b _ _ T.pl,Jg)
  .let h:(10:Int)<=d.vp.9:=WI;rw[b_ T.p]at h;rwa [ak JE]at k
  let h:¬(10:Int)<=d.vp.9:=Zj
  rw[b_ T.p]at h;rwa [aj JE]at k
 |node v x y=>simp[cj]at a
 |at_ v x=>simp[cj]at a
 |cut v=>simp[cj]at a
 |word v x y B=>simp[cj]at a
 |moment v x y=>simp[cj]at a
def XX s e f a hi:gX s (.word e f a hi)=if Jb<=e\/Jb<=f then -5 else if (aI s e).node=(aI s f).node\/vG a hi=au then -7 else if 20<=Wr then -9 else 0:=by
 delta gX eh;cases b:Jb<=e\/Jb<=f
 .ext
 cases c:(aI s e).node=(aI s f).node\/vG a hi=au
 .erw[b,c,qj,uc]
 cases d:20<=Wr<;>erw[b,c,d,auJ,qj,uc]
def alu(c:Jn):aK g 2 80 (wM Jj A 3):=by
 show aK.rd c 2 [1,0,1,0,0,4,0,8,0,4,0,8,0,0,0,0,0,90,8] (fc (XR c)<|fc (Fh c) fz) (ay (a_ (fS (jV<|tB<|aN 2 (yK Jj A)<|U Ji<|U Qo aa)<|jV<|tB<|aN 2 (yK Jj A)<|U Ji YB) WV ba)<|ay (a_ (fS (aY<|ah dR (aD WX (ah Jq J3 Qo) "node")<|aD WX (ah Jq J3 JZ) "node")<|tB<|aN 2 LN<|U (ah Jq Jl<|tC<|.int 3)<|U JV aa) (aH<|tC<|.int<|-7) ba)<|ay (a_ (aY<|ah Ym (bA Qb<|U ZQ aa)<|tC<|.int<|20) WU ba)<|aH Jf) ?_;intro vs H Q B (S,t,s,f,C,xs,rfl,(d,T),D,E,b,a,pv,k);cases f with
 |word e f l hi=>
  cases pv with|cons p0 pv=>cases pv with|cons m pv=>cases pv with|cons n pv=>cases pv with|cons o pv=>cases pv with|nil=>
  cases p0;cases m;cases n;cases o;rw[XX]at k;let k:=k _ QT;show(aq.of a,J,S,t,s,_,J,(d,T),?_);cases p:Jb<=e
  .rw[ak<|.inl p]at k;show aT (λh=>k) λh=>?_;ext
  show aT (λh=>by simp at h;omega) λh=>?_;show(aq.of a,J,S,t,s,_,J,(d,T),?_);cases q:Jb<=f
  .rw[ak<|.inr q]at k;show aT (λh=>k) λh=>?_;simp at h;omega
  rw[aj Ja]at k;show aT (λh=>by simp at h;omega) λh=>?_;obtain⟨x,i⟩:∃x,s.8[e]?=Y x:=(_,cy JE);obtain⟨y,j⟩:∃y,s.8[f]?=Y y:=(_,cy JE);let(F,r,L,N,rfl,u):=eS T.e i;let(P,v,py,R,rfl,w):=eS T.e j;rw[nu i,nu j]at k;show(Qm,(aq.of a),J,(aq.of Y7),(dI r),u,Qm,(aq.of a),J,(aq.of Y7),(dI v),w,Jg)
  .haveI h:Ua=y.node:=by
    haveI:Ua=(y.node:JH):=by exists h
    lia
   rwa [ak (.inl h)]at k
  haveI h:Ua≠y.node:=λz=>h (by rw[z];simp)
  show((aq.of a),J,(aq.of a),J,hi,l,J,Zv)
  .rw[ak (.inr (by exists h'))]at k;show k
  rw[aj (λz=>z.elim h (λy=>h' (by rw[y];rfl)))]at k;show⟨Qm,.inl (aq.of T.wl),Jg⟩
  .let h:(20:Int)<=d.vw.9:=WI;rw[b_ T.w]at h;rwa [ak JE]at k
  let h:¬(20:Int)<=d.vw.9:=λz=>h (cn z)
  rw[b_ T.w]at h;rwa [aj JE]at k
 |node K V X=>simp[cj]at b
 |at_ K V=>simp[cj]at b
 |cut K=>simp[cj]at b
 |moment K V X=>simp[cj]at b
 |parcel K V X=>simp[cj]at b
inductive wN C(fs:List V->List QD) n vs H(Q:VK):Prop|mk(b:vs.9=n)(c:∀p dx a,H p=O->az H a->a p=Y (.ins C dx (fs vs))->Q JS a)
abbrev XY(A:Ad):Sq:=wN A.gF (λvs=>[(aZ "name",(vs.getD 0 .aW)),(aZ "lowest",(vs.getD 1 .aW)),(aZ "highest",(vs.getD 2 .aW)),(aZ "cuts",(.int 0))]) 3
def alv(b:Jn):dP g 1 "Node" A.gF ["self","name","lowest","highest"] (XY A):=by
 show dP.rd b b.Bj.at_ 4 [3,3,3,3] fz (ay (cJ A.gF Ji Jl "name")<|ay (cJ A.gF Ji Jv "lowest")<|ay (cJ A.gF Ji JC "highest")<|cJ A.gF Ji Jf "cuts") λvs H Q h x c a d f=>?_
 let(e,k):=h;let(v0,v1,i,rfl):=A0 e;show(J,Y0);rw[aB];rfl
abbrev XZ(A:Ad):Sq:=wN WX (λvs=>[(aZ "node",(vs.getD 0 .aW)),(aZ "run",(vs.getD 1 .aW)),(aZ "reading",(vs.getD 2 .aW))]) 3
def alw(b:Jn):dP g 1 "Event" WX ["self","node","run","reading"] (XZ A):=by
 show dP.rd b b.Bk.at_ 4 [4,4,4] fz (ay (cJ WX Ji Jl "node")<|ay (cJ WX Ji Jv "run")<|cJ WX Ji JC "reading") λvs H Q h x c a d f=>?_
 let(e,k):=h;let(v0,v1,i,rfl):=A0 e;show QI;rw[aB];rfl
abbrev EF(A:Ad):Sq:=wN A.j0 (λvs=>[(aZ "source",(vs.getD 0 .aW)),(aZ "goal",(vs.getD 1 .aW)),(aZ "least",(vs.getD 2 .aW)),(aZ "greatest",(vs.getD 3 .aW))]) 4
def alx(b:Jn):dP g 1 "Word" A.j0 ["self","source","goal","least","greatest"] (EF A):=by
 show dP.rd b b.Bl.at_ 5 [5,5,5,5] fz (ay (cJ A.j0 Ji Jl "source")<|ay (cJ A.j0 Ji Jv "goal")<|ay (cJ A.j0 Ji JC "least")<|cJ A.j0 Ji Qi "greatest") λvs H Q h x c a d f=>?_
 let(e,k):=h;let(v0,v1,i,j,rfl):=aiI e;show(J,?_);show Y0;rw[aB];rfl
abbrev X1(A:Ad):Sq:=wN A.pG (λvs=>[(aZ "event",(vs.getD 0 .aW)),(aZ "first",(vs.getD 1 .aW)),(aZ "latest",(vs.getD 2 .aW))]) 3
def aly(b:Jn):dP g 1 "Moment" A.pG ["self","event","first","latest"] (X1 A):=by
 show dP.rd b b.KN.at_ 4 [6,6,6] fz (ay (cJ A.pG Ji Jl "event")<|ay (cJ A.pG Ji Jv "first")<|cJ A.pG Ji JC "latest") λvs H Q h x c a d f=>?_
 let(e,k):=h;let(v0,v1,i,rfl):=A0 e;show QI;rw[aB];rfl
abbrev X2(A:Ad):Sq:=wN A.kr (λvs=>[(aZ "name",(vs.getD 0 .aW)),(aZ "event",(vs.getD 1 .aW)),(aZ "life",(vs.getD 2 .aW))]) 3
def alz(b:Jn):dP g 1 "Parcel" A.kr ["self","name","event","life"] (X2 A):=by
 show dP.rd b b.Bm.at_ 4 [7,7,7] fz (ay (cJ A.kr Ji Jl "name")<|ay (cJ A.kr Ji Jv "event")<|cJ A.kr Ji JC "life") λvs H Q h x c a d f=>?_
 let(e,k):=h;let(v0,v1,i,rfl):=A0 e;show QI;rw[aB];rfl
inductive Fp K A(vs:Ju) H(Q:VK):Prop|mk(b:vs=[])(c:∀p a,H p=O->az H a->c9 K A H a p eW->Q JS a)
def yL{H a:Hp}{x l C c:ax}{fs:List QD}{f:Str}(s:WE)(i:H x=O)(g:a x=Y (.ins C c fs))(d:a l=O):
  x≠l/\H l=O/\aA a l Jx x=Y (.ins C c fs)/\az H (aA (aA a l Jx) x Us)/\aA (aA a l Jx) x Us x=Y Us/\aA (aA a l Jx) x Us l=Y Jx/\
  ∀b xs,a b=Y JX->b≠l/\aA (aA a l Jx) x Us b=Y JX:=by
 haveI n:x≠l:=λz=>by rw[<-z,g]at d;cases d
 show(n,s.free d,by rw[aJ n];show g,bZ (ajS s d) i,aB,by rw[aJ n.3,aB],λb xs e=>?_);let h:b≠l:=dH e d;show(h,by rw[aJ (eK e g (by intro z;cases z)),aJ h];show e)
def LO(i:Jn):dP g 1 "Told" A.bT ["self"] (Fp Jj A):=by
 show dP.rd i i.oq.at_ 1 [8,8,8,8,8,8] fz (ay (cJ A.bT Ji Z1 "nodes")<|ay (cJ A.bT Ji Z1 "events")<|ay (cJ A.bT Ji Z1 "words")<|ay (cJ A.bT Ji Z1 "moments")<|ay (cJ A.bT Ji Z1 "parcels")<|cJ A.bT Ji Z1 "lines") λvs H Q h x l a m aw=>?_
 let(rfl,k):=h;show(J,?_);show λn o=>?_;let(n1,f1,p,q,r,g1,m1):=yL (lC a m) a aB o;show(p,Je,λs t=>?_);let(n2,f2,u,v,w,g2,y):=yL q a r t;let(z,g1):=y _ _ g1;show(u,ji,λB C=>?_);let(n3,D,E,F,L,g3,j):=yL v a w C;let(N,g1):=j _ _ g1;let(P,g2):=j _ _ g2;show(E,iE,λR S=>?_);let(n4,T,X,s4,h4,b,e):=yL F a L S;let(ab,g1):=e _ _ g1;let(ac,g2):=e _ _ g2;let(ae,g3):=e _ _ g3;show(X,BH,λl5 af=>?_);let(n5,f5,t5,s5,h5,f,d):=yL s4 a h4 af;let(ag,g1):=d _ _ g1;let(ai,g2):=d _ _ g2;let(al,g3):=d _ _ g3;let(am,b):=d _ _ b;show(t5,pl4,λl6 an=>?_);let(n6,f6,t6,s6,h6,g6,c):=yL s5 a h5 an;let(ao,g1):=c _ _ g1;let(ap,g2):=c _ _ g2;let(ar,g3):=c _ _ g3;let(as,b):=c _ _ b;let(av,f):=c _ _ f;show(t6,pl5,J,k x _ a s6 ((l,n,s,B,R,l5,l6,[],[],[],[],[],[]),?_));show(h6.trans J,g1,g2,g3,b,f,g6,.nil,.nil,.nil,.nil,.nil,.nil,xK,by simp[TD.lists,z,N,ab,ag,ao,P,ac,ai,ap,ae,al,ar,am,as,av],Jc,by simp[TD.lists,f1,f2,D,T,f5,f6],Jc)
def c9.old{K}(T:JO)(m:∀b,S b=O->c b=O):c9 K A c H t s:=by let(d,T):=T;show(d,Qm,YY,Y7,T.wl,T.ml,T.pl,T.ll,T.n,T.e,T.w,T.m,T.p,T.l,T.nd,T.ls,T.li,λb a=>m b<|T.fr b a,λb a=>m b<|T.fn b a)
section
variable {K:bH} {A:Ad} {S H:Hp} {t:ax} {s:bX} {d:TD}
def TA.keep(T:J9)(k:c∈d.lists)(h:H c=Y JX):
  (aA H c (.lst g) t=Y (.ins A.bT d.dx<|XQ d))/\bw (iG K A W7) d.ns s.7/\bw (uQ A W7) d.ve s.8/\bw (sF A W7) d.vw UJ/\bw (sG A W7) d.vm UT/\bw (uR K A W7) d.vp Qk/\bw (BJ W7) d.vl s.log:=by
 let st:cY H W7:=cY.lst h;let i:∀{b C a fs},H b=Y (.ins C a fs)->aA H c (.lst g) b=Y (.ins C a fs):=λ{b C a fs} e=>by rw[aJ<|eK e h Ja];show e
 show(i Qm,dk (λ_ _ (a,nm,l,hi,f,j,m,n)=>(a,nm,l,hi,i f,cN st j,cN st m,cN st n)) T.n,dk (λ_ _ (p,a,e,f)=>(p,a,e,i f)) T.e,dk (λ_ _ (p,a,e,f)=>(p,a,e,i f)) T.w,dk (λ_ _ (p,a,e,f)=>(p,a,e,i f)) T.m,dk (λ_ _ (p,a,nm,e,f,j)=>(p,a,nm,e,i f,cN st j)) T.p,?_);let:=T.l;let li:=T.li;generalize d.vl=vl at this li;generalize s.log=w at this;induction this with
 |nil=>show .nil
 |cons r x o=>
  let(q,rfl):=r;show .cons (q,J,?_)<|o λv u=>li v<|df _ u;rwa [aJ λz=>li Wm dM c k<|by rw[z]]
def yM(T:J9):(d.ln≠d.le/\d.ln≠d.lw/\d.ln≠d.lm/\d.ln≠d.lp/\d.ln≠d.ll)/\(d.le≠d.lw/\d.le≠d.lm/\d.le≠d.lp/\d.le≠d.ll)/\(d.lw≠d.lm/\d.lw≠d.lp/\d.lw≠d.ll)/\(d.lm≠d.lp/\d.lm≠d.ll)/\d.lp≠d.ll:=by let:=T.ls;simpa [TD.lists] using this
def TA.alA(T:J9){p}{n}(c:iG K A H p n)(e:p∉d.ns)(D:S p=O):TA K A S (aA H d.ln<|.lst<|d.ns.map Qv++[.ref p]) t {s with nodes:=s.7++[n]} {d with ns:=d.ns++[p]}:=by
 let(f,g,h,i,j,k,l):=T.keep Jc YY;let((m,o,q,r,u),(E,F,L,N),(P,Q,R),(X,b5)):=yM T;show(f,by rw[aB,eV];rfl,by rw[aJ m.3];show Y7,by rw[aJ o.3];show T.wl,by rw[aJ q.3];show T.ml,by rw[aJ r.3];show T.pl,by rw[aJ u.3];show T.ll,ot g ?_,h,i,j,k,l,wc T.nd e,T.ls,T.li,T.fr,?_)
 .let(v,nm,w,hi,a,x,y,B):=c;let st:cY H (aA H d.ln<|.lst<|d.ns.map Qv++[.ref p]):=cY.lst YY;show(v,nm,w,hi,by rw[aJ<|eK a T.nl Jc];show a,cN st x,cN st y,cN st B)
 intro b C;rcases dC.1 C with z|z
 .show T.fn b z
 ext
def TA.alB(T:J9)(b:uQ A H v x):TA K A S (aA H d.le<|.lst<|d.ve++[v]) t {s with events:=s.8++[x]} {d with ve:=d.ve++[v]}:=by let(c,f,g,h,i,j,k):=T.keep Jc Y7;let((l,u,w,y,z),(m,n,o,q),(B,C,D),(E,F)):=yM T;show(c,by rw[aJ l];show YY,aB,by rw[aJ m.3];show T.wl,by rw[aJ n.3];show T.ml,by rw[aJ o.3];show T.pl,by rw[aJ q.3];show T.ll,f,ot g ?_,h,i,j,k,T.nd,T.ls,T.li,T.fr,T.fn);let(p,r,e,a):=b;show(p,r,e,by rw[aJ<|eK a T.el Jc];show a)
def TA.addW(T:J9)(b:sF A H v x):TA K A S (aA H d.lw<|.lst<|d.vw++[v]) t {s with lags:=UJ++[x]} {d with vw:=d.vw++[v]}:=by let(c,f,g,h,i,j,k):=T.keep Jc T.wl;let((u,l,w,y,z),(m,B,C,D),(n,o,q),(E,F)):=yM T;show(c,by rw[aJ l];show YY,by rw[aJ m];show Y7,aB,by rw[aJ n.3];show T.ml,by rw[aJ o.3];show T.pl,by rw[aJ q.3];show T.ll,f,g,ot h ?_,i,j,k,T.nd,T.ls,T.li,T.fr,T.fn);let(p,r,e,a):=b;show(p,r,e,by rw[aJ<|eK a T.wl Jc];show a)
def TA.alC(T:J9)(b:sG A H v x):TA K A S (aA H d.lm<|.lst<|d.vm++[v]) t {s with marks:=UT++[x]} {d with vm:=d.vm++[v]}:=by let(c,f,g,h,i,j,k):=T.keep Jc T.ml;let((u,w,l,y,z),(B,m,C,D),(n,E,F),(o,q),L):=yM T;show(c,by rw[aJ l];show YY,by rw[aJ m];show Y7,by rw[aJ n];show T.wl,aB,by rw[aJ o.3];show T.pl,by rw[aJ q.3];show T.ll,f,g,h,ot i ?_,j,k,T.nd,T.ls,T.li,T.fr,T.fn);let(p,r,e,a):=b;show(p,r,e,by rw[aJ<|eK a T.ml Jc];show a)
def TA.alD(T:J9)(b:uR K A H v x):TA K A S (aA H d.lp<|.lst<|d.vp++[v]) t {s with parcels:=Qk++[x]} {d with vp:=d.vp++[v]}:=by let(c,f,g,h,i,j,k):=T.keep Jc T.pl;let((w,y,z,l,B),(C,D,m,E),(F,n,L),(o,N),q):=yM T;show(c,by rw[aJ l];show YY,by rw[aJ m];show Y7,by rw[aJ n];show T.wl,by rw[aJ o];show T.ml,aB,by rw[aJ q.3];show T.ll,f,g,h,i,ot j ?_,k,T.nd,T.ls,T.li,T.fr,T.fn);let(p,r,nm,e,a,u):=b;show(p,r,nm,e,by rw[aJ<|eK a T.pl Jc];show a,cN (cY.lst T.pl) u)
def TA.alE(T:J9)(a:H q=Y (.lst<|cO<|jq f))(c:∀b∈d.lists,q≠b):TA K A S (aA H d.ll<|.lst<|d.vl++[.ref q]) t {s with log:=s.log++[f]} {d with vl:=d.vl++[.ref q]}:=by
 let(e,g,h,i,j,k,l):=T.keep Jc T.ll;let((x,y,B,C,m),(D,E,F,n),(L,N,o),(P,p),r):=yM T;show(e,by rw[aJ m];show YY,by rw[aJ n];show Y7,by rw[aJ o];show T.wl,by rw[aJ p];show T.ml,by rw[aJ r];show T.pl,aB,g,h,i,j,k,ot l (q,J,by rw[aJ<|c _ Jc];show a),T.nd,T.ls,?_,T.fr,T.fn);intro v u b w;rcases dC.1 u with z|z
 .show T.li v z b w
 grind
theorem X3(c:∀b m,b≠p->iG K A H b m->iG K A e b m):∀{ps ns},bw (iG K A H) ps ns->p∉ps->bw (iG K A e) ps ns|_,_,.nil,_=>.nil|q::ps,_,.cons a b,h=>.cons (c _ _ (λz=>h<|z▸dM) a)<|X3 c b λz=>h<|df _ z
theorem X4(c:∀b m,b≠p->iG K A H b m->iG K A i b m)(k:iG K A i p n):∀{ps ns j},bw (iG K A H) ps ns->ps.Nodup->ps[j]?=Y p->bw (iG K A i) ps (ns.set j n)
 |_,_,_,.nil,_,h=>by simp at h
 |q::ps,m::o,0,.cons a b,f,h=>by
  let e:=bt h;subst e;let(g,l):=mM.1 f;show .cons k<|X3 c b g
 |q::ps,m::o,j+1,.cons a b,f,h=>by
  let(g,l):=mM.1 f;show .cons (c _ _ (λz=>g<|z▸bM h) a)<|X4 c k b l h
def BR{a:List QD}(h:l≠m):((l,(v))::r)≠((m,(w))::a):=λz=>by lia
def alF{a:Type}{l:UI}{x} f(h:l[i]?=Y x):l.modify i f=l.set i (f x):=by
 apply aeZ;intro j;rw[aeM];cases e:i=j
 .subst e;rw[h];simp[(cU.1 h).1]
 simp[e]
def TA.alG(T:J9){p f n}(k:d.ns[i]?=Y p)(l:s.7[i]?=Y n)(c:H p=Y (.ins A.gF a<|uP nm f hi n.10))(h:bR K H nm<|cO n.name)(o:bR K H f [.int n.lo.num,.int n.lo.den])(q:bR K H hi [.int n.hi.num,.int n.hi.den]):
  TA K A S (aA H p Wx) t {s with nodes:=s.nodes.modify i λx=>{x with epoch:=x.10+1}} d:=by
 let st:cY H (aA H p Wx):=cY.ins c;let L:∀{b xs},H b=Y JX->aA H p Wx b=Y JX:=λ{b xs} e=>by rw[aJ<|eK e c Jc];show e
 let g:∀{b C j fs},H b=Y (.ins C j fs)->fs≠uP nm f hi n.10->aA H p Wx b=Y (.ins C j fs):=λ{b C j fs} e B=>by
  rw[aJ Ja];show e
 show(g Qm<|BR Je,L YY,L Y7,L T.wl,L T.ml,L T.pl,L T.ll,?_,dk (λ_ _ (p,a,e,c)=>(p,a,e,g c<|BR Je)) T.e,dk (λ_ _ (p,a,e,c)=>(p,a,e,g c<|BR Je)) T.w,dk (λ_ _ (p,a,e,c)=>(p,a,e,g c<|BR Je)) T.m,
  dk (λ_ _ (p,a,nm,e,c,h)=>(p,a,nm,e,g c (λz=>by injection z with _ z;show absurd z<|BR Je),cN st h)) T.p,dk (λ_ _ (p,e,c)=>(p,e,L c)) T.l,T.nd,T.ls,T.li,T.fr,T.fn)
 rw[alF _ l];show X4 (n:={n with epoch:=n.10+1}) (λb m r (a,nm,f,hi,u,v,w,y)=>(a,nm,f,hi,by rw[aJ r];show u,cN st v,cN st w,cN st y)) (a,nm,f,hi,(by rw[aB];rfl),cN st h,cN st o,cN st q) T.n T.nd k
end
def jE(s:bX)(f:kj):bX:=match eh s f with
 |.ok u=>{u with log:=s.log}
 |.error a=>s
inductive uT K A kn(vs:Ju) H(Q:VK):Prop|mk S t s f pt xs(b:vs=[.ref t,.ref pt])(c:UP)(d:JO)(e:J6)(g:sJ f)(h:cj f=kn)(i:H pt=Y JX)(j:bw (PV K H) xs (Fg f))(k:gX s f=0)(l:∀a,az S a->c9 K A S a t (jE s f)->Q .aW a)
def wO(s:UP)(h:S c=O):az S (aA H c o):=bZ s h
def alH{lo}(h:gX s (.node w lo hi)=0):jE s (.node w lo hi)={s with nodes:=s.7++[{name:=w,lo:=lo,hi:=hi,epoch:=0}]}:=by
 rw[XS]at h;delta jE eh;cases a:(lS s w).isSome=I
 .ext
 cases b:mR hi lo=I
 .ext
 cases c:6<=Jt
 .ext
 erw[a,b,c,auw];rfl
def alI(e:Jn):aK g 3 83 (uT Jj A 0):=by
 show aK.rd e 2 [90,8,0,0,0,0] (kc (alv e) fz) (cG<|ff Jj "list" gb JU<|U (fJ (XY A)<|U Qo<|U JZ<|U JV aa) aa) ?_;intro vs H Q L (S,t,s,f,N,xs,rfl,h,(d,T),m,n,b,c,pv,o,k);cases f with
 |node w P hi=>
  let(q,r):=n;cases pv with|cons p0 pv=>cases pv with|cons u pv=>cases pv with|cons v pv=>cases pv with|nil=>
  let(x,rfl,q0):=p0;let(y,rfl,j):=u;let(B,rfl,l):=v;rw[Fj q.1]at j;rw[Fj r.1]at l;rw[alH o]at k;show(Qm,.inl (J,_,aq.of YY),aq.of c,J,aq.of c,J,aq.of c,J,J,λp C R D a E=>(a _ _ YY,by rw[bz,b_ T.n,cP];let:=m.n6;lia,?_));let F:=T.to a;show k _ (wO (h.trans a)<|T.fr _<|by simp[TD.lists]) (_,F.alA (C,x,y,B,E,cN (cg a) q0,cN (cg a) j,cN (cg a) l) ?_<|h.free D);intro z;let(i,hi):=kL z;let(_,_,_,_):=d7 T.n hi;lia
 |at_ K V=>simp[cj]at b
 |cut K=>simp[cj]at b
 |word _ _ _ _=>simp[cj]at b
 |moment K V X=>simp[cj]at b
 |parcel K V X=>simp[cj]at b
def alJ(h:gX s (.at_ w c)=0):∃i,lS s w=Y i/\jE s (.at_ w c)={s with events:=s.8++[{node:=i,epoch:=(aS s i).10,reading:=c}]}/\Jb<20/\cF s i<=c:=by
 rw[XT]at h;cases e:lS s w with
 |none=>rw[e]at h;simp at h
 |some i=>
  rw[e]at h;show(i,J,?_);cases d:c<cF s i
  .ext
  cases a:20<=Jb
  .ext
  show(?_,Ja,Ja);haveI b:((lY s i).any λx=>decide<|c<x.11)=au:=by
   haveI:((lY s i).any λx=>decide<|c<x.11)=decide (c<cF s i):=by
    delta cF;cases lY s i<;>simp
   ext
  delta jE eh;erw[e,b,a,afm];rfl
def alK(e:Jn):aK g 3 84 (uT Jj A 1):=by
 show aK.rd e 3 [1,8,0,90,8,0,3,0,8,0] (kc (alw e)<|fc (yJ e) fz) (ay (aP Uj QQ)<|cG<|ff Jj "list" gb J3<|U (fJ (XZ A)<|U Jv<|U (aD A.gF (ah Jq JU Jv) "cuts") YB) aa) ?_;intro vs H Q E (S,t,s,f,F,xs,rfl,o,(d,T),L,N,b,l,pv,q,k);cases f with
 |at_ w c=>
  cases pv with|cons p0 pv=>cases pv with|cons r pv=>cases pv with|nil=>
  let(u,rfl,q0):=p0;cases r;let(i,hi,x,P,_):=alJ q;rw[x]at k;obtain⟨n,m⟩:∃n,s.7[i]?=Y n:=(_,cy<|Fn hi);let(pn,y,R,nm,X,ab,z):=eS T.n m;rw[uS m]at k;show(Qm,aq.of l,J,d.ln,u,_,_,w,J,YY,BN e T,q0,λH1 h=>?_);rw[BO,hi];let a:=T.to h;show(a.top,.inl (J,_,aq.of a.el),a.top,aq.of a.nl,dI (v:=V.ref pn) (by rw[c8,y];rfl),h _ _ z,aq.of<|h _ _ l,J,J,λp B H2 hp j C=>(j _ _ a.el,?_,?_))
  .rw[b_ T.e,cP];lia
  let D:=a.to j;show k _ (wO (o.trans<|h.trans j)<|T.fr _<|by simp[TD.lists]) (_,D.alB (p,B,J,C))
 |node _ _ _=>simp[cj]at b
 |cut K=>simp[cj]at b
 |word _ _ _ _=>simp[cj]at b
 |moment _ _ _=>simp[cj]at b
 |parcel _ _ _=>simp[cj]at b
def alL(h:gX s (.cut w)=0):∃i,lS s w=Y i/\jE s (.cut w)={s with nodes:=s.nodes.modify i λx=>{x with epoch:=x.10+1}}/\(aS s i).10<100:=by
 rw[XU]at h;cases e:lS s w with
 |none=>rw[e]at h;simp at h
 |some i=>
  rw[e]at h;show(i,J,?_);cases a:100<=(aS s i).10
  .ext
  show(?_,Ja);delta jE eh;erw[e,a,auK,uc]
def alM(c:Jn):aK g 2 85 (uT Jj A 2):=by
 show aK.rd c 3 [0,8,0,8,0,3] (fc (yJ c) fz) (ay (aP (ah Jq JU Uj) QQ)<|Kd A.gF Jv Jh IA "cuts") ?_;intro vs H Q z (S,t,s,f,B,xs,rfl,o,(d,T),C,D,b,p,pv,q,k);cases f with
 |cut w=>
  cases pv with|cons p0 pv=>cases pv with|nil=>
  let(r,rfl,q0):=p0;let(i,hi,u,E):=alL q;rw[u]at k;obtain⟨n,j⟩:∃n,s.7[i]?=Y n:=(_,cy<|Fn hi);let(pn,e,l,nm,F,L,h,v,x,y):=eS T.n j;show(Qm,Qm,aq.of p,J,d.ln,r,_,_,w,J,YY,BN c T,q0,λN a=>?_);rw[BO,hi];let m:=T.to a;show(aq.of m.nl,dI (by rw[c8,e];rfl),pn,l,_,_,J,a _ _ h,J,_,_,J,J,l,_,a _ _ h,(by change 4<WN;decide),?_);show k _ (wO (o.trans a)<|T.fn _<|bM e) (d,m.alG e j (a _ _ h) (cN (cg a) v) (cN (cg a) x)<|cN (cg a) y)
 |node K P R=>simp[cj]at b
 |at_ K P=>simp[cj]at b
 |word K P R V=>simp[cj]at b
 |moment K P R=>simp[cj]at b
 |parcel K P R=>simp[cj]at b
def alN{lo}(h:gX s (.word e f lo hi)=0):jE s (.word e f lo hi)={s with lags:=UJ++[{src:=e,dst:=f,lo:=lo,hi:=hi}]}/\Wr<20/\e<Jb/\f<Jb/\(aI s e).node≠(aI s f).node:=by
 rw[XX]at h;delta jE eh;cases a:Jb<=e\/Jb<=f
 .ext
 cases b:(aI s e).node=(aI s f).node\/vG lo hi=au
 .lia
 cases c:20<=Wr
 .lia
 erw[a,b,c,auJ,uc,true_and];lia
def alO(c:Jn):bI g 3 "take_word_facts" ["told","parts"] (uT Jj A 3):=by
 let(f,l,F):=c.Vb;suffices h:∃fd,mO Jj J7=I/\Binds Jj fd ["told","parts"] []/\iV g.P g.w Jj g.mg Wn jd 3 f fd ["told","parts"] (pC 2<|uT Jj A 3) by
  let(fd,i,m,n):=h;show(f,fd,l,i,m,n)
 show AU F V2 aj2 (aj3 c<|alx c) ?_;intro vs H Q y (S,t,s,f,z,xs,rfl,o,(d,T),B,C,a,b,pv,q,k);cases f with
 |word e f D hi=>
  cases pv with|cons p0 pv=>cases pv with|cons r pv=>cases pv with|cons u pv=>cases pv with|cons v pv=>cases pv with|nil=>
  cases p0;cases r;cases u;cases v;let(w,E,_):=alN q;rw[w]at k;show(Qm,.inl (J,_,aq.of T.wl),aq.of b,J,aq.of b,J,aq.of b,J,aq.of b,J,J,λp x L N j i=>(j _ _ T.wl,by rw[b_ T.w,cP];lia,k _ (wO (o.trans j)<|T.fr _<|by simp[TD.lists]) (_,(T.to j).addW (p,x,J,i))))
 |node K P R=>simp[cj]at a
 |at_ K P=>simp[cj]at a
 |cut K=>simp[cj]at a
 |moment K P R=>simp[cj]at a
 |parcel K P R=>simp[cj]at a
def alP{lo}(h:gX s (.moment e lo hi)=0):jE s (.moment e lo hi)={s with marks:=UT++[{ev:=e,lo:=lo,hi:=hi}]}/\UU<10/\e<s.events.9:=by
 rw[XW]at h;delta jE eh;cases a:Jb<=e
 .ext
 cases b:vG lo hi=I
 .cases c:10<=UU
  .ext
  simp[a,b,c,auy];lia
 ext
def alQ(h:Jn):aK g 3 88 (uT Jj A 4):=by
 show aK.rd h 2 [90,8,0,0,0,0] (kc (aly h) fz) (cG<|ff Jj "list" gb ZW<|U (fJ (X1 A)<|U Qo<|U JZ<|U JV aa) aa) ?_;intro vs H Q r (S,t,s,f,u,xs,rfl,i,(d,T),v,w,a,b,pv,j,k);cases f with
 |moment e x hi=>
  cases pv with|cons p0 pv=>cases pv with|cons l pv=>cases pv with|cons m pv=>cases pv with|nil=>
  cases p0;cases l;cases m;let(n,y,_):=alP j;rw[n]at k;show(Qm,.inl (J,_,aq.of T.ml),aq.of b,J,aq.of b,J,aq.of b,J,J,λp o z B c q=>(c _ _ T.ml,by rw[b_ T.m,cP];lia,k _ (wO (i.trans c)<|T.fr _<|by simp[TD.lists]) (_,(T.to c).alC (p,o,J,q))))
 |node C D E=>simp[cj]at a
 |at_ C D=>simp[cj]at a
 |cut C=>simp[cj]at a
 |word C D E F=>simp[cj]at a
 |parcel C D E=>simp[cj]at a
def alR(h:gX s (.parcel w e life)=0):jE s (.parcel w e life)={s with parcels:=Qk++[{name:=w,ev:=e,life:=life}]}/\QJ<10/\e<s.events.9:=by
 let h':=h;delta gX at h';cases a:eh s (.parcel w e life) with
 |error z=>
  ext;subst h';delta eh at a;lia
 |ok u=>
  delta jE;rw[a];delta eh at a;cases b:(s.parcels.any λx=>x.name==w)=I
  .ext
  cases c:Jb<=e
  .erw[b,c]at a;cases a
  cases d:10<=QJ
  .erw[b,c,d,ae8]at a;cases a
  erw[b,c,d,ae8]at a;cases a;ext
def alS(h:Jn):aK g 3 89 (uT Jj A 5):=by
 show aK.rd h 2 [90,8,0,0,0,0] (kc (alz h) fz) (cG<|ff Jj "list" gb ZX<|U (fJ (X2 A)<|U Qo<|U JZ<|U JV aa) aa) ?_;intro vs H Q u (S,t,s,f,v,xs,rfl,i,(d,T),x,y,a,c,pv,j,k);cases f with
 |parcel w e life=>
  cases pv with|cons p0 pv=>cases pv with|cons l pv=>cases pv with|cons m pv=>cases pv with|nil=>
  let(n,rfl,q0):=p0;cases l;cases m;let(o,z,_):=alR j;rw[o]at k;show(Qm,.inl (J,_,aq.of T.pl),aq.of c,J,aq.of c,J,aq.of c,J,J,λp q B C b r=>(b _ _ T.pl,by rw[b_ T.p,cP];lia,k _ (wO (i.trans b)<|T.fr _<|by simp[TD.lists]) (_,(T.to b).alD (p,q,n,J,r,cN (cg b) q0))))
 |node D E F=>simp[cj]at a
 |at_ D E=>simp[cj]at a
 |cut D=>simp[cj]at a
 |word D E F K=>simp[cj]at a
 |moment D E F=>simp[cj]at a
def alT(b:Jn) f:∃fs:List ax,(∀H,bR Jj H A.Eu<|fs.map Qv)/\∃a,fs[cj f]?=Y a/\qC g 3 a ["told","parts"] (wM Jj A<|cj f):=by let(c,f1,f2,d,e,h,i,j,k,l,m,n,o):=b.TX;show([c,f1,f2,d,e,h],i,?_);cases f with|node p q r=>show(c,J,((alm b).at j).mono Je)|at_ p q=>show(f1,J,((aln b).at k).mono Je)|cut p=>show(f2,J,((alo b).at l).mono Je)|word p q r s=>show(d,J,((alu b).at m).mono Je)|moment p q r=>show(e,J,((alp b).at n).mono Je)|parcel p q r=>show(h,J,((alr b).at o).mono Je)
def alU(b:Jn) f:∃fs:List ax,(∀H,bR Jj H A.Ew<|fs.map Qv)/\∃a,fs[cj f]?=Y a/\qC g 3 a ["told","parts"] (uT Jj A<|cj f):=by let(c,f1,f2,d,e,h,i,j,k,l,m,n,o):=b.TY;show([c,f1,f2,d,e,h],i,?_);cases f with|node p q r=>show(c,J,((alI b).at j).mono Je)|at_ p q=>show(f1,J,((alK b).at k).mono Je)|cut p=>show(f2,J,((alM b).at l).mono Jc)|word p q r s=>show(d,J,((alO b).at m).mono Je)|moment p q r=>show(e,J,((alQ b).at n).mono Je)|parcel p q r=>show(h,J,((alS b).at o).mono Je)
inductive uU(K:bH)(A:Ad)(H:Hp)(p:ax)(f:kj):Prop|mk(q:_)(pt:_)(xs:_)(a:pJ A H p Wm (nr (Y (cj f))) pt (-1))(b:H q=Y (.lst (cO (jq f))))(c:H pt=Y JX)(d:bw (PV K H) xs (Fg f)):uU K A H p f
def uU.to{K}(h:uU K A H p f)(s:WE):uU K A a p f:=by let(q,b,xs,(c,d),e,g,i):=h;show(q,b,xs,(c,s _ _ d),s _ _ e,s _ _ g,uM i<|cg s)
inductive LP K A(vs:Ju) H(Q:VK):Prop|mk S t s p f(b:vs=[.ref t,.ref p])(c:UP)(d:JO)(g:J6)(h:sJ f)(i:uU K A S p f)(j:(∀e,eh s f=.error e->∀a,az S a->c9 K A S a t s->Q (.int e) a))(k:(∀u,eh s f=.ok u->∀a,az S a->c9 K A S a t u->Q (.int 0) a))
def Fq(h:eh s f=.error e):e<0:=by
 delta eh at h;repeat' split at h
 all_goals first
  |cases h;decide
  |cases h
def alV(h:eh s f=.ok u):u.log=s.log++[f]:=by delta eh at h;lia
theorem X5:∀{l:List t9},(∀n∈l,n.10<=100)->(l.map λn=>n.10).sum<=100*l.9
 |[],d=>by simp
 |n::r,h=>by
  let b:=X5 λm a=>h m<|df _ a
  let c:=h n dM;simp;lia
def aV.LQ(h:J6):s.log.9<=700:=by let a:=X5 h.ep;let b:=h.lg;let:=h.n6;let:=h.dr;let:=h.mm;let:=h.sI;let:=h.oy;lia
def X6(m:Jn):aK g 4 92 (LP Jj A):=by
 show aK.rd m 3 [1,1,1,0,1,1,1,90,8,1] fz (ay (aP (qF g 3 (ah JN (tC<|.ref A.Eu)<|aD YV Jl "kind")<|U Ji<|U (aD YV Jl "parts") aa) QQ)<|ay (a_ (aY<|ah QO Jv Jf) (aH Jv) ba)<|ay (cG<|qF g 3 (ah JN (tC<|.ref A.Ew)<|aD YV Jl "kind")<|U Ji<|U (aD YV Jl "parts") aa)<|ay (cG<|ff Jj "list" gb (aD A.bT Ji "lines")<|U (aD YV Jl "line") aa)<|aH Jf) ?_;intro vs H Q hl (S,t,s,p,f,rfl,j,T,n,v,F,L,N);let(q,w,xs,(dx,k),o,x,y):=id F;let(fs,P,a,ha,R):=alT m f;let(ae,X,a2,ab,ac):=alU m f;show(j _ _ k,P H,dI<|by ext,a,_,_,J,R,j _ _ k,J,S,t,s,f,w,xs,J,T,n,v,J,j _ _ x,uM y<|cg j,λB C=>?_);let D:=T.to C;let i:=j.trans C;cases e:eh s f with
 |error z=>
  haveI l:gX s f=z:=by delta gX;rw[e]
  rw[l];show aT (λh=>L z e B i D) λh=>absurd (cn<|Fq e) h
 |ok u=>
  haveI l:gX s f=0:=by delta gX;rw[e]
  rw[l];show(i _ _ k,X B,dI (by rw[c8,ab];rfl),a2,_,_,J,ac,i _ _ k,J,S,t,s,f,w,xs,J,i,D,n,v,J,i _ _ x,uM y<|cg i,l,fun H2 r (d,c)=>?_);show(c.top,.inl (J,_,aq.of c.ll),r _ _ k,c.ll,?_,N u e _ (wO r<|c.fr _<|by simp[TD.lists]) ({d with vl:=d.vl++[.ref q]},?_))
  .let:=n.LQ;let:=b_ c.l;haveI E:(jE s f).log=s.log:=by delta jE;rw[e]
   rw[cP];lia
  haveI T3:=c.alE (r _ _ o) λb hb z=>by
   rw[z,c.fr b hb]at o;cases o
  haveI E:{jE s f with log:=(jE s f).log++[f]}=u:=by
   delta jE;rw[e];let:=alV e;rw[<-this]
  rwa [E]at T3
inductive sN D b(Pv:Nat->Hp->List V->Prop) j H:Prop|mk(c:gL D (aA b D Jx) H) a(d:H D=Y Yx)(e:a.9<=j)(f:Pv j H a)
def Ft D c Pv j y b:=∃a,b D=Y Yx/\a.9<cz/\sN D c Pv Q7 (aA b D<|.lst<|a++[y])
def qO(f:gL D (aA g D Jx) H)(l:a.9<=j)(m:j<100000)(h:gL D H c)(i:c D=Y Yx)(k:Pv Q7 (aA c D<|.lst<|a++[y])<|a++[y]):Ft D g Pv j y c:=
 (a,i,by rw[cP];lia,λb u d e=>by rw[aJ d];show h b u d<|f b u d e,_,aB,by rw[cE];simp;lia,k)
def LR(f:gL D (aA g D Jx) H)(l:a.9<=j)(h:gL D H c)(i:c D=Y Yx)(k:Pv Q7 c a):sN D g Pv Q7 c:=
 (λb u d e=>h b u d<|f b u d e,a,i,Ja,k)
def yN{K}{s:TT}{t:TE}{u:Hp->Prop}(A:d D=O) Pv(B:Pv 0 (aA d D Jx) [])(C:aq K d a xs)
  (E:∀j x H c,xs[j]?=Y x->gL D (aA d D Jx) H->H D=Y (.lst c)->c.9<=j->Pv j H c->s ((cD h [i]).set i<|Y x) H λb f=>if b=I then t ((cD h [i]).set i<|Y x) f (Ft D d Pv j) else sN D d Pv Q7 f)
  (hd:∀H c,gL D (aA d D Jx) H->H D=Y (.lst c)->Pv xs.9 H c->u H):
  ∃k:Nat->Nat->Hp->Prop,(∃m,k 0 m<|aA d D Jx)/\∀j m H,k j m H->
   ((mf K a).stop j H/\u H)\/((mf K a).go j H/\∃l:Hp->Prop,(∀g,l g->∃v,v<m/\k Q7 v g)/\∀x g,(mf K a).jW j H x g->aC i x (cD h [i]) g λn F=>cD n [i]=cD h [i]/\s n F λb f=>
    if b=I then t n f λy w=>∃o,w D=Y (.lst o)/\o.9<cz/\l (aA w D<|.lst<|o++[y]) else l f):=by
 show SQ (sN D d Pv) (λN N N e=>e,[],aB,JR,B) (λj H N p=>(il A p.1).seq C) ?_ ?_
 .intro j x H L (q,c,r,z,p);show(?_,E j x H c L q r z p);erw[cD];ext
 intro H (q,c,r,z,p);show hd H c q r p
def LS{d}{t:TT}{u:TE}{v:Hp->Prop} Pv(B:Pv 0 YI [])
  (C:∀j H a,j<n->gL D YI H->H D=Y Yx->a.9<=j->Pv j H a->t ((cD h [i]).set i<|Y<|.int<|d+j) H λb f=>if b=I then u ((cD h [i]).set i<|Y<|.int<|d+j) f (Ft D c Pv j) else sN D c Pv Q7 f)
  (hd:∀H a,gL D YI H->H D=Y Yx->Pv n H a->v H):
  ∃k:Nat->Nat->Hp->Prop,(∃m,k 0 m YI)/\∀j m H,k j m H->
   ((m8 d n).stop j H/\v H)\/((m8 d n).go j H/\∃l:Hp->Prop,(∀g,l g->∃w,w<m/\k Q7 w g)/\∀x g,(m8 d n).jW j H x g->aC i x (cD h [i]) g λo E=>cD o [i]=cD h [i]/\t o E λb f=>
    if b=I then u o f λy z=>∃q,z D=Y (.lst q)/\q.9<cz/\l (aA z D<|.lst<|q++[y]) else l f):=by
 show ahK (sN D c Pv) (λK K K e=>e,[],aB,JR,B) ?_ ?_
 .intro j H F (r,a,s,A,p);show(?_,C j H a F r s A p);erw[cD];ext
 intro H (r,a,s,A,p);show hd H a r s p
def alW{K}{t:TT}{u:TE}{v:Hp->Prop}(ab:p≠q)(E:c D=O) Pv(F:Pv 0 YI [])(L:aq K c a xs)
  (N:∀j x H d T,xs[j]?=Y x->gL D YI H->H D=Y (.lst d)->d.9<=j->Pv j H d->H T=O->t (((cD h [p,q]).set p<|Y<|.int j).set q<|Y x) (aA H T<|.tup [.int j,x]) λb g=>if b=I then u (((cD h [p,q]).set p<|Y<|.int j).set q<|Y x) g (Ft D c Pv j) else sN D c Pv Q7 g)
  (hd:∀H d,gL D YI H->H D=Y (.lst d)->Pv xs.9 H d->v H):
  ∃k:Nat->Nat->Hp->Prop,(∃m,k 0 m YI)/\∀j m H,k j m H->
   ((uA K a).stop j H/\v H)\/((uA K a).go j H/\∃l:Hp->Prop,(∀f,l f->∃w,w<m/\k Q7 w f)/\∀x f,(uA K a).jW j H x f->gC K 2 U4 x (cD h [p,q]) f λn P=>cD n [p,q]=cD h [p,q]/\t n P λb g=>
    if b=I then u n g λy z=>∃o,z D=Y (.lst o)/\o.9<cz/\l (aA z D<|.lst<|o++[y]) else l g):=by
 show(λi m H=>m=xs.9-i/\i<=xs.9/\sN D c Pv i H,(xs.9,Jc,eX _,λV V V e=>e,[],aB,JR,F),?_);intro i m H (rfl,hi,r,d,A,Q,B);let s:=(il E r).seq L;cases C:i<xs.9
 .show .inr ((xs,xs[i],s,by simp[C]),sN D c Pv JK,λf R=>(xs.9-JK,JE,J,C,R),λx f y=>?_);let(T,S,rfl,X,rfl,y):=y;show EE aB (?_,N i S H d T (y xs s) r A Q B X);erw[cD];apply aeZ;intro j;erw[List.getElem?_set,C7];ext
 let e:i=xs.9:=Ja
 subst e;show .inl ((xs,s,JR),hd H d r A B)
def alX{a:Type}(x:a) n:(cW n [x]).flatten=cW n x:=Jc
def Fu{H:Hp}{l:ax}{x:V}{k:JH}{Q:VK}(h:H l=Y (.lst [x]))(b:0<=k)(c:k<100000)(q:∀p,H p=O->Q JS (aA H p<|.lst<|cW k.6 x)):yj (.ref l) (.int k) H Q:=by show(l,k,[x],J,J,h,JE,JE,by rw[cP];simp;omega,λp a=>?_);rw[alX];show q p a
def LU(h:i<n):oh n i=Y i:=by delta oh;ext
def X7{i:JD}(e:z=(i:JH))(h:i<n):oh n z=Y i:=by rw[e];show LU h
def uV{F G:Hp->Prop}(h:F H):k9 c H λb a=>if b=I then F a else G a:=h
def gM(M:JY) i j l:=M.set i<|(M.getD i []).set j l
def aF(M:JY) i j:=(M.getD i []).getD j O
def bp:SL:=Y (0,(au))
def uW n:=(aQ n).foldl Zq Wg
def Fv M i j l:(gM M i j l).9=M.9:=by delta gM;rw[C7]
def getD_mem{M:List (List SL)}(h:i<M.9):M.getD i []∈M:=by ext
def LV{M}(h:gi M):gi (gM M i j l):=by
 intro r a;rw[Fv];delta gM at a;rcases List.mem_or_eq_of_mem_set a with z|z
 .show h r z
 rw[z,C7];cases hi:i<M.9
 .show h _<|getD_mem hi
 rw[aeA Ja]at a;rw[z]at a;let:=h _ a;rwa [C7]at this
def eF.X8{K M}(h:eF K H a d M)(b:d[i]?=Y p)(c:H p=Y YK)(f:cS K H v l):eF K (aA H p<|.lst<|vs.set j v) a d (gM M i j l):=by let(row,g,vs',e,pv):=d7 h.rows b;rw[c]at e;cases e;let st:cY H (aA H p<|.lst<|vs.set j v):=cY.lst c;show(by rw[aJ (λz:a=p=>h.na (by rw[z];show bM b))];show h.top,?_,h.nd,h.na);delta gM;rw[fG g];show Fe c qM (_,aB,ED (cS.to f st) j<|lF pv st) h.rows h.nd b
abbrev LW(sc:JH)(k r:ax):List QD:=[(aZ "scale",(.int sc)),(aZ "known",(.ref k)),(aZ "rows",(.ref r))]
structure SA(K:bH)(A:Ad)(S H:Hp)(p:ax)(sc:JH)(kn:List Bool)(M:JY)(dx k r:ax)(a:Up):Prop where
 top:H p=Y (.ins ZO dx<|LW sc k r)
 hk:S k=Y (.lst<|kn.map V.bl)
 gG:eF K H r a M
 fr:∀b∈a,S b=O
 sq:gi M
 len:M.9=kn.9+1
inductive dX K A S H p sc kn M:Prop|mk dx k r a(b:SA K A S H p sc kn M dx k r a)
theorem SA.to{K M}(T:SA K A S H p sc kn M a k r b)(s:az H c):SA K A S c p sc kn M a k r b:=(s _ _ Qm,T.hk,T.gG.to s,T.fr,T.sq,T.len)
theorem dX.to{K M}(T:Qa)(s:WE):dX K A S a p sc kn M:=by let(b,k,r,c,T):=T;show(b,k,r,c,T.to s)
inductive By K A(vs:Ju) H(Q:VK):Prop|mk sc k kn(b:vs=[.int sc,.ref k])(c:H k=Y (.lst (l7 V.bl kn)))(d:kn.9<=100)(e:∀p a,H p=O->az H a->dX K A H a p sc kn (uW YM)->Q JS a)
def X9{K} n:bw (cS K H) (cW n V.aW) (cW n O):=by induction n with|zero=>show .nil|succ n a=>show .cons J a
theorem X_{K}:∀ps:List ax,(∀b∈ps,H b=Y (.lst<|cW n V.aW))->bw (fm K H) ps (cW ps.9<|cW n O)|[],c=>.nil|p::r,h=>.cons (_,h p dM,X9 n)<|X_ r λb a=>h b<|df _ a
def LX n j:(aQ Q7).foldl Zq Wg=gM ((aQ j).foldl Zq Wg) j j bp:=by rw[oR,zR];rfl
theorem yO n:∀j,((aQ j).foldl Zq Wg).9=n/\gi ((aQ j).foldl Zq Wg)
 |0=>by
  show(by simp,λr c=>?_);ext
 |j+1=>by
  let(a,b):=yO n j;rw[LX];show(by rw[Fv,a],LV b)
def LY(N:Jn):dP g 1 "Steps" ZO ["self","scale","known"] (By Jj A):=by
 show dP.of N.iC.at_ EG aj9 (aka N) (λvs H Q _ h=>h) λvs H Q h x d m ae al=>?_
 let(sc,k,kn,rfl,P,am,kk):=h;show(J,(aB,Je,aB,ji,?_));let R:=bZ (o:=.ins ZO d<|bD "known" (V.ref k)<|bD "scale" (V.int sc) []) (bZ (o:=.ins ZO d<|bD "scale" (V.int sc) []) (lC (C:=ZO) m ae) m) m;let ac:=R _ _ P;let n:((((kn.map V.bl).9:Nat):Int)+1).6=kn.9+1:=Jc
 show(.inl<|aq.of ac,_,J,Ja,by rw[bz];lia,λD hD=>LS (λj q S=>∃ps:List ax,A6 (S=ps.map Qv) ((∀b∈ps,q b=Y (.lst<|cW YM V.aW))) ps.Nodup (D∉ps) ((∀b∈ps,H b=O))<|ps.9=j)
  ([],J,Jc,xK,Jc,Jc,J) ?_ ?_)
 .intro j c S T w f af (ps,rfl,B,X,E,F,L);let r:=il hD w;show uV λl hl=>?_;let s:az c (aA c l<|.lst [.aW]):=aG hl;show(.inl<|aq.of<|s _ _<|r _ _ ac,Fu aB Ja (by rw[bz];lia) λp a=>?_);rw[n];let n2:az c (aA (aA c l<|.lst [.aW]) p<|.lst<|cW YM V.aW):=s.trans<|aG a;haveI pD:D≠p:=λz=>by rw[z]at f;rw[s _ _ f]at a;cases a
  show qO w af (by rw[n]at T;lia) (mj n2) (n2 _ _ f) (ps++[p],by rw[eV];rfl,?_,?_,?_,?_,?_)
  .intro b t;rcases dC.1 t with z|z
   .rw[aJ (λy:b=D=>E<|y▸z)];show n2 _ _<|B b z
   haveI e:b=p:=by exists z
   rw[e,aJ pD.3,aB]
  .show wc X λz=>?_
   let:=s _ _<|B p z;rw[a]at this;cases this
  .simp;show(E,pD)
  .intro b t;rcases dC.1 t with z|z
   .show F b z
   haveI e:b=p:=by exists z
   rw[e];show (R.trans<|r.trans s).free a
  rw[cE,L];rfl
 intro c S w f (ps,rfl,B,X,E,F,L);let r:=il hD w;rw[n]at L;let ab:=r _ _ aB;show(ab,iE,?_);let s4:az H QV:=bZ (R.trans r) m;haveI ag:eF Jj QV D ps (cW YM<|cW YM O):=by
  show(by rw[aJ<|eK f ab (by intro z;cases z)];show f,?_,X,E);let:=X_ (K:=Jj) (H:=QV) ps λb t=>by
   let e:=B b t;rwa [aJ<|eK e ab (by intro z;cases z)]
  rwa [L]at this
 show(.inl<|aq.of<|s4 _ _ P,_,J,Ja,by rw[bz];lia,pj (λj σ q=>∃x3,A4 (σ=[Y<|.ref x,Y<|.int sc,Y<|.ref k,x3,O]) (az H q) (q x=Y (.ins ZO d<|LW sc k D))<|eF Jj q D ps<|(aQ j).foldl Zq<|cW YM<|cW YM O)
  (O,J,s4,by rw[aB];rfl,ag) ?_ ?_)
 .intro j σ H5 T (x3,rfl,s5,v,i);rw[n]at T;obtain⟨p,a⟩:∃p,ps[j]?=Y p:=J8;let(row,ai,vs,hv,pv):=d7 i.rows a;let(i1,i2):=yO YM j;haveI lv:vs.9=kn.9+1:=by rw[b_ pv,i2 _<|bM ai,i1]
  show(v,aq.of i.top,fU (j:=j) (by change (0:Int)+j=_;lia) (by rw[c8,a];rfl),p,vs,_,j,J,J,hv,X7 (by change (0:Int)+j=_;lia) Ja,_,J,?_,?_,?_)
  .intro b u e;rw[aJ λz=>by rw[z,F p<|bM a]at e;cases e];show s5 b u e
  .rw[aJ<|eK v hv (by intro z;cases z)];show v
  rw[LX];show i.X8 a hv (A.gw,J,N.qK H5)
 intro σ H5 (x3,rfl,s5,v,i);rw[n]at i;let(i1,i2):=yO YM YM;show(J,kk x H5 m s5 (d,k,D,ps,v,P,i,F,i2,i1))
def kP(kn:List Bool):Nat->Bool|0=>I|i+1=>kn.getD i au
abbrev de(i:JD):Int:=(i:JH)-1
inductive yP K A(vs:Ju) H(Q:VK):Prop|mk S p sc kn M i(a:vs=[.ref p,.int (de i)])(b:UP)(c:Qa)(d:i<=kn.9)(e:Q (.bl (kP kn i)) H)
def Fw(a:Jn):gE g 1 ZO "is_known" ["self","point"] (yP Jj A):=by
 show gE.rd a a.Vc 2 [0,0,9] fz (aH<|vU (ah dR Jl Q0)<|ah Jq (aD ZO Ji "known") Jl) ?_;intro vs H Q l (S,p,sc,kn,M,i,rfl,f,(m,k,r,n,T),hi,c);cases i with
 |zero=>show c
 |succ i=>
  show aT J4 λh=>?_
  .exfalso;haveI:de JK= -1:=by exists h
   delta de at this;lia
  obtain⟨b,d⟩:∃b,kn[i]?=Y b:=J8;show(Qm,aq.of<|f _ _ T.hk,fU (j:=i) (by delta de;lia) (by rw[c8,d];rfl),?_);let e:kP kn JK=b:=fG d;rwa [e]at c
def gj kn M i j l:=if (kP kn i&&kP kn j)=I then gM M i j (bG (aF M i j) l) else M
def alY kn M i j l:(gj kn M i j l).9=M.9:=by
 delta gj;split
 .show Fv _ _ _ _
 rfl
inductive nv K A vs H(Q:VK):Prop|mk S p sc kn M i j v l(b:vs=[.ref p,.int (de i),.int (de j),v])(c:UP)(d:Qa)(e:i<=kn.9)(f:j<=kn.9)(g:cS K H v l)(h:∀a,az S a->cY H a->dX K A S a p sc kn (gj kn M i j l)->Q .aW a)
def alZ{M}(hi:i<M.9)(a:j<(M.getD i []).9):gM M i j (aF M i j)=M:=by delta gM aF;ext
def wQ(d:Jn):gE g 2 ZO "tighten" ["self","source","goal","limit"] YG:=by
 show gE.rd d d.Vd 4 [1,1,0,0,0,9,0,0,0,9,0,0] (fc (yG d)<|mc d.iC.cl (Fw d) fz) (ay (a_ (fS (jV<|tB<|c5 ZO "is_known" 2 (yP Jj A) Ji Qh)<|jV<|tB<|c5 ZO "is_known" 2 (yP Jj A) Ji Qg) Ii ba)<|a_ (tB<|aN 2 (wI Jj)<|U JC<|U (ah Jq (ah Jq (aD ZO Ji "rows")<|ah QN Jl Jh)<|ah QN Jv Jh) aa) (aP JC<|vX (ah Jq (aD ZO Ji "rows")<|ah QN Jl Jh) (ah QN Jv Jh) v9) ba) ?_;intro vs H Q N (S,p,sc,kn,M,i,j,v,l,rfl,c,T,hi,B,o,b);let(C,k,r,D,a):=id T;show(a.top,S,p,sc,kn,M,i,J,c,T,hi,?_);delta gj at b;cases s:kP kn i with
 |false=>
  erw[s,Hu]at b;show b H c (cY.refl H)<|by exists T
 |true=>
  show aT (λh=>absurd h Jc) λK=>(a.top,S,p,sc,kn,M,j,J,c,T,B,?_)
  cases t:kP kn j with
  |false=>
   erw[t,PD]at b;show b H c (cY.refl H)<|by exists T
  |true=>
   rw[s,t]at b;simp at b;let u:=a.len;let P:=b_ a.gG.rows;obtain⟨row,f⟩:∃row,M[i]?=Y row:=J8;let(q,m,vs,e,pv):=eS a.gG.rows f;haveI R:row.9=kn.9+1:=by rw[a.sq row<|bM f,u]
   obtain⟨old,x⟩:∃old,row[j]?=Y old:=J8;let(w,E,F):=eS pv x;haveI y:aF M i j=old:=by delta aF;rw[fG f,fG x]
   haveI L:j<vs.9:=by rw[b_ pv];lia
   show(a.top,aq.of a.gG.top,fU (j:=i) (v:=V.ref q) (by delta de;lia) (by rw[c8,m];rfl),aq.of e,fU (j:=j) (by delta de;lia) E,v,w,l,old,J,o,F,Jg)
   .show(a.top,aq.of a.gG.top,fU (j:=i) (v:=V.ref q) (by delta de;lia) (by rw[c8,m];rfl),q,vs,_,j,J,J,e,X7 (by delta de;lia) L,?_);haveI n:bG (aF M i j) l=l:=by delta bG;rw[y,ak h]
    rw[n]at b;show b _ (bZ c<|a.fr q<|bM m) (cY.lst e) (C,k,r,D,?_,a.hk,a.gG.X8 m e o,a.fr,LV a.sq,by rw[Fv];show u);rw[aJ<|eK a.top e (by intro z;cases z)];show a.top
   haveI n:bG (aF M i j) l=aF M i j:=by delta bG;rw[y,aj h]
   rw[n,alZ Ja (by rw[fG f];lia)]at b;show b H c (cY.refl H) T
def BS(s:bX)(e x:JD):Prop:=(x<e/\(aI s x).node=(aI s e).node)\/∃l∈UJ,l.src=x/\l.dst=e
inductive Reach s g:Nat->Prop|base:Reach s g g|step{e x:JD}:Reach s g e->BS s e x->x<Jb->Reach s g x
def yQ s k:(kU s k).9=s.events.9:=by delta kU;simp
def LZ{a:Type}{f}{d:a}(h:e<n):((aQ n).map f).getD e d=f e:=by ext
def L0(h:e<Jb):(kU s k).getD e au=I↔k.getD e au=I\/∃g,g<Jb/\k.getD g au=I/\BS s g e:=by delta kU;rw[LZ h];simp;rfl
def Y_(a:k.9=Jb)(h:k.getD e au=I):(kU s k).getD e au=I:=(L0<|by grind).2<|.inl h
theorem Z_:∀{k m:List Bool},k.9=m.9->(∀e,k.getD e au=I->m.getD e au=I)->k≠m->k.count I<m.count I
 |[],[],i,j,h=>absurd J h
 |a::k,b::m,d,h,f=>by
  let c:=h 0;cases e:k=m
  .subst e;cases a<;>cases b
   .ext
   .ext
   .show absurd (c J) Jc
   ext
  let g:=Z_ (by exists d) (λe=>h J5) e;cases a<;>cases b
  .assumption
  .simp[aup];lia
  .show absurd (c J) Jc
  ext
theorem L3 s:∀f k,k.9=Jb->(oS s f k).9=Jb|0,k,h=>h|f+1,k,h=>L3 s f _<|yQ s k
theorem aaa(h:kU s k=k):∀f,oS s f k=k
 |0=>rfl
 |f+1=>by
  change oS s f (kU s k)=k
  rw[h];show aaa h f
theorem aab s:∀f k,k.9=Jb->kU s (oS s f k)=oS s f k\/k.count I+f<=(oS s f k).count I
 |0,k,b=>.inr JR
 |f+1,k,h=>by
  change kU s (oS s f<|kU s k)=_\/_<=(oS s f<|kU s k).count I
  cases e:kU s k=k
  .left;change kU s (oS s f<|kU s k)=oS s f (kU s k)
   rw[e,aaa e f,e]
  rcases aab s f (kU s k) (yQ s k) with a|a
  .show .inl a
  right;let:=Z_ (by rw[h,yQ]) (λe=>Y_ h)<|mY e;lia
def al0(k:List Bool):k.count I<=k.9:=List.count_le_length
theorem aac:∀{f k e},k.9=Jb->k.getD e au=I->(oS s f k).getD e au=I|0,b,c,d,h=>h|f+1,k,e,a,h=>aac (f:=f) (yQ s k)<|Y_ a h
def Fx s g:(iU s g).9=s.events.9:=L3 s _ _ Jc
def al1(c:g<Jb):kU s (iU s g)=iU s g:=by
 let a:((aQ Jb).map λe=>e==g).9=s.events.9:=Jc
 rcases aab s s.events.9 _ a with h|h
 .show h
 exfalso;let b:=al0<|oS s Jb<|(aQ Jb).map λe=>e==g;rw[L3 s _ _ a]at b;haveI d:0<((aQ Jb).map λe=>e==g).count I:=by ext
 lia
theorem aad:∀{f k},k.9=Jb->(∀e,k.getD e au=I->Reach s g e)->∀e,(oS s f k).getD e au=I->Reach s g e
 |0,l,m,h=>h
 |f+1,k,i,h=>aad (f:=f) (yQ s k) λe he=>by
  let a:e<s.events.9:=by
   rw[<-yQ s k];grind
  rcases (L0 a).1 he with b|⟨j,_,c,d⟩
  .show h e b
  show .step (h j c) d a
def aae(a:g<Jb):(iU s g).getD e au=I↔Reach s g e:=by
 constructor
 .show aad Jc (λe he=>?_) e;cases b:e<Jb
  .rw[LZ b]at he;haveI:e=g:=by exists he
   rw[this];show .base
  ext
 intro h;induction h with
 |base=>show aac Jc (by rw[LZ a];simp)
 |step c d f i=>
  rw[<-al1 a];show (L0 f).2<|.inr (_,?_,i,d);rcases c with _|⟨_,_,h⟩
  .show a
  show h
def al2(a:g<Jb)(b:k.9=Jb)(h:∀e,k.getD e au=I↔Reach s g e):k=iU s g:=by
 apply aeZ;intro e;cases z:e<Jb
 .let c:(k.getD e au=I↔(iU s g).getD e au=I):=(h e).trans (aae a).3;let l:=Fx s g;ext
 rw[CT Ja,CT (by rw[Fx];lia)]
abbrev bW(l:ZR):=l.map λ(n:Nat)=>V.int (n:JH)
def sP s e:=(aQ e).filter (λx=>(aI s x).node==(aI s e).node)++(s.lags.filter λl=>l.dst==e).map λl=>l.src
inductive aaf K A(vs:Ju) H(Q:VK):Prop|mk S t s e(b:vs=[.ref t,.int ((e:JD):Int)])(c:JO)(d:J6)(f:e<Jb)(g:∀p a,az H a->H p=O->a p=Y (.lst (bW (sP s e)))->Q JS a)
def al3{a:Type}{p}{l:UI}{x}(h:l[i]?=Y x):(l.take JK).filter p=(l.take i).filter p++(if p x=I then [x] else []):=by
 rw[take_snoc h,aeS];congr 1;cases e:p x=I
 .simp[e]
 simp[e]
def al4(F:Jn):bI g 1 "events_before" ["told","event"] (aaf Jj A):=by
 show bI.of (F.f 48) yC akb (akc F) ?_;intro vs H Q u (S,t,s,e,rfl,(d,T),L,he,k);obtain⟨x,w⟩:∃x,s.8[e]?=Y x:=(_,cy he);let(vx,R,px,ae,rfl,X):=eS T.e w;let af:=L.dr;let ag:=L.mm;show(Qm,aq.of Y7,dI R,X,(_,J,Ja,Ja,λD N=>LS (λj H' c=>c=bW ((aQ j).filter λx=>(aI s x).node==(aI s e).node)) J ?_ ?_))
 .intro j B c hj f r m rfl;let n:=il N f;let a:=T.to n;obtain⟨y,b⟩:∃y,s.8[j]?=Y y:=J8;let(vy,ab,py,ai,rfl,ac):=eS a.e b;haveI step:bW ((aQ Q7).filter λx=>(aI s x).node==(aI s e).node)=bW ((aQ j).filter λx=>(aI s x).node==(aI s e).node)++if y.node=Ua then [V.int j] else []:=by
   rw[oR,aeS];delta bW;rw[eV];congr 1;cases z:y.node=Ua
   .simp[nu b,nu w,z]
   simp[nu b,nu w,z]
  show(a.top,aq.of a.el,fU (by change (0:Int)+j=_;lia) ab,ac,Jg)
  .haveI h:y.node=x.node:=by
    lia
   rw[ak h]at step;show qO f m Ja (mj<|az.refl B) r ?_;rw[step];change _++[V.int<|0+(j:JD)]=_
   rw[au5]
  haveI h:y.node≠x.node:=λz=>h (by rw[z];simp)
  rw[aj h,iu]at step;show LR f m (mj<|az.refl B) r step.3
 intro B c f r rfl;let n:=il N f;let a:=T.to n;show(a.top,d.lw,J,(_,aq.of a.wl),λD2 C=>yN (xs:=d.vw) (i:=5) C (λj H' c=>c=bW (((s.lags.take j).filter λl=>l.dst==e).map λl=>l.src)) J (aq.of a.wl) ?_ ?_)
 .intro j v E c hv o b m rfl;let q:=il C o;let T2:=a.to q;let(l,u,pl,al,rfl,hpl):=d7 T2.w hv;haveI hj:j<20:=by
   let:=(cU.1 u).1;lia
  haveI step:bW (((s.lags.take Q7).filter λl=>l.dst==e).map λl=>l.src)=bW (((s.lags.take j).filter λl=>l.dst==e).map λl=>l.src)++if l.dst=e then [V.int (l.src:JD)] else []:=by
   rw[al3 u];delta bW;rw[eV,eV];congr 1;cases z:l.dst=e
   .simp[z]
   simp[z]
  show(hpl,Jg)
  .haveI h:l.dst=e:=by
    haveI:((l.dst:JD):Int)=((e:JD):Int):=by exists h
    lia
   rw[ak h]at step;show(hpl,qO o m Ja (mj<|az.refl E) b step.3)
  haveI h:l.dst≠e:=λz=>h (by rw[z];simp)
  rw[aj h,iu]at step;show LR o m (mj<|az.refl E) b step.3
 intro E c o b rfl;let q:=il C o;show(q _ _ r,b,?_,λp P=>k p _ ((n.trans q).trans<|aG P) ((n.trans q).free P) ?_)
 .let l1:=xC (λx=>(aI s x).node==(aI s e).node)<|aQ ((e:JD):Int).6;let l2:=xC (λl=>l.dst==e)<|s.lags.take d.vw.9;let l3:=b_ T.w;erw[bW,bz,C0,oQ]at l1 l2⊢;rw[cP];lia
 rw[aB];delta sP bW;rw[eV,b_ T.w,ir];rfl
def aag(he:e<Jb):x∈sP s e↔BS s e x:=by
 delta sP BS;simp;constructor
 .rintro (h|⟨l,⟨a,b⟩,c⟩)
  .show .inl h
  show .inr (l,a,c,b)
 rintro (h|⟨l,a,b,c⟩)
 .show .inl h
 show .inr (l,(a,c),b)
def dU s a:=if a= -1 then s.events.map λb=>I else iU s a.6
def c6 s a:(dU s a).9=s.events.9:=by
 delta dU;split
 .simp
 show Fx _ _
inductive wz K A(vs:Ju) H(Q:VK):Prop|mk S t s a(c:vs=[.ref t,.int a])(d:JO)(e:J6)(f: -1<=a)(g:a<(s.events.9:Int))(h:∀p b,az H b->H p=O->b p=Y (.lst ((dU s a).map V.bl))->Q JS b)
def al8{a b:Type}(l:UI)(x:b):cW l.9 x=l.map λc=>x:=by simp[List.map_const']
def yR{k:List Bool}(hi:i<k.9):(k.set i I).getD e au=I↔e=i\/k.getD e au=I:=by
 cases z:i=e
 .ext
 simp[z,mY z]
def ama{k:List Bool}:∀{i},k[i]?=Y au->(k.set i I).count au+1=k.count au:=by
 induction k with
 |nil=>intro i h;simp at h
 |cons a r b=>
  intro i h;cases i with
  |zero=>ext
  |succ i=>
   let:=b h;cases a<;>erw[aup]<;>simp<;>lia
def ny(H:Hp)(k w:ax):Nat:=match H k,H w with
 |some (.lst a),Y (.lst b)=>(a.count<|.bl au)*WN+b.9
 |c,d=>0
def Fy(k:List Bool):(k.map V.bl).count (V.bl au)=k.count au:=by induction k with|nil=>rfl|cons a r b=>cases a<;>simp[b]
def aah{i:JD}(h:(bW l)[i]?=Y v):∃n,l[i]?=Y n/\v=.int n:=by rw[c8]at h;induction e:l[i]?<;>ext
def L6 l:(bW l).dropLast=bW l.dropLast:=Jc
def Fz{l:ZR}(h:l[l.9-1]?=Y n)(a:x∈l):x=n\/x∈l.dropLast:=by
 haveI e:l=l.dropLast++[n]:=by
  haveI c:l≠[]:=by intro z;rw[z]at h;simp at h
  let b:=G5 c;rw[cy<|by grind]at h;rw[List.getLast_eq_getElem,bt h]at b;show b.3
 rw[e]at a;rcases dC.1 a with z|z
 .show .inr z
 show .inl<|by exists z
def BU(af:Jn):aK g 2 111 (wz Jj A):=by
 show aK.rd af 5 [0,1,90,8,1,90,8,0,90,90,0,91,0] (fc (al4 af) fz) (ay (a_ (aY<|ah dR Jl Q0) (aH<|ah yj (bx<|U (tC<|.bl I) aa)<|bA Qb<|U J3 aa) ba)<|ay (aP (ah yj (bx<|U (tC<|.bl au) aa)<|bA Qb<|U J3 aa) QQ)<|ay (aP (bx Qh) Zx)<|ay (r6 (aY<|ah Wq (bA Qb Zo) Jf)<|ay (aP (IG Jj "list" II JC) UN)<|a_ (jV<|tB<|ah Jq Jv Qi) (ay (aP (tC<|.bl I)<|vX Jv Qi v9)<|cG<|ff Jj "list" yi JC<|U (aN 2 (aaf Jj A)<|U Ji ZY) aa) ba)<|aH Jv) ?_;intro vs H Q i (S,t,s,a,rfl,(d,T),D,ha,as,k);let le:=b_ T.e;let av:=D.dr;let mm:=D.mm;show aT J4 λh=>?_
 .let h:a= -1:=by exists h
  subst h;show λl i=>(aG i _ _ Qm,.inl<|aq.of<|aG i _ _ Y7,Fu aB Ja Ja λp q=>k p _ ((aG i).trans<|aG q) ((aG i).free q) ?_);rw[aB];change Y (HO.lst<|cW d.ve.9<|V.bl I)=_
  rw[le,al8 s.8];simp[dU]
 let h:a≠ -1:=λz=>h (by rw[z];rfl)
 obtain⟨j,rfl⟩:∃n:Nat,a=n:=(a.6,Ja);let hg:j<s.events.9:=Ja
 let ek:dU s j=iU s j:=by delta dU;rw[aj h];rfl
 rw[ek]at k;show λl i=>(aG i _ _ Qm,.inl<|aq.of<|aG i _ _ Y7,Fu aB Ja Ja λkA ag=>?_);let R:az H (aA (aA H l<|.lst [.bl au]) kA<|.lst<|cW (d.ve.9:Int).6<|.bl au):=(aG i).trans<|aG ag;let fk:=(aG i).free ag;let E:aA (aA H l<|.lst [.bl au]) kA (.lst<|cW (d.ve.9:Int).6<|.bl au) kA=Y (.lst<|(cW Jb au).map V.bl):=by
  rw[aB,List.map_replicate,<-le];rfl
 generalize aA (aA H l<|.lst [.bl au]) kA (.lst<|cW (d.ve.9:Int).6 (.bl au))=H1 at R E⊢;show (λf F=>?_);let fw:=R.free F;let u:kA≠f:=λz=>by rw[z]at E;rw[E]at F;cases F
 show ye (λσ B=>E3 λx4 K c=>A10 (σ=[Y Zm,Y (.int j),Y (.ref kA),Y J7,x4]) (az H B) (B kA=Y (.lst (l7 V.bl K))) (B f=Y (.lst (bW c))) (K.9=Jb) ((∀e,K.getD e au=I->Reach s j e)) ((∀e∈c,Reach s j e/\e<Jb)) ((K.getD j au=I\/j∈c)) ((∀e x,K.getD e au=I->BS s e x->x<Jb->K.getD x au=I\/x∈c)) (c.9+40*K.count au<=WN))
  (λ_ B=>ny B kA f) (O,cW Jb au,[j],J,(R.trans (aG F)),by rw[aJ u];show E,aB,Jc,?_,?_,.inr Jc,?_,?_) ?_
 .intro e he;rw[jO,OX]at he;split at he<;>cases he
 .intro e he;let:e=j:=by exists he
  rw[this];show(.base,hg)
 .intro e x he;rw[jO,OX]at he;split at he<;>cases he
 .simp;lia
 intro σ m (x4,K,c,rfl,s3,L,C,X,i1,i2,i3,i4,i5);show(.inl (aq.of C),Jg)
 .let ai:0<c.9:=by
   exists h
  obtain⟨e,he⟩:∃e,c[c.9-1]?=Y e:=J8;let(re,ab):=i2 e (bM he);let lW:(bW c).9=c.9:=by simp[bW]
  show(.inl (J,_,aq.of C),f,_,.int e,J,J,C,by rw[lW];delta bW;rw[c8,he];rfl,?_);rw[L6];let N:aA m f (.lst (bW c.dropLast)) kA=Y (.lst (l7 V.bl K)):=by rw[aJ u];show L
  let s4:az H Zk:=bZ s3 fw;obtain⟨b,hb⟩:∃b,K[e]?=Y b:=J8;let al:K.getD e au=b:=fG hb;show⟨(aq.of N),(dI (by rw[c8,hb];rfl)),(aT (λao=>?_) λao=>?_)⟩
  .let ap:b=au:=by cases b<;>ext
   subst ap;show(kA,_,_,e,J,J,N,LU (by rw[bz];lia),?_);let s5:az H (aA Zk kA (.lst ((l7 V.bl K).set e (.bl I)))):=bZ s4 fk;let ac:aA Zk kA (.lst ((l7 V.bl K).set e (.bl I))) f=Y (.lst (bW c.dropLast)):=by rw[aJ u.3,aB]
   let ae:aA Zk kA (.lst ((l7 V.bl K).set e (.bl I))) kA=Y (.lst (l7 V.bl (K.set e I))):=by rw[aB,List.map_set]
   generalize aA Zk kA (.lst ((l7 V.bl K).set e (.bl I)))=H5 at s5 ac ae⊢;show(.inl (J,_,aq.of ac),S,t,s,e,J,(d,T.to s5),D,ab,λp H6 P aw h6=>?_);let hc:=ama hb;let lb:(sP s e).9<=40:=by
    delta sP;let l1:=xC (λx=>(aI s x).node==(aI s e).node) (aQ e);let l2:=xC (λl=>l.dst==e) UJ;erw[cE,bz,C0]at l1 l2⊢;lia
   let a0:c.dropLast.9=c.9-1:=Jc
   show(f,p,_,_,J,J,P _ _ ac,h6,by erw[bW,bz];rw[cP];lia,(_,K.set e I,c.dropLast++sP s e,J,bZ (s5.trans P) fw,by rw[aJ u];show P _ _ ae,by rw[aB];delta bW;rw[eV],by rw[C7,X],?_,?_,?_,?_,?_),?_)
   .intro x o;rcases (yR (by lia)).1 o with z|z
    .rw[z];show re
    show i1 x z
   .intro x o;rcases dC.1 o with z|z
    .show i2 x (as5 _ z)
    let am:=(aag ab).1 z;let an:x<s.events.9:=by
     rcases am with⟨h1,_⟩|⟨l,h1,h2,_⟩
     .lia
     let:=(D.wd l h1).1;lia
    show(.step re am an,an)
   .rcases i3 with z|z
    .show .inl ((yR Ja).2 (.inr z))
    rcases Fz he z with y|y
    .show .inl ((yR Ja).2 (.inl y))
    show .inr (nL _ y)
   .intro x y o q hy;rcases (yR (by lia)).1 o with z|z
    .rw[z]at q;show .inr (mJ _ ((aag ab).2 q))
    rcases i4 x y z q hy with w|w
    .show .inl ((yR Ja).2 (.inr w))
    rcases Fz he w with v|v
    .show .inl ((yR Ja).2 (.inl v))
    show .inr (nL _ v)
   .rw[cE];lia
   change ny _ kA f<ny _ kA f
   let c1:ny m kA f=K.count au*WN+c.9:=by delta ny;rw[L,C];erw[Fy];rw[lW]
   let c2:ny (aA H6 f (.lst (bW c.dropLast++bW (sP s e)))) kA f=(K.set e I).count au*WN+(c.dropLast.9+(sP s e).9):=by
    delta ny;rw[aJ u,P _ _ ae,aB];erw[Fy];simp[bW]
   rw[c1,c2];lia
  let ar:b=I:=by cases b<;>ext
  subst ar;show((_,K,c.dropLast,J,s4,N,aB,X,i1,λx o=>i2 x (as5 _ o),?_,?_,?_),?_)
  .rcases i3 with z|z
   .show .inl z
   rcases Fz he z with y|y
   .rw[y];show .inl al
   show .inr y
  .intro x y o q hy;rcases i4 x y o q hy with w|w
   .show .inl w
   rcases Fz he w with v|v
   .rw[v];show .inl al
   show .inr v
  .let:c.dropLast.9=c.9-1:=by simp
   lia
  let c1:ny m kA f=K.count au*WN+c.9:=by delta ny;rw[L,C];erw[Fy];rw[lW]
  let c2:ny Zk kA f=K.count au*WN+c.dropLast.9:=by
   delta ny;rw[N,aB];erw[Fy];simp[bW]
  change ny _ kA f<ny _ kA f
  rw[c1,c2];let:c.dropLast.9=c.9-1:=Jc
  lia
 let ai:c=[]:=by
  let h:¬(0:Int) <((bW c).9:Nat):=λz=>h (cn z)
  simp[bW]at h;show h
 subst ai;show (k kA m s3 fk ?_);rw[L,al2 hg X λe=>(i1 e,λr=>?_)];induction r with|base=>show i3.elim id λz=>by simp at z|step r1 r2 r3 ih=>show (i4 _ _ ih r2 r3).elim id λz=>by simp at z
def bQ(ns:List t9):=ns.foldl (λsc n=>o7 (o7 sc n.lo.num.6) n.hi.num.6) 1
def lcm_pos(c:0<a)(d:0<b):=Nat.lcm_pos c d
def L7:o7 a b<=a*b:=afd _ _
def L8 ns n:bQ (ns++[n])=o7 (o7 (bQ ns) n.lo.num.6) n.hi.num.6:=by delta bQ;ext
theorem aai:∀k ns,ns.9=k->(∀n∈ns,fM n.lo/\fM n.hi)->0<bQ ns/\bQ ns<=10^(12*k)
 |0,ns,h,l=>by
  let:ns=[]:=asd h;subst this;decide
 |k+1,ns,h,a=>by
  obtain⟨ms,n,rfl⟩:∃ms n,ns=ms++[n]:=(ns.dropLast,ns.getLast<|by grind,(G5 _).3);let(e,b):=aai k ms (by exists h) λm c=>a m<|nL _ c
  let((f,g,_),(i,j,_)):=a n Jc;rw[L8];ext;let d:o7 (o7 (bQ ms) n.lo.num.6) n.hi.num.6<=10^(12*k)*10^6*10^6:=eO L7<|f7 (eO L7<|f7 b Ja) Ja;show eO d<|P5 ?_;rw[<-afM,<-afM];congr 1
def L9(d:ns.9<=6)(a:∀n∈ns,fM n.lo/\fM n.hi):0<bQ ns/\bQ ns<=10^72:=by let(b,c):=aai ns.9 ns J a;show(b,eO c<|zN Je Ja)
def amb:10^72<2^240:=Jc
def fV(a:J6):0<bQ s.7/\bQ s.7<2^240:=by
 let(c,d):=L9 a.n6 λn b=>((a.rt n b).1,(a.rt n b).2.1)
 show(c,fP d amb)
inductive L_ K A(vs:Ju) H(Q:VK):Prop|mk a ps ns(b:ZC)(c:H a=Y (.lst (ps.map Qv)))(d:bw (iG K A H) ps ns)(e:ns.9<=6)(f:(∀n∈ns,fM n.lo/\fM n.hi))(g:Q (.int (bQ ns:JD)) H)
def aaj(d:Jn):aK g 3 112 (L_ Jj A):=by
 show aK.rd d 3 [0,0,1,3,0,1,3] (fc (akw d) fz) (ay (aP Jh Wv)<|ay (dc (gU Jj Ji) QQ<|ay (aP (aN 2 Ln<|U Jl<|U (ah JN (aD A.gF Jv "lowest") Jf) aa) Wv)<|aP (aN 2 Ln<|U Jl<|U (ah JN (aD A.gF Jv "highest") Jf) aa) Wv)<|aH Jl) ?_;intro vs H Q B (a,ps,ns,rfl,f,pr,C,h);show(a,J,(_,WG),k7 (λi b j=>∃c,b=[Y Jy,Y<|.int (bQ (ns.take i):Nat),c]/\j=H) (O,J,J) (λi b j _ (_,_,e)=>e▸aq.of f) ?_ ?_)
 .intro i x b o q (c,rfl,rfl);let(p,r,rfl):=sC q;let(n,k,D,nm,E,hi,l,F,s,t):=d7 pr r;let((u,L,_),v,N):=h n<|bM k;let(w,y):=L9 (ns:=ns.take i) (by rw[oQ];lia) λm z=>h m (List.take_subset _ _ z)
  let P:o7 (bQ<|ns.take i) n.lo.num.6<=10^72*10^6:=eO L7<|f7 y Ja;show(l,s,J,_,_,J,Ja,u,Ja,Ja,(l,t,J,_,_,J,?_,v,(by rw[ed];lia),Ja,?_))
  .let:=lcm_pos w (show 0<n.lo.num.6 by lia);exists this
  show(Y JS,?_,J);rw[take_snoc k,L8];rfl
 intro b o (c,rfl,rfl);rwa [bz,b_ pr,ir]
inductive Ma K(vs:Ju) H(Q:VK):Prop|mk z sc a x(b:vs=[.int z,.ref a,.int sc])(c:bR K H a [.int Yw,.int (x.den:JH)])(d:fM x)(e:z.5<2^WN)(f:0<=sc)(g:sc<2^2000)(h:Q (.int (z*Yh*(sc / Yw))) H)
def amc(c:a<2^m)(d:b<2^n):a*b<2^(m+n):=by rw[afM];show Nat.mul_lt_mul'' c d
def aak(e:Jn):aK g 1 113 (Ma Jj):=by
 show aK.rd e 3 [0,0,1,0,1] fz (aH<|ah Qp (ah Qp Ji<|ah JN Jl Jh)<|ah (rI uE wo) Jv<|ah JN Jl Jf) ?_;intro vs H Q i (z,sc,a,x,rfl,b,f,h,c,j,k);let(d,l,m,n):=f;show(b,J,(by lia,Ja),b,J,(d,Ja),(?_,?_),k)
 .rw[lU];let:z.5*(x.den:JH).5<2^(WN+WN):=amc h Ja;lia
 let o:(sc / Yw).5<=sc.5:=by
  let:=ae6 Yw c;let:=afe c<|ja d;lia
 lia
def fq(sc:JH)(n:t9)(gap:JH):SL:=Y ((gap+1)*n.lo.den*(sc / n.lo.num),(I))
def g9(sc:JH)(n:t9)(gap:JH):SL:=Y ((1-gap)*n.hi.den*(sc / n.hi.num),(I))
inductive wR K A(f:Int->t9->Int->SL)(vs:Ju) H(Q:VK):Prop|mk p n gap sc(b:vs=[.ref p,.int gap,.int sc])(c:iG K A H p n)(d:fM n.lo)(e:fM n.hi)(g:gap.5<=2^100)(h:0<=sc)(i:sc<2^2000)(j:∀v a,az H a->cS K a v (f sc n gap)->Q v a)
def Mb(a:Jn):aK g 2 114 (wR Jj A fq):=by show aK.rd a 3 [0,0,3] (fc (aak a) fz) (aH<|hZ<|U (aN 3 (Ma Jj)<|U (ah QN Jl Jh)<|U (aD A.gF Ji "lowest") Qg)<|U Q0 aa) ?_;intro vs H Q l (p,n,gap,sc,rfl,(m,nm,b,hi,c,o,d,r),e,s,f,h,i,k);show(c,_,sc,b,n.lo,J,d,e,fP (Int.natAbs_add_le _ _)<|fP (Nat.add_le_add_right f _) Jc,h,i,λq j=>k _ _ (aG j) (q,J,bR.of aB))
def aal(a:Jn):aK g 2 115 (wR Jj A g9):=by show aK.rd a 3 [0,0,3] (fc (aak a) fz) (aH<|hZ<|U (aN 3 (Ma Jj)<|U (ah Q4 Jh Jl)<|U (aD A.gF Ji "highest") Qg)<|U Q0 aa) ?_;intro vs H Q j (p,n,gap,sc,rfl,(l,nm,m,hi,b,o,r,c),s,d,e,f,h,k);show(b,_,sc,hi,n.hi,J,c,d,fP (Int.natAbs_sub_le _ _)<|fP (Nat.add_le_add_left e _) Ja,f,h,λq i=>k _ _ (aG i) (q,J,bR.of aB))
def yS kn sc n M i j gap:=gj kn (gj kn M i j<|fq sc n gap) j i<|g9 sc n gap
inductive Mc K A(vs:Ju) H(Q:VK):Prop|mk S p sc kn M np n i j gap(b:vs=[.ref p,.ref np,.int (de i),.int (de j),.int gap])(c:UP)(d:Qa)(e:iG K A S np n)(f:fM n.lo)(g:fM n.hi)(h:gap.5<=2^100)(k:0<=sc)(l:sc<2^2000)(m:i<=kn.9)(o:j<=kn.9)(q:∀a,az S a->dX K A S a p sc kn (yS kn sc n M i j gap)->Q .aW a)
def iG.sm{K}(h:iG K A H p n)(s:WE):=h.to (λb e=>s _ _ e)<|cg s
def aam(a:Jn):aK g 3 116 (Mc Jj A):=by show aK.rd a 5 [0,2,9,0,1,9] (mc a.iC.cl (wQ a)<|fc (aal a)<|fc (Mb a) fz) (ay (cG<|c5 ZO "tighten" 4 YG Ji<|U Jv<|U JC<|U (aN 3 (wR Jj A fq)<|U Jl<|U Qi<|U Ub aa) aa)<|cG<|c5 ZO "tighten" 4 YG Ji<|U JC<|U Jv<|U (aN 3 (wR Jj A g9)<|U Jl<|U Qi<|U Ub aa) aa) ?_;intro vs H Q C (S,p,sc,kn,M,np,n,i,j,gap,rfl,c,T,d,e,f,h,l,m,hi,o,k);let(D,E,r,F,q):=id T;show(q.top,q.top,np,n,gap,sc,J,d.sm c,e,f,h,l,m,λv L s b=>(S,p,sc,kn,M,i,j,v,_,J,c.trans s,T.to s,hi,o,b,λN t K u=>?_));let(P,R,X,ab,w):=id u;show(w.top,w.top,np,n,gap,sc,J,d.sm t,e,f,h,l,m,λv H3 x b=>(S,p,sc,kn,_,j,i,v,_,J,t.trans x,u.to x,o,hi,b,λy z K B=>k y z B))
def pM s kn sc(deaf:ZR) b M a:=
 let x:=aI s a
 let y:=aI s b
 if Ua≠y.node then M else
  let c:=gj kn M (b+1) (a+1) bp
  if x.10=y.10/\deaf.contains Ua=au then yS kn sc (aS s Ua) c (a+1) (b+1) ((y.11:Int)-(x.11:Int)) else c
def yT s kn sc deaf M b:=(aQ b).foldl YZ M
def wU s kn sc deaf M:=(aQ Jb).foldl Yn M
def amd n l:D1 (.int (n:JD)) (bW l)=l.contains n:=by
 delta D1 bW;rw[List.any_map];induction l with
 |nil=>rfl
 |cons a r b=>
  rw[ke];congr 1;change ((a:JH)==(n:JH))=(n==a)
  lia
def ame l:(bW l).all r_=I:=by rw[List.all_map];show mL.2 λa a=>rfl
def j3{b:Type} f(a:b) n:(aQ<|n+1).foldl f a=f ((aQ n).foldl f a) n:=by rw[oR,zR];rfl
inductive Md K A(vs:Ju) H(Q:VK):Prop|mk S b p sc kn M t s lo deaf(c:vs=[.ref p,.ref t,.ref lo])(d:UP)(e:Qa)(f:c9 K A b S t s)(g:J6)(h:S lo=Y (.lst (bW deaf)))(i:0<=sc)(j:sc<2^2000)(k:kn.9=Jb)(l:∀a,az S a->dX K A S a p sc kn (wU s kn sc deaf M)->Q .aW a)
def aan(q:Jn):aK g 4 117 (Md Jj A):=by
 show aK.rd q 8 [3,8,2,0,8,0,4,4,1,0,4,4,0,4,0,4,4,0,0,8,4] (fc (aam q)<|mc q.iC.cl (wQ q) fz) (dc (jc Jj<|U (aD A.bT Jl "events") aa) Ql<|dc (kZ Zo) Ww<|ay (aP (ah Jq (aD A.bT Jl "events") Q6)<|aC 6)<|ay (a_ (aY<|ah iS (aD WX W6 "node")<|aD WX Qi "node") AD ba)<|ay (cG<|c5 ZO "tighten" 4 YG Ji<|U JC<|U Q6<|U Zu aa)<|a_ (jb (aY<|ah dR (aD WX W6 "run")<|aD WX Qi "run")<|aY<|ah (SF Jj I) (aD WX W6 "node") Jv) (ay (aP (ah Q4 (aD WX Qi "reading")<|aD WX W6 "reading")<|aC 7)<|cG<|aN 5 (Mc Jj A)<|U Ji<|U (ah Jq (aD A.bT Jl "nodes")<|aD WX W6 "node")<|U Q6<|U JC W8) ba) ?_;intro vs H Q hl (S,S0,p,sc,kn,M,t,s,D,deaf,rfl,E,T0,(d,T),w,ab,h0,hs,ai,k);let al:=w.dr;show(E _ _ Qm,d.le,_,J,aq.of<|E _ _ Y7,lh (λb e m=>E5 λF L f i j=>A3 (e=[Y JS,Y Zm,Y Ys,F,L,f,i,j]) (az S m)<|dX Jj A S m p sc kn<|(aQ b).foldl Yn M) (O,O,O,O,O,J,E,T0) (λb e m _ (_,_,_,_,_,_,r,_)=>aq.of<|r _ _ Y7) ?_ ?_)
 .intro b v e B Tp hv (F,L,f,i,j,rfl,r,C) ac;let(y,N,py,am,rfl,P):=d7 T.e hv;let hb:=(cU.1 N).1;let n1:az B (aA B Tp<|.tup [.int b,.ref py]):=aG ac;show(_,J,Ja,Ja,pj (λa e m=>E3 λf i j=>A3 (e=[Y JS,Y Zm,Y Ys,Y<|.int b,Y<|.ref py,f,i,j]) (az S m)<|dX Jj A S m p sc kn<|(aQ a).foldl YZ<|(aQ b).foldl Yn M) (f,i,j,J,r.trans n1,C.to n1) ?_ ?_)
  .intro a e H2 ha (f,i,j,rfl,l,o);obtain⟨x,R⟩:∃x,s.8[a]?=Y x:=J8;let(vx,ae,px,an,rfl,u):=eS T.e R;let step:(aQ<|a+1).foldl YZ ((aQ b).foldl Yn M)=pM s kn sc deaf b ((aQ a).foldl YZ<|(aQ b).foldl Yn M) a:=j3 _ _ _;generalize (aQ a).foldl YZ ((aQ b).foldl Yn M)=M2 at o step;conv at step=>rhs;unfold pM
   erw[nu R,nu N]at step;show(l _ _ Qm,aq.of<|l _ _ Y7,fU (by change (0:Int)+a=_;lia) ae,l _ _ u,l _ _ P,Jg)
   .let h:Ua≠y.node:=by
     intro z;rw[z]at h;simp at h
    rw[ak h]at step;rw[step];show(_,_,_,J,l,o)
   let h:Ua=y.node:=by
    lia
   rw[aj<|by simp[h]]at step;let(ao,ap,r2,ar,af):=id o;show(af.top,S,p,sc,kn,M2,b+1,a+1,_,bp,by simp[de],l,o,Ja,Ja,(A.gw,J,q.qK H2),λH3 c K X=>?_);show(c _ _ u,c _ _ P,Zv)
   .let h':x.10=y.10:=by
     lia
    show(c _ _ u,D,bW deaf,J,.inl<|aq.of<|c _ _ ab,J,ame deaf,?_);rw[amd];let(e1,e2):=w.ev x<|bM R;let(f1,f2):=w.ev y (bM N);obtain⟨n,hn⟩:∃n,s.7[Ua]?=Y n:=(_,cy e1);let(pn,ag,hN):=eS T.n hn;let rt:=w.rt n (bM hn);show aT (λhd=>?_) λhd=>?_
    .let hd:deaf.contains Ua=au:=by exists hd
     rw[ak (h',hd),uS hn]at step;show(c _ _ P,c _ _ u,c _ _ Qm,c _ _ u,(aq.of (c _ _ YY)),(dI (by rw[c8,ag];rfl)),S,p,sc,kn,_,pn,n,a+1,b+1,y.11-x.11,?_,c,X,hN,rt.1,rt.2.1,Ja,h0,hs,Ja,Ja,λH4 s4 T4=>?_)
     .simp[de]
     rw[step];show(_,_,_,J,s4,T4)
    let hd:¬deaf.contains Ua=au:=λz=>hd (by rw[z];rfl)
    rw[aj (λz=>hd z.2)]at step;rw[step];show(_,_,_,J,c,X)
   let h':x.10≠y.10:=λz=>h' (by rw[z];simp)
   rw[aj (λz=>h' z.1)]at step;rw[step];show(_,_,_,J,c,X)
  intro e H2 (f,i,j,rfl,l,o);show(_,_,_,_,_,J,l,?_);rw[j3];show o
 intro e B (F,L,f,i,j,rfl,r,C);rw[(b_ T.e)]at C;show k B r C
def yU kn sc M(i j a:JD)(hi:Uw):=
 gj kn (match hi with
  |some h=>gj kn M i j (Y ((h:JH)*sc,(au)))
  |none=>M) j i (Y (0-(a:JH)*sc,(au)))
inductive Me K A(vs:Ju) H(Q:VK):Prop|mk S p sc kn M i j(lo:JD) hi(b:vs=[.ref p,.int (de i),.int (de j),.int (lo:JH),.int (mI hi)])(c:UP)(d:Qa)(e:i<=kn.9)(f:j<=kn.9)(g:lo<=Jk)(h:ox hi)(k:0<=sc)(l:sc<2^2000)(m:∀a,az S a->dX K A S a p sc kn (yU kn sc M i j lo hi)->Q .aW a)
def aao{sc:JH}(a:0<=sc)(b:sc<2^2000):sc.5<2^4000:=Ja
def yV(h:n<=Jk):((n:JD):Int).5<2^4000:=Ja
def amf(d:Jn):aK g 3 118 (Me Jj A):=by
 show aK.rd d 5 [0,0,0,9,0,0,0,9] (mc d.iC.cl (wQ d) fz) (ay (a_ (aY<|ah iS Qi Q0) (cG<|c5 ZO "tighten" 4 YG Ji<|U Jl<|U Jv<|U (hZ<|U (ah Qp Qi Ub)<|U (tC<|.int<|0) aa) aa) ba)<|cG US) ?_;intro vs H Q P (S,p,sc,kn,M,i,j,e,hi,rfl,o,T,s,t,B,C,u,v,k);let key:∀b c,az S c->dX Jj A S c p sc kn b->(∀f,az S f->dX Jj A S f p sc kn (gj kn b j i<|Y (0-e*sc,(au)))->Q .aW f)->
   cG US Yy [Y JS,Y<|.int<|de i,Y<|.int<|de j,Y<|.int e,Y<|.int<|mI hi] c:=by
  intro b c D w E;let(F,L,r,N,x):=id w;show(x.top,x.top,(yV B,aao u v),λq a=>(S,p,sc,kn,b,j,i,_,Y (0-e*sc,(au)),J,D.trans<|aG a,w.to<|aG a,t,s,(q,J,bR.of aB),λl m K n=>E l m n))
 let(F,L,r,N,y):=id T;cases hi with
 |none=>
  show key M H o T k
 |some h=>
  show aT (λK=>?_) λz=>?_
  .show(y.top,y.top,(yV<|C h J,aao u v),λq a=>(S,p,sc,kn,M,i,j,_,Y (h*sc,(au)),J,o.trans<|aG a,T.to<|aG a,s,t,(q,J,bR.of aB),λl m K n=>?_));show key _ l m n k
  exfalso;apply z;simp[mI]
def qP kn sc(ls:List Q_) M:=ls.foldl (λM l=>yU kn sc M (l.src+1) (l.dst+1) l.lo l.hi) M
def sQ kn sc(ms:List PZ) M:=ms.foldl (λM m=>yU kn sc M 0 (m.ev+1) m.lo m.hi) M
def FC n(ls:List Q_):=∀l∈ls,l.src<n/\l.dst<n/\l.lo<=Jk/\ox l.hi
def FD n(ls:List PZ):=∀m∈ls,m.ev<n/\m.lo<=Jk/\ox m.hi
inductive Mf K A(vs:Ju) H(Q:VK):Prop|mk S p sc kn M a b vw vm ls ms(d:vs=[.ref p,.ref a,.ref b])(e:UP)(f:Qa)(g:S a=Y (.lst vw))(h:bw (sF A S) vw ls)(i:S b=Y (.lst vm))(j:bw (sG A S) vm ms)(k:FC kn.9 ls)(l:FD kn.9 ms)(m:0<=sc)(n:sc<2^2000)(o:∀c,az S c->dX K A S c p sc kn (sQ kn sc ms (qP kn sc ls M))->Q .aW c)
def Mh{b c:Type} f(a:b){l:List c}{x}(h:l[i]?=Y x):(l.take JK).foldl f a=f ((l.take i).foldl f a) x:=by rw[take_snoc h,zR];rfl
def aap(v:Jn):aK g 4 119 (Mf Jj A):=by
 show aK.rd v 5 [0,0,5,5,5,5,0,0,6,6,6] (fc (amf v) fz) (ay (dc (gU Jj Jl) Zx<|cG<|aN 5 (Me Jj A)<|U Ji<|U (aD A.j0 JC "source")<|U (aD A.j0 JC "goal")<|U (aD A.j0 JC "least")<|U (aD A.j0 JC "greatest") aa)<|dc (gU Jj Jv) UN<|cG<|aN 5 (Me Jj A)<|U Ji<|U Q0<|U (aD A.pG Qi "event")<|U (aD A.pG Qi "first")<|U (aD A.pG Qi "latest") aa) ?_;intro vs H Q h (S,p,sc,kn,M,a,b,vw,vm,ls,ms,rfl,w,T,y,z,B,C,F,L,D,E,k);show(a,J,(_,aq.of<|w _ _ y),k7 (λi c f=>∃n,A3 (c=[Y JS,Y Jy,Y WO,n,O]) (az S f)<|dX Jj A S f p sc kn<|qP kn sc (ls.take i) M) (O,J,w,T) (λi c f _ (_,_,d,_)=>aq.of<|d _ _ y) ?_ ?_)
 .intro i x c N q (n,rfl,d,o);let(l,h,pl,P,rfl,hpl):=d7 z q;let(R,l2,r,s):=F l<|bM h;let e:=d _ _ hpl;show(e,e,e,e,S,p,sc,kn,_,l.src+1,l.dst+1,l.lo,l.hi,by simp[de],d,o,Ja,Ja,r,s,D,E,λt j m=>(_,J,j,?_));delta qP;rwa [Mh _ _ h]
 intro c N (n,rfl,d,o);rw[b_ z,ir]at o;show(b,J,(_,aq.of<|d _ _ B),k7 (λi c f=>∃u,A3 (c=[Y JS,Y Jy,Y WO,n,u]) (az S f)<|dX Jj A S f p sc kn<|sQ kn sc (ms.take i)<|qP kn sc ls M) (O,J,d,o) (λi c f _ (_,_,d,_)=>aq.of<|d _ _ B) ?_ ?_)
 .intro i x c t q (u,rfl,j,m);let(l,h,pl,P,rfl,hpl):=d7 C q;let(R,r,s):=L l<|bM h;let e:=j _ _ hpl;show(e,e,e,S,p,sc,kn,_,0,l.ev+1,l.lo,l.hi,by simp[de],j,m,Ja,Ja,r,s,D,E,λH3 X T3=>(_,J,X,?_));delta sQ;rwa [Mh _ _ h]
 intro c t (u,rfl,j,m);rw[b_ C,ir]at m;show k t j m
def gO s kn deaf:=sQ kn (bQ s.7:Nat) UT<|qP kn (bQ s.7:Nat) UJ<|wU s kn (bQ s.7:Nat) deaf<|uW YM
def FF(a:J6):0<=((bQ s.7:Nat):Int)/\((bQ s.7:Nat):Int) <2^2000:=by let(b,c):=fV a;lia
theorem aV.lags(a:J6):FC Jb s.lags:=λl b=>((a.wd l b).1,(a.wd l b).2.1,(a.wd l b).2.2.2.1,(a.wd l b).2.2.2.2)
theorem aV.marks(a:J6):FD Jb s.marks:=λl b=>a.mo l b
inductive FH K A(vs:Ju) H(Q:VK):Prop|mk b t s k kn lo deaf(c:vs=[.ref t,.ref k,.ref lo])(d:c9 K A b H t s)(e:J6)(f:H k=Y (.lst (l7 V.bl kn)))(g:kn.9=Jb)(h:H lo=Y (.lst (bW deaf)))(i:∀p a,H p=O->az H a->dX K A H a p (bQ s.7:Nat) kn UW->Q JS a)
def Mi(c:Jn):aK g 5 120 (FH Jj A):=by show aK.rd c 4 [2,3,8,1,0,8,8] (fc (aap c)<|fc (aan c)<|kc (LY c)<|fc (aaj c) fz) (ay (aP (fJ (By Jj A)<|U (aN 1 (L_ Jj A)<|U JU aa) Qh) Zx)<|ay (cG<|aN 3 (Md Jj A)<|U JC<|U Ji Qg)<|ay (cG<|aN 3 (Mf Jj A)<|U JC<|U ZQ<|U ZW aa)<|aH JC) ?_;intro vs H Q B (l,t,s,kA,kn,m,deaf,rfl,T,b,o,e,q,k);let(d,a):=id T;let(h,i):=FF b;let C:=b.dr;show(a.top,d.ln,d.ns,s.7,J,a.nl,a.n,b.n6,λn j=>((b.rt n j).1,(b.rt n j).2.1),_,kA,kn,J,o,Ja,λp D r u v=>(H,l,p,_,kn,_,t,s,m,deaf,J,u,v,T,b,q,h,i,e,λE f w=>(f _ _ a.top,f _ _ a.top,H,p,_,kn,_,d.lw,d.lm,d.vw,d.vm,UJ,UT,J,f,w,a.wl,a.w,a.ml,a.m,e▸b.lags,e▸b.marks,h,i,λx y z=>k p x r y z)))
def dX.ext{K M}(T:Qa)(c:UP)(he:H e=O):dX K A (aA S e o) (aA H e o) p sc kn M:=by
 let(d,k,r,f,T):=T;let a:=T.to<|aG (o:=o) he;show(d,k,r,f,a.top,by rw[aJ<|dH (c _ _ T.hk) he];show T.hk,a.gG,λz b=>?_,T.sq,T.len);haveI g:z≠e:=λy=>by
  let(i,hi):=kL b;let(_,_,_,h):=d7 T.gG.rows hi;lia
 rw[aJ g];show T.fr z b
def amg(c:UP):az (aA S e o) (aA H e o):=λz u a=>by
 cases b:z=e
 .rw[b,aB]at a⊢;show a
 rw[aJ b]at a⊢;show c _ _ a
def jF s ls ms:=sQ (dU s<|-1) (bQ s.7:Nat) ms<|qP (dU s<|-1) (bQ s.7:Nat) ls<|wU s (dU s<|-1) (bQ s.7:Nat) []<|uW QL
inductive aaq K A(vs:Ju) H(Q:VK):Prop|mk e t s a b vw vm ls ms(f:vs=[.ref t,.ref a,.ref b])(g:c9 K A e H t s)(h:J6)(i:H a=Y (.lst vw))(j:bw (sF A H) vw ls)(k:H b=Y (.lst vm))(l:bw (sG A H) vm ms)(m:FC Jb ls)(n:FD Jb ms)(o:∀p c d,H p=O->az H c->az c d->dX K A c d p (bQ s.7:Nat) (dU s (-1)) (jF s ls ms)->Q JS d)
def amh(f:Jn):aK g 5 121 (aaq Jj A):=by show aK.rd f 4 [2,4,8,3,1,0] (fc (aap f)<|fc (aan f)<|kc (LY f)<|fc (BU f)<|fc (aaj f) fz) (ay (aP (fJ (By Jj A)<|U (aN 1 (L_ Jj A)<|U JU aa)<|U (aN 2 (wz Jj A)<|U Ji<|U Q0 aa) aa) Zx)<|ay (cG<|aN 3 (Md Jj A)<|U JC<|U Ji<|U Z1 aa)<|ay (cG<|aN 3 (Mf Jj A)<|U JC<|U Jl Qg)<|aH JC) ?_;intro vs H Q hl (r,t,s,a,b,vw,vm,ls,ms,rfl,T,c,B,C,D,E,F,L,k);let(d,l):=id T;let(u,v):=FF c;let ab:=c.dr;let i:=WA;show(l.top,d.ln,d.ns,s.7,J,l.nl,l.n,c.n6,λn w=>((c.rt n w).1,(c.rt n w).2.1),r,t,s, -1,J,T,c,Ja,Ja,λkA j m fk N=>(_,kA,_,J,N,Ja,λp H2 P q R=>λe he=>?_));let y:az j (aA j e Jx):=aG<|q.free he;let z:=R.ext (o:=Jx) q he;rw[i]at z;show(aA j e Jx,r,p,_,_,_,t,s,e,[],J,amg q,z,T.to<|m.trans y,c,aB,u,v,i,λH4 S X=>?_);let h:=m.trans y;show(aA j e Jx,p,_,_,_,a,b,vw,vm,ls,ms,J,S,X,h _ _ B,dk (λK K x=>x.to λK K K e=>h _ _ e) C,h _ _ D,dk (λK K x=>x.to λK K K e=>h _ _ e) E,i▸F,i▸L,u,v,λH5 s5 T5=>k p _ H5 (m.free P) h s5 T5)
def jG k(M:JY):=M.map λr=>r.map<|uL k
inductive aar K A(vs:Ju) H(Q:VK):Prop|mk S p sc kn M f(c:vs=[.ref p,.int f])(d:UP)(e:Qa)(g:Sm sc)(h:Sm f)(i:(∀r∈M,∀l∈r,∀a∈l,Sm a.1))(j:kn.9<=100)(k:∀q b,H q=O->az H b->dX K A H b q (sc*f) kn (jG f M)->Q Wm b)
def ami(u:Jn):bI g 3 "finer_steps" ["steps","factor"] (aar Jj A):=by
 show bI.of (u.f 60) yD akd (ake u (ak1 u)<|LY u) ?_;intro vs H Q w (S,p,sc,kn,M,f,rfl,ss,T,an,hf,hM,ao,k);let(dx,kA,r,rs,a):=id T;let lM:=a.len;show(a.top,(an,hf),a.top,_,kA,kn,J,ss _ _ a.hk,ao,λq H1 hq B T1=>?_);let(ae,af,r1,a2,ag):=id T1;let C:=a.gG.to B;show(B _ _ a.top,r,J,(_,aq.of C.top),λD X=>yN X (λj H' o=>∃ps:List ax,o=ps.map Qv/\bw (fm Jj H') ps (jG f<|M.take j)/\ps.Nodup/\D∉ps/\(∀b∈ps,H1 b=O)) ([],J,.nil,xK,Jc,Jc) (aq.of C.top) ?_ ?_)
 .intro j x H2 o hx F d ap (ps,rfl,s,p2,L,p4);let h:=il X F;let(ra,ar,rfl):=sC hx;let(row,N,vr,as,ai):=d7 C.rows ar;let hj:=(cU.1 N).1;let a3:=a.sq row<|bM N;let al:=h _ _ as;show uV (ra,J,(_,aq.of al),λE n=>yN n (λc H' o=>bw (cS Jj H') o<|(row.take c).map<|uL f) .nil (aq.of al) ?_ ?_)
  .intro c y H3 zs av P hz aw pz;let t:=il n P;let(l,w,a0):=d7 ai av;let hc:=(cU.1 w).1;show uV (y,l,f,J,(cS.to a0<|cg h).to<|cg t,hM row (bM N) l<|bM w,hf,λv H4 s4 a1=>?_);let ab:=s4 _ _ hz;apply qO P aw Ja (mj s4) ab;rw[take_snoc w,eV];show ot (lF (lF pz<|cg s4)<|cY.lst ab)<|cS.to a1<|cY.lst ab
  intro H3 zs P hz pz;let t:=il n P;rw[b_ ai,ir]at pz;let ac:=t _ _ d;haveI am:D≠E:=λz=>by rw[z,n]at d;cases d
  show qO F ap Ja (mj t) ac (ps++[E],by rw[eV];rfl,?_,?_,?_,?_)
  .delta jG;rw[take_snoc N,eV];show yA (sA ac qM (dk (λK K x=>x.to t) s) L)<|.cons (fm.wJ (zs,hz,pz) ac qM am.3) .nil
  .show wc p2 λz=>?_
   let(i,hi):=kL z;let(_,_,_,e):=d7 s hi;rw[n]at e;cases e
  .erw[dC,fZ,not_or];show(L,am)
  intro b hb;rcases dC.1 hb with z|z
  .show p4 b z
  haveI e:b=E:=by exists z
  rw[e];show h.free n
 intro H2 o F d (ps,rfl,s,p2,L,p4);let h:=il X F;rw[bz,b_ C.rows,ir]at s;let R:=h _ _ ag.top;show(R,(by change 3<WN;decide),?_);haveI nq:D≠q:=eK d R (by intro z;cases z);let sH:az H (aA H2 q<|.ins ZO ae<|bD "rows" (V.ref D)<|LW (sc*f) af r1):=bZ (B.trans h) hq;show k q _ hq sH (ae,af,D,ps,(by rw[aB];rfl),ag.hk,(by rw[aJ nq];show d,?_,p2,L),λb hb=>B.free<|p4 b hb,?_,?_)
 .show dk (fun b m (vs,h1,h2)=>(vs,?_,lF h2<|cY.ins R)) s;rw[aJ<|eK h1 R (by intro z;cases z)];show h1
 .intro r hr;delta jG at hr⊢;let(x,hx,rfl):=eJ.1 hr;rw[bz,bz];show a.sq x hx
 delta jG;rw[bz,lM]
def bN M:=(aQ M.9).any λu=>cA (aF M u u) bp
inductive aas K(vs:Ju) H(Q:VK):Prop|mk a b M(c:ZC)(d:eF K H a b M)(e:gi M)(f:M.9<=WN)(g:Q (.bl (bN M)) H)
def Ml{K M}(h:eF K H a c M)(g:gi M)(hi:i<M.9)(o:j<M.9):∃q vs v,c[i]?=Y q/\(c.map Qv)[i]?=Y Wm/\H q=Y YK/\vs[j]?=Y v/\cS K H v (aF M i j):=by
 obtain⟨row,b⟩:∃row,M[i]?=Y row:=(_,cy hi);let(q,d,vs,k,pv):=eS h.rows b;let p:=g row<|bM b;obtain⟨l,f⟩:∃l,row[j]?=Y l:=J8;let(v,m,n):=eS pv f;haveI e:aF M i j=l:=by delta aF;rw[fG b,fG f]
 show(q,vs,v,d,by rw[c8,d];rfl,k,m,e▸n)
def amj(h:∀u,u<i->p u=au)(hi:i<n)(a:p i=I):(aQ n).any p=I:=by rw[lT];show(i,cC.2 hi,a)
def amk(h:∀u,u<n->p u=au):(aQ n).any p=au:=by ext
def aml(d:Jn):aK g 2 105 (aas Jj):=by
 show aK.rd d 2 [2,90,0,0,0] (fc (yG d) fz) (ay (dc (kZ<|U JJ aa) Wv<|a_ (tB<|aN 2 (wI Jj)<|U (ah Jq (ah Jq Ji Jl) Jl)<|U Zu aa) (aH<|tC<|.bl I) ba) WJ) ?_;intro vs H Q x (a,n,M,rfl,c,o,y,k);let B:=b_ c.rows;let l:(((n.map Qv).9:Nat):Int).6=M.9:=by ext
 show(.inl<|aq.of c.top,_,J,Ja,by rw[bz];lia,pj (λi f p=>∃j,A3 (f=[Y Jy,j]) (p=H) (∀u,u<i->cA (aF M u u) bp=au)) (O,J,J,Jc) ?_ ?_)
 .intro i f m hi (j,rfl,rfl,b);rw[l]at hi;let(q,vs,v,C,r,s,t,w):=Ml c o hi hi;show(aq.of c.top,fU Ja r,aq.of s,fU Ja t,v,_,_,bp,J,w,(A.gw,J,d.qK m),Jg)
  .let e:bN M=I:=amj b hi h;rwa [e]at k
  show(_,J,J,λu D=>?_);cases z:u=i
  .rw[z];exists h
  show b u Ja
 intro f m (j,rfl,rfl,b);rw[l]at b;let e:bN M=au:=amk b;rwa [e]at k
def bE(sc:JD):SL->Aa|none=>O|some a=>Y {v:=cK a.1 sc,isOpen:=a.2}
abbrev sR(l:SL):=∀a,l=Y a->a.1.5<2^1900
inductive FI K vs H Q:Prop|mk v l sc(a:vs=[v,.int (sc:JH)])(b:cS K H v l)(c:sR l)(d:Yi)(e:sc<2^1900)(f:iD H (p_ (bE sc l)) Q)
def amm:(rL x).9=(nM x).9+1:=by delta rL atM VbdtCore.ints;simp
def Mm(h:n<2^k):(oO n).9<=k+2:=by
 delta oO;split
 .simp
 rename_i b;ext;delta OZ;ext;let:∀(f m:Nat),(rF 10 f m).9<=f:=by
  intro f;induction f with
  |zero=>intro m;simp[rF]
  |succ f c=>
   intro m;delta rF;split
   .simp
   ext
 let d:=this (xD n) n;let e:xD n<=k+2:=by
  delta xD;cases a:0<k
  .let:=log2_lt h a;lia
  lia
 lia
def amn(h:z.5<2^k):(tW z).9<=k+3:=by
 delta tW;split
 .let:=Mm h;simp;lia
 let:z.6<2^k:=Ja
 let:=Mm this;lia
def yW(h:n.5<2^k)(a:sc<2^k):(rL<|cK n sc).9<=2*k+10:=by
 rw[amm];haveI b:(cK n sc).num.5<2^k:=by
  delta cK;split
  .show Nat.two_pow_pos k
  show fP (Xf _ _) h
 haveI c:(cK n sc).den<2^k\/(cK n sc).den=1:=by
  delta cK;split
  .right;rfl
  left;show fP (afd _ _) a
 delta nM;let d:=amn b;split
 .lia
 let:(cK n sc).den<2^k:=c.elim id λz=>absurd z ‹_›
 let e:=Mm this;simp;lia
def aat(d:Jn):aK g 3 102 (FI Jj):=by
 show aK.rd d 2 [1,0,1,0,1] (fc (Lo d) fz) (ay (a_ (tB<|gT Ji) (aH Zh) ba)<|aH<|ah ic (bx<|U (rZ (aY<|ah dR (ah JN Ji Jh)<|tC<|.int<|0) Jh<|tC<|.int 2) aa)<|aN 2 ET<|U (ah JN Ji Jf) Qh) ?_;intro vs H Q s (v,l,sc,rfl,e,i,t,j,k);cases l with
 |none=>
  cases e;show λp b=>k p _ (aG b) b aB
 |some x=>
  let(n,o):=x;let(a,rfl,q):=e;let f:n.5<2^1900:=i _ J;cases o;all_goals
   show(q,J,λp b=>(cN (cg<|aG b) q,J,n,sc,J,Ja,f,Ja,λu w c f2 m=>(c _ _ aB,m,?_,λr h=>k r _ (((aG b).trans c).trans<|aG h) (((aG b).trans c).free h) ?_)))
   .let:=yW f j;rw[cP];simp;lia
   rw[aB];rfl
abbrev aau(p a:ax):List QD:=[(aZ "steps",(.ref p)),(aZ "limits",(.ref a))]
structure VA(K:bH)(A:Ad)(S H:Hp)(v p:ax)(sc:JH)(kn:List Bool)(M:JY)(dx a:ax)(as:Up):Prop where
 top:H v=Y (.ins Z3 dx<|aau p a)
 st:dX K A S H p sc kn M
 gG:eF K H a as JI
inductive i9 K A S H v p sc kn M:Prop|mk dx a as(b:VA K A S H v p sc kn M dx a as)
theorem VA.to{K M}(T:VA K A S H v p sc kn M b a as)(s:az H c):VA K A S c v p sc kn M b a as:=(s _ _ Qm,T.st.to s,T.gG.to s)
theorem i9.to{K M}(T:Zw)(s:az H b):i9 K A S b v p sc kn M:=by let(c,a,as,T):=T;show(c,a,as,T.to s)
def sS M:(aE M).9=M.9:=BI M M.9
def Mn{M}(h:gi M):gi JI:=Fd h _ JR
inductive yX K A(vs:Ju) H(Q:VK):Prop|mk S p sc kn M(b:vs=[.ref p])(c:Qa)(d:kn.9<=100)(e:∀v a,H v=O->az H a->i9 K A S a v p sc kn M->Q Uk a)
def BV(f:Jn):dP g 4 "View" Z3 ["self","steps"] (yX Jj A):=by
 show dP.rd f f.jf.at_ 2 [10,10,0,9] (fc (ak8 f) fz) (ay (cJ Z3 Ji Jl "steps")<|cJ Z3 Ji (aN 1 (XF Jj)<|U (aD ZO Jl "rows") aa) "limits") λvs H Q h x i d u z=>?_
 let(S,p,sc,kn,M,rfl,(v,k,r,j,T),B,w):=h;show(J,?_);let l:=bZ (o:=.ins Z3 i<|bD "steps" (V.ref p) []) (lC (C:=Z3) d u) d;let n:=T.to l;let D:=T.len;show(aB,Je,n.top,r,j,M,J,n.gG,T.sq,Ja,λa as E q F has c=>?_);let e:=q _ _<|aB;show(e,ji,J,?_);let s:=bZ (o:=.ins Z3 i<|bD "limits" (V.ref a)<|bD "steps" (V.ref p) []) (l.trans q) d;show w x _ d s (i,a,as,by rw[aB];rfl,(v,k,r,j,T.to s),(by rw[aJ<|eK c.top e Ja];show c.top,dk (fun b m (vs,t,y)=>(vs,?_,lF y<|cY.ins e)) c.rows,c.nd,c.na));rw[aJ<|eK t e Ja];show t
inductive sU K A(vs:Ju) H(Q:VK):Prop|mk S v p sc kn M i j(a:vs=[.ref v,.int (de i),.int (de j)])(b:Zw)(c:i<=kn.9)(d:j<=kn.9)(e:∀x,cS K H x (aF JI i j)->Q x H)
def FJ(b:Jn):gE g 1 Z3 "limit_between" ["self","source","goal"] (sU Jj A):=by show gE.rd b b.Ve 3 [0,0,10,0,0] fz (aH<|ah Jq (ah Jq (aD Z3 Ji "limits")<|ah QN Jl Jh)<|ah QN Jv Jh) ?_;intro vs H Q l (S,v,p,sc,kn,M,i,j,rfl,(m,a,as,T),hi,n,k);let(o,kA,r,s,c):=T.st;let t:=c.len;let(q,vs,x,u,d,e,f,h):=Ml (i:=i) (j:=j) T.gG (Mn c.sq) (by rw[sS];lia) (by rw[sS];lia);show(Qm,aq.of T.gG.top,fU (by delta de;lia) d,aq.of e,fU (by delta de;lia) f,k x h)
inductive uX K H(x:V) c d:Prop|mk a v1 b(e:x=.ref a)(f:bR K H a [v1,b])(g:cS K H v1 c)(h:cS K H b d)
theorem uX.to{K}(h:uX K H x b c)(s:az H d):uX K d x b c:=by let(a,v1,f,e,q,g,i):=h;show(a,v1,f,e,cN (cg s) q,g.to<|cg s,i.to<|cg s)
inductive FK K A(vs:Ju) H(Q:VK):Prop|mk S v p sc kn M i j(b:vs=[.ref v,.int (de i),.int (de j)])(c:Zw)(d:i<=kn.9)(e:j<=kn.9)(f:∀x a,az H a->uX K a x (iF (aF JI j i)) (aF JI i j)->Q x a)
def Mp(c:Jn):gE g 2 Z3 "bounds_between" ["self","source","goal"] (FK Jj A):=by show gE.rd c c.Vf 3 [1,0,0] (mc c.jf.cl (FJ c)<|fc (XC c) fz) (aH<|hZ<|U (aN 1 (Ly Jj)<|U (c5 Z3 "limit_between" 3 (sU Jj A) Ji<|U Jv Qh) aa)<|U (c5 Z3 "limit_between" 3 (sU Jj A) Ji<|U Jl Qg) aa) ?_;intro vs H Q o (S,v,p,sc,kn,M,i,j,rfl,T,hi,f,k);let(q,a,as,h):=id T;show(h.top,S,v,p,sc,kn,M,j,i,J,T,f,hi,λx l=>(x,_,J,l,λy r d m=>(d _ _ h.top,S,v,p,sc,kn,M,i,j,J,T.to d,hi,f,λz n=>λb e=>k _ _ (d.trans<|aG e) (b,y,z,J,bR.of aB,m.to<|cg<|aG e,n.to<|cg<|aG e))))
inductive pN K A(vs:Ju) H(Q:VK):Prop|mk S v p sc kn M(a:vs=[.ref v])(b:Zw)(c:kn.9<=100)(d:Q (.bl (bN JI)) H)
def sV(b:Jn):gE g 3 Z3 "contradicts" ["self"] YH:=by show gE.rd b b.Vg 1 [0,10] (fc (aml b) fz) (aH<|aN 1 (aas Jj)<|U (aD Z3 Ji "limits") aa) ?_;intro vs H Q d (S,v,p,sc,kn,M,rfl,(e,a,as,T),f,k);let(h,kA,r,i,c):=T.st;let j:=c.len;show(Qm,a,as,JI,J,T.gG,Mn c.sq,by rw[sS];lia,k)
inductive mn K A(vs:Ju) H(Q:VK):Prop|mk d t s a(e:vs=[.ref t,.int a])(f:c9 K A d H t s)(g:J6)(h: -1<=a)(i:a<(s.events.9:Int))(j:∀v p b c,H v=O->az H b->az b c->b p=O->i9 K A b c v p (bQ s.7:Nat) (dU s a) (gO s (dU s a) [])->Q Uk c)
def oz(b:Jn):aK g 6 128 (mn Jj A):=by show aK.rd b 2 [0,1,2] (kc (BV b)<|fc (Mi b)<|fc (BU b) fz) (aH<|fJ (yX Jj A)<|U (aN 3 (FH Jj A)<|U Ji<|U (aN 2 (wz Jj A)<|U Ji Qh)<|U Z1 aa) aa) ?_;intro vs H Q z (d,t,s,a,rfl,T,c,j,l,k);let m:=c6 s a;let B:=c.dr;show(d,t,s,a,J,T,c,j,l,λkA C f D n=>λe he=>(d,t,s,kA,dU s a,e,[],J,T.to<|f.trans<|aG he,c,aG he _ _ n,m,aB,λp E q h r=>(_,p,_,_,_,J,r,Ja,λv u w x y=>?_)));let i:=f.trans<|aG (o:=Jx) he;show k v p _ u ((i.trans h).free w) i (h.trans x) q y
def mq kn(a:ZR) c:=if (a.any λe=> !kP kn J5)=I then -6 else if c=I then -8 else 0
inductive qQ K A(vs:Ju) H(Q:VK):Prop|mk S v p sc kn M l a(b:vs=[.ref v,.ref l])(c:UP)(d:Zw)(f:kn.9<=100)(g:aq K H l (bW a))(h:(∀e∈a,e<kn.9))(i:Q (.int (mq kn a (bN JI))) H)
def uY(b:Jn):aK g 4 129 (qQ Jj A):=by
 show aK.rd b 3 [0,1,10,0] (mc b.jf.cl (sV b)<|mc b.iC.cl (Fw b) fz) (ay (dc (gU Jj Jl) QQ<|a_ (jV<|tB<|c5 ZO "is_known" 2 (yP Jj A) WL Qg) (aH<|tC<|.int<|-6) ba)<|ay (a_ (tB<|c5 Z3 "contradicts" 1 YH Ji aa) (aH<|tC<|.int<|-8) ba)<|aH Jf) ?_;intro vs H Q B (S,v,p,sc,kn,M,l,f,rfl,s,T,t,n,u,k);let(C,a,as,c):=id T;let(D,kA,r,E,w):=id c.st;show(l,J,(_,n),k7 (λi d o=>∃j,A3 (d=[Y Uk,Y<|.ref l,j]) (o=H) (∀x∈f.take i,(!kP kn (x+1))=au)) (O,J,J,Jc) (λi d o _ (_,_,e,_)=>e▸n) ?_ ?_)
 .intro i x d y z (j,rfl,rfl,q);let(e,he,rfl):=aah z;let F:=u e<|bM he;show(c.top,w.top,S,p,sc,kn,M,J5,by simp[de],s,c.st,Ja,Jg)
  .haveI m:mq kn f (bN JI)= -6:=by
    delta mq;rw[ak];rw[lT];show(e,bM he,h)
   rwa [m]at k
  show(_,J,J,sM q he Ja)
 intro d y (j,rfl,rfl,q);ext;haveI m:mq kn f (bN JI)=if bN JI=I then -8 else 0:=by
  delta mq;ext
 rw[m]at k;show(c.top,S,v,p,sc,kn,M,J,T,t,Jg)
 .rw[ak h]at k;show k
 rw[aj h]at k;show k
inductive Mq K vs H Q:Prop|mk x a b sc(c:vs=[x,.int (sc:JH)])(d:uX K H x a b)(e:sR a)(f:sR b)(g:Yi)(h:sc<2^1900)(i:iD H (p_ (bE sc a)++p_ (bE sc b)) Q)
def oA(h:sR l)(b:sc<2^1900):(p_<|bE sc l).9<=4000:=by
 cases l with
 |none=>show Nat.le_of_ble_eq_true J
 |some a=>
  let:=yW (h _ J) b;change ((if a.2=I then 2 else 1)::rL (cK a.1 sc)).9<=4000
  rw[gm];lia
def aav(e:Jn):aK g 4 130 (Mq Jj):=by
 show aK.rd e 2 [1,0,1,0,1] (fc (aat e) fz) (aH<|ah ic (aN 2 (FI Jj)<|U (ah JN Ji Jf) Qh)<|aN 2 (FI Jj)<|U (ah JN Ji Jh) Qh) ?_;intro vs H Q u (x,l,m,sc,rfl,(a,v1,n,rfl,q,o,p),f,h,i,b,k);show(q,J,v1,l,sc,J,o,f,i,b,λv w c f1 r=>(cN (cg c) q,J,n,m,sc,J,p.to<|cg c,h,i,b,λy z d f2 s=>(d _ _ r,s,?_,λt j=>k t _ ((c.trans d).trans<|aG j) ((c.trans d).free j) ?_)))
 .let:=oA f b;let:=oA h b;rw[bz,bz,cP];lia
 rw[aB,eV]
def lH(b up:SL)(life:JH):Int:=if (b.any λa=>decide<|life<=a.1)=I then 2 else if cA up (Y (life,(au)))=I then 0 else 1
inductive FL K vs H(Q:VK):Prop|mk x a b life(d:vs=[x,.int life])(e:uX K H x a b)(f:∀c,az H c->Q (.int (lH a b life)) c)
def Mr(o:Jn):aK g 1 131 (FL Jj):=by
 show aK.rd o 2 [1,0,1,1,1,1,1] fz (ay (a_ (jb (tB<|qp<|ah JN Ji Jf)<|aY<|ah Ym (ah JN (ah JN Ji Jf) Jf) Jl) (aH<|tC<|.int<|2) ba)<|ay Uu<|aH<|tC<|.int<|1) ?_;intro vs H Q r (x,p,j,life,rfl,(a,v1,t,rfl,q,l,m),k);delta lH at k;let n:(∀d,az H d->Q (.int<|if cA j (Y (life,(au)))=I then 0 else 1) d)->ay Uu (aH<|tC<|.int<|1) Yy [Y Jy,Y<|.int life] H:=by
  show λk=>(q,J,?_)
  cases j with
  |none=>
   cases m;show k H QT
  |some y=>
   let(b,rfl,f):=m;show(q,J,λc i=>(_,_,[y.1,gD y.2],[life,0],J,J,cN (cg (aG i)) f,bR.of aB,?_));let:=Lx y (life,(au));rw[show HT.lexLt [y.1,gD y.2] [life,0]=cA (Y y) (Y (life,(au))) from this];show aT J4 λh=>?_
   .rw[ak h]at k;show k _ (aG i)
   rw[aj h]at k;show k _ (aG i)
 show(q,J,?_);cases p with
 |none=>
  cases l;show (n (λd s=>by let:=k d s;exists this))
 |some y=>
  let(b,rfl,f):=l;show⟨q,J,f,J,Jg⟩
  .let e:auV (λa=>decide (life<=a.1)) (Y y)=I:=h;rw[ak e]at k;show k H QT
  let e:¬auV (λa=>decide (life<=a.1)) (Y y)=I:=h;rw[aj e]at k;show n k
def aaw{a:Type}{l:UI}{x d}(h:i<l.9):(l.set i x).getD i d=x:=by simp;simp[h]
def Mt{a:Type}{l:UI}{x d}(h:j≠i):(l.set i x).getD j d=l.getD j d:=by simp[mY h]
def aax{a:Type}{l:UI}{d}(h:l.9<=i):l.getD i d=d:=by ext
def Mv{M}(hi:i<M.9)(b:j<(M.getD i []).9):aF (gM M i j l) u v=if u=i/\v=j then l else aF M u v:=by
 delta aF gM;cases e:u=i
 .subst e;rw[aaw hi];cases a:v=j
  .subst a;rw[aaw b];simp
  rw[Mt a];simp[a]
 rw[Mt e];simp[e]
def amo M i j u v l:aF (gM M i j l) u v=l\/aF (gM M i j l) u v=aF M u v:=by
 cases hi:i<M.9
 .cases a:j<(M.getD i []).9
  .rw[Mv hi a];split
   .show .inl J
   show .inr J
  right;delta gM;let b:(M.getD i []).set j l=M.getD i []:=aeA JE;ext
 right;delta gM;rw[aeA JE]
def aay{M}(h:M.9<=u):aF M u v=O:=by delta aF;rw[aax h];rfl
def amq{M}(a:gi M)(h:M.9<=v):aF M u v=O:=by
 cases b:u<M.9
 .delta aF;show aax (by rw[a _<|getD_mem b];show h)
 show aay Ja
def yY{M}(a:gi M)(b:k<M.9)(c:u<M.9)(e:v<M.9):aF (fF M k) u v=bG Ul (bh (aF M u k)<|aF M k v):=by delta aF fF;obtain⟨row,d⟩:∃row,M[u]?=Y row:=(_,cy c);let f:=a row<|bM d;let g:=a _<|getD_mem b;ext;delta nt;ext
def MB B M:=∀u v a,aF M u v=Y a->a.1.5<=B
def LB B(l:SL):=∀a,l=Y a->a.1.5<=B
def amr x y:bG x y=x\/bG x y=y:=by
 delta bG;split
 .show .inr J
 show .inl J
def LB.least(a:LB B x)(b:LB B y):LB B (bG x y):=by rcases amr x y with e|e<;>rw[e]<;>assumption
def LB.add(b:LB B x)(c:LB C y):LB (B+C) (bh x y):=by
 intro a e;cases x with
 |none=>cases e
 |some p=>
  cases y with
  |none=>cases e
  |some q=>
   rw[<- (bt e)];let:=b p J;let:=c q J;omega
def LB.mono(h:LB B x)(b:B<=C):LB C x:=λa e=>eO (h a e) b
def LB.neg(h:LB B x):LB B (iF x):=by
 intro a e;cases x with
 |none=>cases e
 |some p=>
  rw[<- (bt e)];let:=h p J;omega
def MB.set{M}(h:MB B M)(b:LB B l):MB B (gM M i j l):=by
 intro u v a e;rcases amo M i j u v l with z|z
 .rw[z]at e;show b a e
 rw[z]at e;show h u v a e
def MB.jH{M}(h:MB B M)(b:LB B l):MB B (gj kn M i j l):=by
 delta gj;split
 .show h.set<|LB.least (λa e=>h i j a e) b
 show h
def MB.mono{M}(h:MB B M)(b:B<=C):MB C M:=λu v a e=>eO (h u v a e) b
def MB.mid{M}(h:MB B M)(b:gi M)(c:k<M.9):MB (B+B) (fF M k):=by
 intro u v a e;cases d:u<M.9
 .cases f:v<M.9
  .rw[yY b c d f]at e;show LB.least (LB.mono (λa e=>h u v a e) Ja) (LB.add (λa e=>h u k a e) λa e=>h k v a e) a e
  rw[amq (LC b c) (by rw[yH];lia)]at e;cases e
 rw[aay (by rw[yH];lia)]at e;cases e
theorem MB.aaz{M}(h:MB B M)(a:gi M):∀k,k<=M.9->MB (2^k*B) ((aQ k).foldl fF M)
 |0,c=>by exists h
 |k+1,b=>by
  rw[Fc];let:=MB.mid (k:=k) (MB.aaz h a k Ja) (Fd a k Ja) (by rw[BI];lia);rwa [P2,show 2^k*2*B=2^k*B+2^k*B by rw[aty,Nat.mul_two]]
theorem MB.aE{M}(h:MB B M)(a:gi M):MB (2^M.9*B) JI:=MB.aaz h a _ JR
theorem aaA n:∀j,MB 0 ((aQ j).foldl Zq Wg)
 |0=>by
  intro u v a e;delta aF at e;grind
 |j+1=>by
  rw[LX];show (aaA n j).set λa e=>by cases e;show bf _
def ams{z:JD}(d:a<=x)(e:b<=y)(f:c<=z):a*b*c<=x*y*z:=f7 (f7 d e) f
def amt{num:JH}(a:0<=sc)(b:0<num):(sc / num).5<=sc.5:=by let:=ae6 num a;let:=afe a<|ja b;lia
def aaB(b:fM x)(c:0<=sc)(d:z.5<=Zt):LB (Zt*Zd*sc.5) (Y (z*Yh*(sc / Yw),(o))):=by intro a e;rw[<- (bt e),lU,lU];show ams d (by let:=b.2.2.2.1;lia)<|amt c b.1
def B0 sc:=Zt*Zd*sc
def aaC{n:JD}(h:n<=Jk):LB (B0 sc) (Y (n*sc,(o)))/\LB (B0 sc) (Y (0-n*sc,(o))):=by
 haveI key:n*sc<=B0 sc:=by
  show f7 Ja JR
 constructor
 .intro a e;let e:=bt e;rwa [<-e]
 intro a e;rw[<- (bt e)];rwa [rQ,PF,lU,lQ,lQ]
def MB.span{M a}(h:MB (B0 sc) M)(b:a<=Jk)(c:ox hi):MB (B0 sc) (yU kn sc M i j a hi):=by show MB.jH ?_ (aaC b).2;cases hi with|none=>show h|some x=>show h.jH (aaC<|c x J).1
theorem MB.lags:∀{ls M},MB (B0 sc) M->(∀l∈ls,l.lo<=Jk/\ox l.hi)->MB (B0 sc) (qP kn sc ls M)|[],c,h,d=>h|l::r,M,h,a=>MB.lags (ls:=r) (h.span (a l dM).1 (a l dM).2) λm b=>a m<|df _ b
theorem MB.marks:∀{ls M},MB (B0 sc) M->(∀l∈ls,l.lo<=Jk/\ox l.hi)->MB (B0 sc) (sQ kn sc ls M)|[],c,h,d=>h|l::r,M,h,a=>MB.marks (ls:=r) (h.span (a l dM).1 (a l dM).2) λm b=>a m<|df _ b
theorem BW{c:Type}{P:c->Prop}{f}(b:∀a i,i<n->P a->P (f a i)):∀{a} k,k<=n->P a->P ((aQ k).foldl f a)
 |a,0,e,h=>h
 |a,k+1,d,h=>by
  rw[j3];show b _ k Ja<|BW b k Ja h
def aaD(a:fM n.lo)(b:gap.5<=Jk):LB (B0 sc) (fq sc n gap):=by let:=aaB (z:=gap+1) (sc:=sc) (o:=I) a Ja JE;show this
def aaE(a:fM n.hi)(b:gap.5<=Jk):LB (B0 sc) (g9 sc n gap):=by let:=aaB (z:=1-gap) (sc:=sc) (o:=I) a Ja JE;show this
def MB.clk{M}(h:MB (B0 sc) M)(b:fM n.lo)(c:fM n.hi)(a:gap.5<=Jk):MB (B0 sc) (yS kn sc n M i j gap):=(h.jH<|aaD b a).jH<|aaE c a
def Mw B:LB B bp:=λa e=>by cases e;show eX _
def qR(h:i<Jb):aI s i∈s.8:=by delta aI;ext
def oB(h:i<Jt):aS s i∈s.7:=by delta aS;ext
def MB.node{M}(d:J6)(h:MB (B0 sc) M):MB (B0 sc) (wU s kn sc deaf M):=by
 show BW (λM b e c=>BW (λM a g c=>?_) _ JR c) _ JR h;delta pM;simp only;split
 .show c
 split
 .let(f,i,j):=d.ev _<|qR (show a<Jb by lia);let(f1,f2):=d.ev _<|qR e;let rt:=d.rt _<|oB f;show (c.jH<|Mw _).clk rt.1 rt.2.1 Ja
 show c.jH<|Mw _
def FN(a:J6) kn deaf:MB (B0 Zf) UW:=MB.marks (MB.lags (MB.node a<|MB.mono (aaA _ _) Jc) λl b=>((a.wd l b).2.2.2.1,(a.wd l b).2.2.2.2)) λm c=>((a.mo m c).2.1,(a.mo m c).2.2)
def BX(a:J6):B0 Zf <2^310:=by let(_,h):=fV a;show fP (f7 JR<|mU h) Jc
def amu{M}(h:gi M):gi (gj kn M i j l):=by
 delta gj;split
 .show LV h
 show h
def bO(n:JD)(M:JY):Prop:=M.9=n/\gi M
def bO.jH{M}(h:QX):bO n (gj kn M i j l):=(by rw[alY];show h.1,amu h.2)
def bO.span{M a}(h:QX):bO n (yU kn sc M i j a hi):=by apply bO.jH;cases hi with|none=>show h|some x=>show h.jH
theorem bO.lags:∀{ls M},bO n M->bO n (qP kn sc ls M)|[],a,h=>h|l::r,M,h=>bO.lags (ls:=r) h.span
theorem bO.marks:∀{ls M},bO n M->bO n (sQ kn sc ls M)|[],a,h=>h|l::r,M,h=>bO.marks (ls:=r) h.span
def bO.node{M}(h:QX):bO n (wU s kn sc deaf M):=by
 show BW (λM b d c=>BW (λM a e c=>?_) _ JR c) _ JR h;delta pM;simp only;split
 .show c
 split
 .show c.jH.jH.jH
 show c.jH
def yZ n:bO n (uW n):=yO n n
def FO s kn deaf:bO YM UW:=(yZ _).node.lags.marks
def aaF s ls ms:bO QL (jF s ls ms):=(yZ _).node.lags.marks
def amv{M}(b:J6)(h:MB (B0 Zf) M)(c:bO QL M) u v:LB (2^331) (aF JI u v):=by intro a e;let d:=(MB.aE h c.2) u v a e;rw[c.1]at d;haveI f:2^QL*B0 Zf<=2^21*2^310:=f7 (zN Je (by let:=b.dr;lia))<|mU<|BX b;lia
def LB.lI(h:LB B l)(b:B<2^1900):sR l:=λa e=>fP (h a e) b
def uZ:SL->o_|none=>.none|some a=>.tuple [.int a.1,.int<|gD a.2]
def BY{K}(h:cS K H v l):Dp K H v (uZ l):=by
 cases l with
 |none=>cases h;show .aW
 |some a=>
  let(p,rfl,q):=h;show .tup q<|.cons (.int _)<|.cons (.int _) .nil
def amw(h:gD a=gD b):a=b:=by cases a<;>cases b<;>simp[gD]at h⊢
def Mx l m:Ae (uZ l) (uZ m)=decide (l=m):=by
 cases l with
 |none=>cases m<;>rfl
 |some a=>
  cases m with
  |none=>rfl
  |some b=>
   let:=EZ [a.1,gD a.2] [b.1,gD b.2];change vI ([a.1,gD a.2].map nW) ([b.1,gD b.2].map nW)=_
   rw[this];let(n,o):=a;let(k,u):=b;rw[nO];erw[oN,as6,and_true,asv,Hw];constructor
   .intro(c,d);show(c,amw d)
   ext
def FP l:rP (uZ l)=I:=by cases l<;>rfl
def amx{K}(a:cS K H v l)(b:cS K H w m)(k:Q (.bl<|decide<|l=m) H):pk K v w H Q:=(_,_,BY a,BY b,FP _,FP _,by rw[Mx];show k)
def amy{K}(a:cS K H v l)(b:cS K H w m)(k:Q (.bl<|!decide (l=m)) H):IJ K v w H Q:=(_,_,BY a,BY b,FP _,FP _,by rw[Mx];show k)
def BZ(n g:JD):List SL:=(cW n O).set g bp
def FQ row a:=(PU bh row a).foldl bG O
def wV(M:JY) a:=M.map λrow=>FQ row a
def mr(M:JY)(g:JD):Nat->List SL|0=>BZ M.9 g|k+1=>wV M<|mr M g k
def FT M g:∀k,(mr M g k).9=M.9|0=>by simp[mr,BZ]|k+1=>by simp[mr,wV]
abbrev pO M g k:=(aQ QU).map<|mr M g
inductive EM K(vs:Ju) H(Q:VK):Prop|mk(n:JD)(g:JD)(b:vs=[.int (n:JH),.int (g:JH)])(c:g<n)(d:n<=WN)(e:∀p a,az H a->H p=O->fm K a p (BZ n g)->Q JS a)
def aaG(a:Jn):aK g 1 148 (EM Jj):=by show aK.rd a 3 [1] fz (ay (aP (ah yj (bx<|U (tC .aW) aa) Ji) QQ)<|ay (aP Zu<|vX Jv Jl v9)<|aH Jv) ?_;intro vs H Q b (n,c,rfl,h,i,k);show λl b=>Fu aB Ja Ja λp d=>(p,_,_,c,J,J,aB,LU<|by ext,?_);let e:az H (aA H l<|.lst [.aW]):=aG b;let f:=e.free d;show k p _ (bZ (e.trans WB) f) f (_,aB,ED (A.gw,J,a.qK _) c<|X9 n)
inductive Lh K(vs:Ju) H(Q:VK):Prop|mk r c row a(d:vs=[.ref r,.ref c])(e:fm K H r row)(f:fm K H c a)(g:row.9=a.9)(h:∀v b,az H b->cS K b v (FQ row a)->Q v b)
def amz(n:Jn):aK g 2 149 (Lh Jj):=by
 show aK.rd n 6 [3,1,0,0] (fc (yG n)<|fc (yF n) fz) (ay (aP (tC .aW) QQ)<|ay (dc (jc Jj ZZ) Ql<|ay (aP (aN 2 (uK Jj)<|U Qi<|U (ah Jq Jl JC) aa) Ww)<|a_ (tB<|aN 2 (wI Jj)<|U Q6 Qg) (aP Q6 QQ) ba)<|aH Jv) ?_;intro vs H Q o (r,c,row,p,rfl,(E,C,pr),(vc,F,L),ab,k);show(r,E,J,aq.of C,lh (λi e q=>E4 λb t u v=>A3 (e=[Y<|.ref r,Y Za,Y b,t,u,v]) (az H q)<|cS Jj q b<|((PU bh row p).take i).foldl bG O) (.aW,O,O,O,J,QT,J) (λi e q _ (_,_,_,_,_,s,_)=>aq.of<|s _ _ C) ?_ ?_)
 .intro i x e f T N (b,t,u,v,rfl,z,a) P;let(l,o,R):=d7 pr N;let hi:=(cU.1 o).1;obtain⟨m,D⟩:∃m,p[i]?=Y m:=J8;let(y,S,X):=eS L D;let B:az f (aA f T Ue):=aG P;let d:=z.trans B;let ez:(PU bh row p)[i]?=Y (bh l m):=by rw[asY,o,D]
  let step:=Mh bG O ez;show(aq.of<|d _ _ F,dI S,x,y,l,m,J,R.to<|cg d,X.to<|cg d,λw H3 j hw=>(w,b,_,_,J,hw,a.to<|cg<|B.trans j,Jg))
  .show(w,_,_,_,J,d.trans j,?_);rw[step];delta bG at h⊢;rwa [ak h]
  show(b,_,_,_,J,d.trans j,?_);rw[step];delta bG at h⊢;rw[aj h];show a.to<|cg<|B.trans j
 intro e f (b,t,u,v,rfl,z,a);rw[b_ pr,tT (by rw[G_];lia)]at a;show k b f z a
inductive EL K(vs:Ju) H(Q:VK):Prop|mk a e M c b(f:vs=[.ref a,.ref c])(g:eF K H a e M)(h:gi M)(i:fm K H c b)(j:b.9=M.9)(k:M.9<=WN)(l:∀p d,az H d->H p=O->fm K d p (wV M b)->Q JS d)
def aaH(h:Jn):bI g 3 "next_column" ["rows","column"] (EL Jj):=by
 show bI.of (h.f 79) Lg akj (akk h<|amz h) ?_;intro vs H Q F (a,L,M,c,o,rfl,b,s,t,u,N,k);show(a,J,(_,aq.of b.top),λD d=>yN d (λj w e=>bw (cS Jj w) e<|wV (M.take j) o) .nil (aq.of b.top) ?_ ?_)
 .intro j x p e y f i z py;let q:=il d f;let(r,B,rfl):=sC y;let(row,l,C):=d7 b.rows B;let P:=(cU.1 l).1;show uV (r,c,row,o,J,C.to q,t.to q,by rw[s row<|bM l,u],λv R m E=>?_);let n:=m _ _ i;apply qO f z Ja (mj m) n;delta wV;rw[take_snoc l,eV];show ot (lF (lF py<|cg m)<|cY.lst n)<|E.to<|cY.lst n
 intro p e f i py;rw[bz,b_ b.rows,ir]at py;show k D p (il d f) d (e,i,py)
def eF.snoc{K}(h:eF K H a cs C)(d:fm K H c e)(f:c∉cs)(b:c≠a):eF K (aA H a<|.lst<|cs.map Qv++[.ref c]) a (cs++[c]) (C++[e]):=by show(by rw[aB,eV];rfl,ot (sA h.top qM h.rows h.na)<|d.wJ h.top qM b,wc h.nd f,?_);simp;show(h.na,λz=>b z.3)
abbrev bq M g k p:=(mr M g k).getD p O
def g_(C:Nat->Nat->SL) p a:=((aQ<|a+1).find? λf=>decide<|C f p=C a p).getD a
def My C p a:g_ C p a<=a:=by
 delta g_;cases e:(aQ<|a+1).find? λf=>decide (C f p=C a p) with
 |none=>show bf _
 |some f=>
  let:=cC.1<|G8 e;change f<=a
  lia
def Mz{M}(h:f<=k):(pO M g k)[f]?=Y (mr M g f):=by rw[c8,zO Ja];rfl
def y0{K M}(h:eF K H a cs<|pO M g k)(d:f<=k)(i:p<M.9):∃c vs v,(cs.map Qv)[f]?=Y Za/\H c=Y YK/\vs[p]?=Y v/\cS K H v (bq M g f p):=by let(c,j,vs,m,pv):=eS h.rows<|Mz d;obtain⟨l,b⟩:∃l,(mr M g f)[p]?=Y l:=(_,cy (by rw[FT];show i));let(v,n,o):=eS pv b;let e:bq M g f p=l:=fG b;show(c,vs,v,by rw[c8,j];rfl,m,n,e▸o)
inductive MA K(vs:Ju) H(Q:VK):Prop|mk a cs M g k p most(b:vs=[.ref a,.int ((p:JD):Int),.int ((most:JD):Int)])(c:eF K H a cs (pO M g k))(d:p<M.9)(e:most<=k)(f:Q (.int (g_ (bq M g) p most:Nat)) H)
def amA(q:Jn):aK g 1 151 (MA Jj):=by
 show aK.rd q 4 [1,0,0,0,0] fz (ay (aP Jf Zx)<|ay (r6 (aY<|ah (IJ Jj) (ah Jq (ah Jq Ji JC) Jl)<|ah Jq (ah Jq Ji Jv) Jl)<|n8 3 Jh U1)<|aH JC) ?_;intro vs H Q F (a,cs,M,c,L,p,b,rfl,d,m,N,k);apply ye (λl r=>∃f:Nat,A4 (l=[Y Jy,Y<|.int p,Y<|.int b,Y<|.int f]) (r=H) (f<=b) (∀u,u<f->bq M c u p≠bq M c b p)) (λl K=>match l with|[_,_,_,Y (.int f)]=>b-f.6|K=>0) (0,J,J,eX _,Jc);intro l P (f,rfl,rfl,R,n);let(S,T,v1,s,t,v,w):=y0 (f:=f) d Ja m;let(X,ab,v2,y,B,C,D):=y0 (f:=b) d Ja m;show(aq.of d.top,dI s,aq.of t,dI v,aq.of d.top,dI y,aq.of B,dI C,amy w D Jg)
 .let h:bq M c f p≠bq M c b p:=by exists h
  let E:f<b:=by grind
  show(_,J,_,_,J,J,(f+1,J,J,E,λu hu=>?_),?_)
  .cases z:u=f
   .rw[z];show h
   show n u Ja
  change b-((f:JH)+1).6<b-(f:JH).6
  lia
 let h:bq M c f p=bq M c b p:=by exists h
 let e:g_ (bq M c) p b=f:=by
  delta g_;let:((aQ<|b+1).find? λf=>decide<|bq M c f p=bq M c b p)=Y f:=by
   show BP (λx o=>?_) (zO Ja)<|cn h;rw[List.take_range]at o;let:=cC.1 o;show iK<|n x Ja
  rw[this];rfl
 rwa [e]at k
def fg M(C:Nat->Nat->SL) p f:=((aQ M.9).find? λq=>decide<|q≠p/\bh Wh (C (f-1) q)=C f p).getD p
def amB{M}(h:p<M.9):fg M C p f<M.9:=by delta fg;cases e:(aQ M.9).find? λq=>decide (q≠p/\bh Wh (C (f-1) q)=C f p) with|none=>show h|some q=>show cC.1<|G8 e
inductive aaI K(vs:Ju) H(Q:VK):Prop|mk r a cs M g k p f(c:vs=[.ref r,.ref a,.int ((p:JD):Int),.int ((f:JD):Int)])(d:fm K H r (M.getD p []))(e:gi M)(h:eF K H a cs (pO M g k))(i:p<M.9)(j:0<f)(l:f<=k)(m:∀b,az H b->Q (.int (fg M (bq M g) p f:Nat)) b)
def amC(E:Jn):aK g 2 152 (aaI Jj):=by
 show aK.rd E 6 [3,0,1,0,0,0,0,0,0] (fc (yF E) fz) (ay (dc (jc Jj ZZ) (gC Jj 2<|cX UN<|cX Ww gB)<|a_ (jb (aY<|ah iS Qi Jv)<|aY<|ah (pk Jj) (aN 2 (uK Jj)<|U Q6<|U (ah Jq (ah Jq Jl<|ah Q4 JC Jh) Qi) aa)<|ah Jq (ah Jq Jl JC) Jv) (aH Qi) ba)<|aH Jv) ?_;intro vs H Q t (r,a,cs,M,b,kk,p,f,rfl,(R,F,pr),S,m,L,ac,hf,k);let X:=S _<|getD_mem L;show(r,R,J,aq.of F,lh (λi n N=>E2 λu v=>A3 (n=[Y<|.ref r,Y Jy,Y<|.int p,Y<|.int f,u,v]) (az H N) (∀q∈(aQ M.9).take i,decide (q≠p/\bh Wh (bq M b (f-1) q)=bq M b f p)=au)) (O,O,J,QT,Jc) (λi n N _ (_,_,_,s,_)=>aq.of<|s _ _ F) ?_ ?_)
 .intro i x n H1 T y (u,v,rfl,B,c) hT;let(l,t,ab):=d7 pr y;haveI hi:i<M.9:=by let:=(cU.1 t).1;lia
  haveI P:aF M p i=l:=by delta aF;show fG t
  let d:=B.trans<|aG (o:=Ue) hT;let C:=zO hi;show aT J4 λh=>?_
  .haveI D:i≠p:=λz=>by rw[z]at h;simp at h
   let(c1,ae,v1,e1,e2,e3,e4):=y0 (f:=f-1) m Ja hi;let(c2,af,v2,d1,d2,d3,d4):=y0 (f:=f) m Ja L;show(aq.of<|d _ _ m.top,fU Ja e1,aq.of<|d _ _ e2,dI e3,x,v1,l,_,J,ab.to<|cg d,e4.to<|cg d,λw H3 s3 hw=>?_);let j:=d.trans s3;show(aq.of<|j _ _ m.top,dI d1,aq.of<|j _ _ d2,dI d3,amx hw (d4.to<|cg j) Jg)
   .let h:bh l (bq M b (f-1) i)=bq M b f p:=WI;haveI e:fg M Zr p f=i:=by
     delta fg;rw[BP c C<|cn (D,by rw[P];show h)];rfl
    let:=k _ j;rwa [e]at this
   let h:¬bh l (bq M b (f-1) i)=bq M b f p:=Zj
   show(_,_,J,j,sM c C<|iK λz=>h (by rw[<-P];show z.2))
  haveI D:i=p:=by
   lia
  show(_,_,J,d,sM c C<|iK λz=>z.1 D)
 intro n H1 (u,v,rfl,B,c);rw[b_ pr,X,tT Jc]at c;haveI e:fg M Zr p f=p:=by
  delta fg;rw[zP.2 λx y=>by rw[c x y];simp];rfl
 let:=k _ B;rwa [e]at this
def j4(M:JY)(C:Nat->Nat->SL):Nat->Nat->Nat->List Nat|0,b,c=>[]|a+1,p,f=>if f=0 then [] else fg M C p f::j4 M C a Uz (g_ C Uz<|f-1)
theorem aaJ M C:∀(a b p f:Nat),f<=a->f<=b->j4 M C a p f=j4 M C b p f
 |0,b,p,f,c,d=>by
  let:f=0:=Ja
  subst this;cases b<;>simp[j4]
 |a+1,0,p,f,c,d=>by
  let:f=0:=Ja
  subst this;rfl
 |a+1,b+1,p,f,c,d=>by
  delta j4;split
  .rfl
  let e:=My C Uz<|f-1;rw[aaJ M C a b _ _ Ja Ja]
def jj(M:JY)(C:Nat->Nat->SL)(p a:JD):List Nat:=p::j4 M C a p (g_ C p a)
theorem FU M C:∀(a p f:Nat),(j4 M C a p f).9<=a
 |0,b,c=>bf _
 |a+1,p,f=>by
  delta j4;split
  .ext
  rw[gm];let:=FU M C a Uz<|g_ C Uz<|f-1;lia
inductive EK K(vs:Ju) H(Q:VK):Prop|mk r c a cs M g k p most(d:vs=[.ref r,.ref a,.int ((p:JD):Int),.int ((most:JD):Int)])(e:eF K H r c M)(f:gi M)(h:eF K H a cs (pO M g k))(i:p<M.9)(j:most<=k)(l:k<=WN)(m:∀w b,az H b->H w=O->b w=Y (.lst (bW (jj M (bq M g) p most)))->Q Yo b)
def aaK(m:Jn):aK g 3 153 (EK Jj):=by
 show aK.rd m 6 [0,0,1,0,90,0,0] (fc (amA m)<|fc (amC m) fz) (ay (aP (bx Qg) UN)<|ay (aP (aN 3 (MA Jj)<|U Jl<|U Jv Zo) Ww)<|ay (r6 (aY<|ah Wq Q6 Jf)<|ay (aP (aN 4 (aaI Jj)<|U (ah Jq Ji Jv)<|U Jl<|U Jv<|U Q6 aa) QQ)<|ay (cG<|ff Jj "list" gb Qi Qg)<|aP (aN 3 (MA Jj)<|U Jl<|U Jv<|U (ah Q4 Q6 Jh) aa) Ww)<|aH Qi) ?_;intro vs H Q hl (r,rs,a,cs,M,b,n,p,c,rfl,L,N,o,u,P,af,k);show λw s=>?_;let v:az H (aA H w<|.lst [.int p]):=aG s;show(a,cs,M,b,n,p,c,J,o.to v,u,P,?_);let R:=My Zr p c;apply ye (λi x=>E3 λq f d=>A7 (i=[Y<|.ref r,Y Jy,Y<|.int (q:JD),Y<|.int c,Y Yo,Y<|.int (f:JD)]) (az H x) (x w=Y (.lst<|bW d)) (q<M.9) (f<=c) (d.9+f<=c+1)<|jj M Zr p c=d++j4 M Zr c q f) (λi K=>match i with|[_,_,_,_,_,Y (.int f)]=>f.6|K=>0) (p,g_ Zr p c,[p],J,v,by rw[aB];rfl,u,R,by simp;lia,J);intro i S (q,f,d,rfl,j,T,t,hf,ag,e);show aT J4 λh=>?_
 .haveI h:0<f:=by let:0<(f:JH):=WI;lia
  obtain⟨row,y⟩:∃row,M[q]?=Y row:=(_,cy t);let z:=L.to j;let(X,ab,ac):=eS z.rows y;show(aq.of z.top,dI (by rw[c8,ab];rfl),X,a,cs,M,b,n,q,f,J,(fG y)▸ac,N,o.to j,t,h,Ja,λH2 B=>?_);let D:=amB (C:=Zr) (f:=f) t;let ai:=My Zr (fg M Zr q f)<|f-1;let E:=B _ _ T;let F:az H (aA H2 w<|.lst<|bW d++[.int (fg M Zr q f:Nat)]):=bZ (j.trans B) s;haveI ae:jj M Zr p c=(d++[fg M Zr q f])++j4 M Zr c (fg M Zr q f) (g_ Zr (fg M Zr q f)<|f-1):=by
   rw[e,ae0];obtain⟨l,rfl⟩:∃l,c=l+1:=(c-1,Ja);conv=>lhs;unfold j4
   rw[aj Ja,aaJ M Zr l (l+1) _ _ Ja Ja];rfl
  show(.inl (J,_,aq.of E),E,by simp;rw[cP];lia,a,cs,M,b,n,fg M Zr q f,f-1,?_,o.to F,D,Ja,(fg M Zr q f,g_ Zr (fg M Zr q f)<|f-1,d++[fg M Zr q f],J,F,?_,D,Ja,by rw[cE];simp;lia,ae),?_)
  .show [V.ref a,_,V.int<|f-1]=_
   let:f-1=((f-1:Nat):Int):=Ja
   rw[this]
  .rw[aB];delta bW;rw[eV];rfl
  change ((g_ Zr (fg M Zr q f) (f-1):Nat):Int).6<(f:JH).6
  lia
 haveI h:f=0:=by
  lia
 subst h;haveI e2:j4 M Zr c q 0=[]:=by cases c<;>simp[j4]
 rw[e2,iu]at e;show k w S j s ?_;rwa [e]
def wW M u v:=if bq M v M.9 u=O then [] else jj M (bq M v) u M.9
inductive aaL K(vs:Ju) H(Q:VK):Prop|mk r b M u v(c:vs=[.ref r,.int ((u:JD):Int),.int ((v:JD):Int)])(d:eF K H r b M)(e:gi M)(f:u<M.9)(g:v<M.9)(h:M.9<=WN)(i:∀w a,az H a->H w=O->a w=Y (.lst (bW (wW M u v)))->Q Yo a)
def aaM M g k:pO M g QU=pO M g k++[mr M g QU]:=by delta pO;rw[oR,eV];rfl
def amD(s:Jn):aK g 4 154 (aaL Jj):=by
 show aK.rd s 5 [2,90,2,90,90,1,0,0,0,90,0,90] (fc (aaK s)<|fc (aaH s)<|fc (aaG s) fz) (ay (aP (bx<|U (aN 2 (EM Jj)<|U JJ Qg) aa) Zx)<|ay (dc (kZ<|U JJ aa) UN<|cG<|ff Jj "list" gb JC<|U (aN 2 (EL Jj)<|U Ji<|U (ah Jq JC Qi) aa) aa)<|ay (a_ (tB<|gT<|ah Jq (ah Jq JC JJ) Jl) (aH Z1) ba)<|aH<|aN 4 (EK Jj)<|U Ji<|U JC<|U Jl<|U JJ aa) ?_;intro vs H Q hl (r,x,M,u,v,rfl,m,L,N,hv,B,k);let lr:=b_ m.rows;let o:(((x.map Qv).9:Nat):Int)=M.9:=by ext
 show(.inl<|aq.of m.top,M.9,v,by rw[o],hv,B,λc P R hc S=>λa C=>?_);let T:az P (aA P a<|.lst [.ref c]):=aG C;let X:=R.trans T;let(vc,ab):=id S;show(.inl<|aq.of<|X _ _ m.top,_,J,Ja,by rw[o];lia,pj (λi D H'=>∃E,A3 (D=[Y<|.ref r,Y<|.int u,Y<|.int v,Y Jy,E]) (az H H') (∃cs,eF Jj H' a cs (pO M v i)/\∀b∈cs,H b=O)) (O,J,X,[c],(aB,.cons (S.to T) .nil,Jc,by simp;show λz=>(dH ab C) z.3),by exists hc) ?_ ?_)
 .intro i D H2 hi (E,rfl,l,cs,d,fr);rw[o,ed]at hi;let(ci,ac,ae):=eS d.rows<|Mz<|bf i;show(.inl (J,_,aq.of d.top),aq.of d.top,fU (j:=i) (by change (0:Int)+i=_;lia) (by rw[c8,ac];rfl),r,x,M,ci,_,J,m.to l,L,ae,FT M v i,B,λp H3 q n hP=>(q _ _ d.top,?_,_,J,bZ (l.trans q)<|R.free C,cs++[p],?_,?_))
  .rw[bz,b_ d.rows,cP];simp;lia
  .rw[aaM];show (d.to q).snoc hP (λz=>?_) ?_
   .let(j,hj):=kL z;let(_,_,_,e):=d7 d.rows hj;rw[n]at e;cases e
   intro z;rw[z,d.top]at n;cases n
  intro b hb;rcases dC.1 hb with z|z
  .show fr b z
  let e:b=p:=by exists z
  rw[e];show l.free n
 intro D H2 (E,rfl,l,cs,d,fr);rw[o]at d;let(c1,af,v1,e1,e2,e3,t):=y0 (f:=M.9) d JR N;delta wW at k;show(.inl<|aq.of<|l _ _ m.top,aq.of d.top,fU o e1,aq.of e2,dI e3,Jg)
 .let F:bq M v M.9 u=O:=by
   cases e:bq M v M.9 u with
   |none=>rfl
   |some y=>
    rw[e]at t;let(z,rfl,_):=t;simp at h
  rw[ak F]at k;show λp n=>k p _ (l.trans<|aG n) (l.free n) aB
 let F:¬bq M v M.9 u=O:=λz=>by
  rw[z]at t;show h (by rw[t];rfl)
 rw[aj F]at k;show(.inl<|aq.of<|l _ _ m.top,r,x,a,cs,M,v,M.9,u,M.9,by rw[o],m.to l,L,d,N,JR,B,λw H4 q hw e=>k w H4 (l.trans q) (l.free hw) e)
structure pP(K:bH)(H:Hp)(b:ax)(a:Up)(M:JY)(e:Nat->Nat)(d:Nat->List ax):Prop where
 top:H b=Y (.lst<|a.map Qv)
 len:a.9=M.9
 nd:a.Nodup
 nb:b∉a
 cols:∀g t,a[g]?=Y t->eF K H t (d g) (pO M g<|e g)
 sep:∀g,g<M.9->∀c∈d g,c∉a/\c≠b
theorem pP.to{K M}(T:pP K H a b M c d)(s:az H e):pP K e a b M c d:=(s _ _ Qm,T.len,T.nd,T.nb,λg t h=>(T.cols g t h).to s,T.sep)
def aaN{a c:Type}{f}{l:UI}{x}{b:c}(d:∀x∈l.take i,f x=O)(e:l[i]?=Y x)(g:f x=Y b):l.findSome? f=Y b:=by rw[<-asX i l,asZ,G7.2 d,wD e];simp[g]
def u0 M a v:=(aQ M.9).find? λq=>decide (q≠v)&&cA (bh (aF M v q)<|bq M v a q) bp
def sW M a:=(aQ M.9).findSome? λv=>(u0 M a v).map λq=>(v,(q))
def StV(K:bH)(H:Hp)(v:V):Option (Nat×Nat)->Prop|none=>v=.aW|some x=>∃a,v=.ref a/\bR K H a [.int (x.1:Nat),.int (x.2:Nat)]
inductive Lj K(vs:Ju) H(Q:VK):Prop|mk r d M b e c f most(h:vs=[.ref r,.ref b,.int ((most:JD):Int)])(i:eF K H r d M)(j:gi M)(k:pP K H b e M c f)(l:(∀g,g<M.9->most<=c g))(m:∀v a,az H a->StV K a v (sW M most)->Q v a)
def amE(C:Jn):aK g 2 155 (Lj Jj):=by
 show aK.rd C 7 [3,3,0,0,1,0,0,0] (fc (yG C)<|fc (yF C) fz) (ay (dc (jc Jj ZZ) Ql<|dc (jc Jj ZY) (gC Jj 2<|cX Ww<|cX (aC 6) gB)<|a_ (jb (aY<|ah iS Q6 JC)<|tB<|aN 2 (wI Jj)<|U (aN 2 (uK Jj)<|U W6<|U (ah Jq (ah Jq (ah Jq Jl JC) Jv) Q6) aa)<|U Zu aa) (aH<|hZ<|U JC<|U Q6 aa) ba) Zy) ?_;intro vs H Q E (r,rs,M,tb,ts,kf,as,d,rfl,D,sq,T,am,k);let lr:=b_ D.rows;show(r,_,J,aq.of D.top,lh (λi a p=>E4 λF L f j=>A3 (a=[Y<|.ref r,Y<|.ref tb,Y<|.int d,F,L,f,j]) (az H p) (∀v∈(aQ M.9).take i,((u0 M d v).map λq=>(v,(q)))=O)) (O,O,O,O,J,QT,Jc) (λi a p _ (_,_,_,_,_,s,_)=>aq.of<|s _ _ D.top) ?_ ?_)
 .intro v x a H1 Tp N (F,L,f,j,rfl,P,B) an;let(R,ae,rfl):=sC N;let S:v<M.9:=by let:=(cU.1 ae).1;lia
  let(row,af,vr,ag,ai):=d7 D.rows ae;let ao:=sq row<|bM af;let s2:=P.trans<|aG (o:=.tup [.int v,.ref R]) an;let al:=zO S;show(R,_,J,aq.of<|s2 _ _ ag,lh (λi a p=>E2 λf j=>A3 (a=[Y<|.ref r,Y<|.ref tb,Y<|.int d,Y<|.int v,Y<|.ref R,f,j]) (az H p) (∀q∈(aQ M.9).take i,(decide (q≠v)&&cA (bh (aF M v q)<|bq M v d q) bp)=au)) (f,j,J,s2,Jc) (λi a p _ (_,_,_,s,_)=>aq.of<|s _ _ ag) ?_ ?_)
  .intro q y a H2 Tq hy (f,j,rfl,X,n) ap;let(l,E,ar):=d7 ai hy;let hq:q<M.9:=by let:=(cU.1 E).1;lia
   let el:aF M v q=l:=by delta aF;rw[fG af];show fG E
   let m:=X.trans<|aG (o:=.tup [.int q,y]) ap;let ab:=zO hq;show aT J4 λh=>?_
   .let ac:q≠v:=λz=>by rw[z]at h;simp at h
    obtain⟨t,ht⟩:∃t,ts[v]?=Y t:=(_,cy (by rw[T.len];show S));let(c,vc,w,e1,e2,e3,e4):=y0 (T.cols v t ht) (am v S) hq;show(aq.of<|m _ _ Qm,dI (v:=V.ref t) (by rw[c8,ht];rfl),aq.of<|m _ _ (T.cols v t ht).top,dI e1,aq.of<|m _ _ e2,dI e3,y,w,l,_,J,ar.to<|cg m,e4.to<|cg m,λz H3 s5 hz=>(z,_,_,bp,J,hz,(A.gw,J,C.qK H3),Jg))
    .show λb hb=>k _ _ ((m.trans s5).trans<|aG hb) ?_;let e5:u0 M d v=Y q:=by
      apply BP n ab;rw[el];erw[jo,oN];show(ac,h)
     let e6:sW M d=Y (v,(q)):=by
      show aaN B al (by rw[e5];rfl)
     rw[e6];show(b,J,bR.of aB)
    show(_,_,J,m.trans s5,sM n ab ?_);rw[el];let:cA (bh l<|bq M v d q) bp=au:=by exists h
    rw[this,PD]
   let ac:q=v:=by
    lia
   show(_,_,J,m,sM n ab ?_);rw[iK<|by simp[ac],Hu]
  intro a H2 (f,j,rfl,X,n);rw[b_ ai,ao,tT Jc]at n;show(_,_,_,_,J,X,?_);intro u hu;rw[take_snoc al]at hu;rcases dC.1 hu with z|z
  .show B u z
  let e:u=v:=by exists z
  rw[e];delta u0;rw[zP.2 λx N=>by rw[n x N];simp];rfl
 intro a H1 (F,L,f,j,rfl,P,B);rw[bz,lr,tT Jc]at B;apply k .aW H1 P;let e6:sW M d=O:=G7.2 B;rw[e6];rfl
def aaO xs:h_ xs O (Y<|-1)=xs.dropLast:=by
 delta h_;haveI e:HT.iW xs.9 xs.9 (Y<|-1)=xs.9-1:=by
  let:=HT.aha (-1) xs.9 xs.9;lia
 rw[e,List.dropLast_eq_take];rfl
def pQ M a:=(sW M a).map λx=>x.1::(jj M (bq M x.1) x.2 a).dropLast
def pS M:=((aQ<|M.9-1).findSome? λi=>pQ M JK).getD []
def amF{M}(h:sW M b=Y (v,(q))):v<M.9/\q<M.9:=by
 let(u,c,e):=asa h;cases a:u0 M b u with
 |none=>rw[a]at e;cases e
 |some z=>
  rw[a]at e;injection (bt e) with d f
  subst d f;show(cC.1 c,cC.1<|G8 a)
inductive aaP K(vs:Ju) H(Q:VK):Prop|mk r b M(c:vs=[.ref r])(d:eF K H r b M)(e:gi M)(f:M.9<=WN)(g:∀w a,az H a->H w=O->a w=Y (.lst (bW (pS M)))->Q Yo a)
theorem aaQ{f:Type}:∀{l:List f}{i j:JD}{a},l.Nodup->l[i]?=Y a->l[j]?=Y a->i=j
 |[],g,k,m,n,h,o=>by simp at h
 |x::r,0,0,g,k,m,n=>rfl
 |x::r,0,j+1,a,b,c,d=>by
  let e:=bt c;show absurd (e▸bM d) (mM.1 b).1
 |x::r,i+1,0,a,b,c,d=>by
  let e:=bt d;show absurd (e▸bM c) (mM.1 b).1
 |x::r,i+1,j+1,a,b,c,d=>by
  let:=aaQ (mM.1 b).2 c d;lia
def pP.push{K M}(T:pP K H i k M l b)(d:k[g]?=Y t)(o:fm K H p<|mr M g<|l g+1)(q:p∉k)(u:p≠i)(r:p∉b g):
  pP K (aA H t<|.lst<|(b g).map Qv++[.ref p]) i k M (λj=>if j=g then l g+1 else l j) (λj=>if j=g then b g++[p] else b j):=by
 let m:=bM d;let n:=T.cols g t d;show(by rw[aJ (λz:i=t=>T.nb<|z▸m)];show Qm,T.len,T.nd,T.nb,λj t' a=>?_,λj a c f=>?_)
 .cases e:j=g
  .subst e;rw[d]at a;obtain rfl:t=t':=bt a;simp;rw[aaM];show n.snoc o r λz=>q<|z▸m
  erw[aj e];haveI s:t'≠t:=λz=>by
   ext;show e<|aaQ T.nd a d
  let h:=T.cols j t' a;show(by rw[aJ s];show h.top,sA n.top qM h.rows λz=>(T.sep j (by let:=(cU.1 a).1;rw[T.len]at this;show this) t z).1 m,h.nd,h.na)
 cases e:j=g
 .subst e;erw[qj]at f;rcases dC.1 f with z|z
  .show T.sep j a c z
  ext
 erw[aj e]at f;show T.sep j a c f
def amG(ab:Jn):bI g 4 "find_ring" ["rows"] (aaP Jj):=by
 show bI.of (ab.f 85) wB akl (akm ab (aaK ab) (amE ab) (aaH ab)<|aaG ab) ?_;intro vs H Q hl (r,rs,M,rfl,R,sq,ai,k);let lr:=b_ R.rows;let eN:(((rs.map Qv).9:Nat):Int)=M.9:=by rw[bz];lia
 show(.inl<|aq.of R.top,_,J,Ja,by rw[eN];lia,λm al=>LS (λj E ys=>E2 λf s=>A7 (ys=f.map Qv) (f.9=j) f.Nodup (m∉f) ((∀b∈f,H b=O)) ((∀u t,f[u]?=Y t->eF Jj E t (s u) (pO M u 0))) (∀u,u<j->∀c∈s u,c∉f/\c≠m/\H c=O)) ([],λK=>[],J,J,xK,Jc,Jc,Jc,Jc) ?_ ?_)
 .intro j H1 ys hj sx hy av (f,s,rfl,B,t2,t3,t4,t5,S);rw[eN,ed]at hj;let s1:=il al sx;show uV (.inl<|aq.of<|s1 _ _ R.top,M.9,j,by rw[eN];simp,hj,ai,λc H2 C n hC=>λt h=>?_);let n3:az H2 (aA H2 t<|.lst [.ref c]):=aG h;let o:=C.trans n3;let ag:=o _ _ hy;let(vc,aw):=id hC;let ct:=dH aw h;let am:c≠m:=λz=>by rw[z,hy]at n;cases n
  let an:t≠m:=λz=>by rw[z,C _ _ hy]at h;cases h
  let a0:c∉f:=λz=>by
   let(i,hi):=kL z;let:=(t5 i c hi).top;rw[n]at this;cases this
  let a1:t∉f:=λz=>by
   let(i,hi):=kL z;let:=C _ _ (t5 i t hi).top;rw[h]at this;cases this
  show qO sx av Ja (mj o) ag (f++[t],λu=>if u=j then [c] else s u,by rw[eV];rfl,by rw[cE,B];rfl,wc t2 a1,?_,?_,?_,?_)
  .simp;show(t3,an.3)
  .intro b hb;rcases dC.1 hb with z|z
   .show t4 b z
   let e:b=t:=by exists z
   rw[e];show (s1.trans C).free h
  .intro u t' d;cases e:u=j
   .subst e;rw[<-B,asl]at d;obtain rfl:t=t':=bt d;simp;show(by rw[aJ an,aB];rfl,.cons ((hC.to n3).wJ ag qM am) .nil,Jc,by simp;show λz=>ct z.3)
   erw[aj e];let a2:u<j:=by
    let:=(cU.1 d).1;rw[cE,B]at this;simp at this;lia
   rw[xB Ja]at d;let Mu:=(t5 u t' d).to o;show(by rw[aJ (λz:t'=m=>t3<|z▸bM d)];show Mu.top,sA ag qM Mu.rows λz=>(S u a2 m z).2.1 J,Mu.nd,Mu.na)
  intro u d c' ac;cases e:u=j
  .erw[ak e]at ac;let e:c'=c:=by exists ac
   rw[e];simp;show((a0,ct),am,s1.free n)
  erw[aj e]at ac;let(i1,i2,i3):=S u Ja c' ac;show(?_,i2,i3);simp;show(i1,λz=>?_);obtain⟨tu,a3⟩:∃tu,f[u]?=Y tu:=J8;let(i,hi):=kL ac;let(_,_,_,e):=d7 (t5 u tu a3).rows hi;rw[z]at e;rw[C _ _ e]at h;cases h
 intro H1 ys sx hy (f,s,rfl,B,t2,t3,t4,t5,S);rw[eN]at B S;let s1:=il al sx;let eI:((((rs.map Qv).9:Nat):Int)-1).6=M.9-1:=by rw[eN];lia
 show(.inl<|aq.of<|s1 _ _ R.top,_,_,J,(by rw[eN];lia),pj (λi F E=>E5 λx2 L x4 x6 s=>A5 (F=[Y<|.ref r,Y<|.ref m,x2,L,x4,O,x6]) (az H E) (pP Jj E m f M (λK=>i) s) ((∀u,u<M.9->∀c∈s u,H c=O)) (∀u∈(aQ (M.9-1)).take i,pQ M (u+1)=O)) (O,O,O,O,s,J,s1,(hy,B,t2,t3,t5,λu d c n=>((S u d c n).1,(S u d c n).2.1)),λu d c n=>(S u d c n).2.2,by simp) ?_ ?_)
 .intro i F H2 hi (x2,L,x4,x6,ao,rfl,C,T2,ap,ae);rw[eI]at hi;let ar:=zO hi;show(m,J,(_,aq.of T2.top),k7 (λj F E=>E2 λL s=>A4 (F=[Y<|.ref r,Y<|.ref m,Y<|.int<|1+i,L,x4,O,x6]) (az H E) (pP Jj E m f M (λu=>if u<j then i+1 else i) s)<|(∀u,u<M.9->∀c∈s u,H c=O)) (L,ao,J,C,by simpa using T2,ap) (λj F E _ (_,_,_,_,T,_)=>aq.of Qm) ?_ ?_)
  .intro j x F H3 hx (L,N,rfl,o,X,af);let(t,h,rfl):=sC hx;let hj:j<M.9:=by let:=(cU.1 h).1;rw[B]at this;show this
   let Mj:=X.cols j t h;simp at Mj;let(ci,a4,a5):=eS Mj.rows<|Mz<|bf i;show(.inl (J,_,aq.of Mj.top),aq.of Mj.top,fU (j:=i) Ja (by rw[c8,a4];rfl),r,rs,M,ci,_,J,R.to o,sq,a5,FT M j i,ai,λp H4 D y hP=>(D _ _ Mj.top,?_,Y Zm,λx=>if x=j then N j++[p] else N x,J,bZ (o.trans D)<|t4 t<|bM h,?_,?_))
   .rw[bz,b_ Mj.rows,cP];simp;lia
   .let:=(X.to D).push (g:=j) h (by erw[aj<|oU j];show hP) (λz=>by
      let(u,d):=kL z;let:=(X.cols u p d).top;rw[y]at this;cases this) (λz=>by rw[z,X.top]at y;cases y) (λz=>by
      let(u,d):=kL z;let(_,_,_,e):=d7 Mj.rows d;rw[y]at e;cases e)
    let a6:(λx=>if x=j then (if j<j then i+1 else i)+1 else if x<j then i+1 else i)=λu=>if u<j+1 then i+1 else i:=by
     funext x;cases e1:x=j
     .subst e1;simp
     cases e2:x<j
     .rw[aj e1,ak e2,ak Ja]
     rw[aj e1,aj e2,aj Ja]
    rw[a6]at this;show this
   intro u d c n;cases e:u=j
   .erw[ak e]at n;rcases dC.1 n with z|z
    .show af j hj c z
    let e:c=p:=by exists z
    rw[e];show o.free y
   erw[aj e]at n;show af u d c n
  intro F H3 (L,N,rfl,o,X,af);let as:pP Jj H3 m f M (λu=>if u<M.9 then i+1 else i) N:=by
   rw[bz,B]at X;show X
  show(r,rs,M,m,f,_,N,JK,?_,R.to o,sq,as,λu d=>by rw[ak d];show bf _,λv H4 D P=>?_)
  .let:(1:Int)+(i:JD)=((i+1:Nat):Int):=by lia
   rw[this]
  let T4:=as.to D;let Tn:pP Jj H4 m f M (λK=>i+1) N:=(T4.top,T4.len,T4.nd,T4.nb,λu t d=>by
   let:=T4.cols u t d;let a7:u<M.9:=by let:=(cU.1 d).1;rw[B]at this;show this
   erw[ak a7]at this;show this,T4.sep)
  cases e:sW M JK with
  |none=>
   rw[e]at P;let P:v=.aW:=P;subst P;show(_,_,_,_,N,J,o.trans D,Tn,af,?_);intro u d;rw[take_snoc ar]at d;rcases dC.1 d with z|z
   .show ae u z
   let e2:u=i:=by exists z
   rw[e2];delta pQ;rw[e];rfl
  |some x=>
   rw[e]at P;let(a,rfl,qa):=P;let(v,q):=x;let(P,hq):=amF e;obtain⟨t,h⟩:∃t,f[v]?=Y t:=(_,cy (by rw[B];show P));let er:pS M=v::(jj M (bq M v) q JK).dropLast:=by
    delta pS;rw[aaN ae ar (by delta pQ;rw[e];rfl)];rfl
   show(qa,J,aq.of Tn.top,dI (by rw[c8,h];rfl),qa,J,r,rs,t,N v,M,v,JK,q,JK,?_,R.to<|o.trans D,sq,Tn.cols v t h,hq,JR,Ja,λw H5 s5 hw e5=>?_)
   .let:(1:Int)+(i:JD)=((i+1:Nat):Int):=by lia
    rw[this]
   let lw:(jj M (bq M v) q JK).9<=i+2:=by
    delta jj;rw[gm];let:=FU M (bq M v) JK q<|g_ (bq M v) q JK;lia
   show(cN (cg s5) qa,J,λl hl=>(aq.of<|aG hl _ _ e5,λp y=>(aG y _ _ aB,aB,?_,λz hz=>k z _ (((o.trans D).trans s5).trans<|(aG hl).trans<|(aG y).trans<|aG hz) (((o.trans D).trans s5).free<|(aG hl).free<|(aG y).free hz) ?_)))
   .rw[aaO,L6];erw[bW,bz,as4];rw[cP];simp;lia
   rw[aB,aaO,L6,er];rfl
 intro F H2 (x2,L,x4,x6,ao,rfl,C,T2,ap,ae);rw[eI,tT Jc]at ae;let er:pS M=[]:=by
  delta pS;rw[G7.2 ae];rfl
 rw[er]at k;show λp y=>k p _ (C.trans<|aG y) (C.free y) aB
abbrev bJ(l:Jw):=l.map V.int
abbrev aM(s:bX):=Zf
abbrev cM s g:=dU s g
abbrev aU s g:=gO s (dU s g) []
def y4(a:J6):0<aM s/\aM s<2^1900:=by let(b,c):=fV a;show(b,Dn c Jc)
def sX s g:bO QL J0:=by let:=FO s (dU s g) [];rwa [c6]at this
def oC(a:J6) g u v:LB (2^331) (aF ZM u v):=amv a (FN a _ _) (sX s g) u v
def y6:2^331<2^1900:=Jc
def dA s g a:=mq ZP a<|bN ZM
def amH kn a c:mq kn a c=0\/mq kn a c<0:=by
 delta mq;split
 .right;decide
 split
 .right;decide
 left;rfl
def aaR:h_ (x::bW a) (Y 1) O=bW a:=by
 change (bW a).take ((bW a).9+1-1)=bW a
 rw[atA,ir]
def FW{g:G}{A:Ad}{S H:Hp}{t f:ax}{s:bX}{a:JH}{b:ZR}{rw:Option V}{tl:List (Option V)}{rest:TS}{D:jU}(T:c9 Jj A S H t s)(m:J6)(n:H f=Y (.lst<|.int a::bW b))(w: -1<=a)(x:a<(s.events.9:Int))(y:∀e∈b,e<Jb)
  (B:dA s a b<0->iD H [dA s a b] D.rt)
  (C:¬dA s a b<0->∀v p c i,az H c->az c i->i9 Jj A c i v p (aM s:JD) (cM s a) (aU s a)->rest D (Y Zm::Y J7::rw::Y Uk::Y (.int<|dA s a b)::tl) i):
  (ay JF<|ay JP<|ay JT rest) D (Y Zm::Y J7::rw::O::O::tl) H:=by
 let E:=m.dr;let F:=c6 s a;show(aq.of n,fU (j:=0) J J,S,t,s,a,J,T,m,w,x,λv p c L N o k P r=>?_);let l:=o.trans k;show(aq.of<|l _ _ n,λq d=>(c,v,p,_,_,_,q,b,J,k.trans WB,r.to WB,Ja,aq.of<|by rw[aB,aaR],?_,Jg))
 .intro e he;let:=y e he;lia
 .let h:dA s a b<0:=WI;show λz u=>B h z _ ((l.trans WB).trans<|aG u) ((l.trans WB).free u) aB
 let h:¬dA s a b<0:=Zj
 show C h v p c _ o (k.trans WB)<|r.to WB
inductive FX(K:bH)(A:Ad)(f:bX->Int->Nat->Nat->List Int)(vs:Ju)(H:Hp)(Q:VK):Prop|mk(S:_)(t:_)(s:_)(wh:_)(rw:_)(g:_)(a:_)(b:_)(c:vs=[.ref t,.ref wh,rw])(d:JO)(e:J6)(h:H wh=Y (.lst (.int g::bW [a,b])))(i:Um)(j:Jz)(k:a<Jb)(l:b<Jb)(m:iD H (f s g a b) Q):FX K A f vs H Q
def B1{b:JD}(c:a<n)(d:b<n):∀e∈[a,b],e<n:=by ext
def y8 s g e f:=if dA s g [e,f] <0 then [dA s g [e,f]] else 0::(p_ (bE Qe<|iF<|aF ZM WZ J5)++p_ (bE Qe<|aF ZM J5 WZ))
def amI(c:Jn):aK g 7 160 (FX Jj A y8):=by
 show aK.rd c 5 [3,0,2,0,1,0,1,0,0,9,10] (fc (aav c)<|mc c.jf.cl (Mp c)<|fc (uY c)<|fc (oz c) fz) (ay JF<|ay JP<|ay JT<|aH<|ah ic Zh<|aN 2 (Mq Jj)<|U (c5 Z3 "bounds_between" 3 (FK Jj A) JC<|U JZ<|U JV aa)<|U (aD ZO WM "scale") aa) ?_;intro vs H Q hl (S,t,s,wh,rw,e,a,b,rfl,T,d,j,C,D,E,F,k);let lk:=c6 s e;let(L,l):=y4 d;delta y8 at k;show FW T d j C D (B1 E F) (λh=>by rw[ak h]at k;show k) λh v p N P R X V3=>?_
 rw[aj h]at k;show λz hz=>?_;let q:=aG (o:=WH) hz;let f:=(R.trans X).trans q;let m:=V3.to q;let ez:aA P z WH z=Y WH:=aB;let(dx,al,ac,ab):=id m;show(ab.top,aq.of<|f _ _ j,J,aq.of<|f _ _ j,J,N,v,p,_,_,_,a+1,b+1,by simp[de],m,Ja,Ja,λx H5 i hx=>?_);let(ae,af,ag,u):=m.to i;let(dp,kA,r,rs,T5):=u.st;show(u.top,T5.top,x,_,_,Qe,J,hx,(LB.neg<|oC d e _ _).lI y6,(oC d e _ _).lI y6,L,l,λy H6 n hy ey=>((i.trans n) _ _ ez,ey,?_,λw B=>k w _ ((f.trans<|i.trans n).trans<|aG B) ((f.trans<|i.trans n).free B) ?_))
 .let:=oA ((LB.neg<|oC d e (b+1)<|a+1).lI y6) l;let:=oA ((oC d e (a+1)<|b+1).lI y6) l;rw[cP];simp;lia
 rw[aB];rfl
inductive MC(K:bH)(vs:Ju) H Q:Prop|mk a l(b:ZC)(c:H a=Y (.lst (bW l)))(d:l.9<=10000)(e:iD H (tY l) Q)
def aaS(h:Jn):bI g 1 "as_points" ["places"] (MC Jj):=by
 show bI.of (h.f 86) Ll akn (ako h) ?_;intro vs H Q q (a,l,rfl,i,r,k);show(a,J,(_,aq.of i),λD c=>yN c (λj s d=>d=bJ (tY<|l.take j)) J (aq.of i) ?_ ?_)
 .intro j x e d o f b p rfl;let(n,m,rfl):=aah o;let t:=(cU.1 m).1;show uV<|qO f p Ja (mj<|az.refl e) b ?_;delta bJ tY;rw[take_snoc m,eV,eV];rfl
 intro e d f b rfl;rw[show (bW l).9=l.9 by simp[bW],ir]at b;show k D e (il c f) c b
def y9 s g e f:=if dA s g [e,f] <0 then [dA s g [e,f]] else ((wW J0 J5 WZ).9:Int)::tY (wW J0 J5 WZ)
def MD M u v:(wW M u v).9<=M.9+1:=by
 delta wW;split
 .ext
 delta jj;ext;let:=FU M (bq M v) M.9 u<|g_ (bq M v) u M.9;lia
def amJ(c:Jn):aK g 7 161 (FX Jj A y9):=by
 show aK.rd c 6 [3,0,2,0,1,9,10,0,0,0,0,1,90,0] (fc (aaS c)<|fc (amD c)<|fc (uY c)<|fc (oz c) fz) (ay JF<|ay JP<|ay JT<|ay (aP (aN 3 (aaL Jj)<|U (aD ZO WM "rows")<|U (ah QN JZ Jh)<|U (ah QN JV Jh) aa) Ww)<|aH<|ah ic (bx<|U (bA Qb<|U Q6 aa) aa)<|aN 1 (MC Jj)<|U Q6 aa) ?_;intro vs H Q X (S,t,s,wh,rw,l,a,b,rfl,T,m,f,B,C,D,E,k);let ab:=m.dr;let lk:=c6 s l;delta y9 at k;show FW T m f B C (B1 D E) (λh=>by rw[ak h]at k;show k) λh v p H1 H3 F L N=>?_
 rw[aj h]at k;let d:=F.trans L;let(dx,al,ac,n):=id N;let(dp,kA,r,P,e):=n.st;let lM:=e.len;let lc:=MD (aU s l) (a+1)<|b+1;show(n.top,e.top,aq.of<|d _ _ f,J,aq.of<|d _ _ f,J,r,P,_,a+1,b+1,J,e.gG,e.sq,Ja,Ja,Ja,λw H4 o ae q=>(.inl<|aq.of q,λz i=>(w,_,J,aG i _ _ q,Ja,λy H5 j hy R=>(j _ _ aB,R,?_,λx u=>k x _ ((d.trans o).trans<|(aG i).trans<|j.trans<|aG u) ((d.trans o).free<|(aG i).free<|j.free u) ?_))))
 .erw[tY];rw[cP];simp;lia
 rw[aB];simp[bW]
def u5(f b:SL):Int:=(if cA bp f=I then 1 else 0)+(if (!cA f bp&& !cA b bp)=I then 2 else 0)+(if cA bp b=I then 4 else 0)
def y_ s g e f:=if dA s g [e,f] <0 then [dA s g [e,f]] else [u5 (aF ZM J5 WZ)<|aF ZM WZ J5]
def amK a:HT.lexLt [0,0] [a.1,gD a.2]=cA bp (Y a):=Lx (0,(au)) a
def amL a:qG [a.1,gD a.2] [0,0]= !cA (Y a) bp:=by
 let(n,o):=a;delta bp;erw[qG,cA];cases h:n=0
 .subst h;cases o<;>simp[gD]
 rw[aj h];rw[nO];simp[h]
def aaT(c:Jn)(d:e[i]?=Y (Y x))(b:cS Jj H x l)(k:F (cA bp l) H):if decide (x=V.aW)=I then F I H else aY (ah (yo Jj) (Z i) Zu) e H F:=by
 cases l with
 |none=>
  cases b;show k
 |some a=>
  let(p,rfl,q):=b;erw[aY,ah,Z,A_,d];show(_,_,[a.1,gD a.2],[0,0],J,J,q,c.qK H,?_);rwa [amK]
def aaU(c:Jn)(d:e[i]?=Y (Y x))(b:cS Jj H x l)(k:F (!cA l bp) H):if decide (x=V.aW)=I then F I H else aY (ah (yp Jj) (Z i) Zu) e H F:=by
 cases l with
 |none=>
  cases b;show k
 |some a=>
  let(p,rfl,q):=b;erw[aY,ah,Z,A_,d];show(_,_,[a.1,gD a.2],[0,0],J,J,q,c.qK H,?_);rwa [amL]
def amM(e:Jn):aK g 7 164 (FX Jj A y_):=by
 show aK.rd e 8 [2,0,1,0,0,0,0,0,0,0,1,1,1,1] (mc e.jf.cl (FJ e)<|fc (uY e)<|fc (oz e) fz) (ay JF<|ay JP<|ay JT<|ay (aP (c5 Z3 "limit_between" 3 (sU Jj A) JC<|U JZ<|U JV aa) Ww)<|ay (aP (c5 Z3 "limit_between" 3 (sU Jj A) JC<|U JV YB)<|aC 6)<|ay (aP Jf<|aC 7)<|ay (a_ (fS (tB<|gT Q6)<|aY<|ah (yo Jj) Q6 Zu) (n8 7 Jh U1) ba)<|ay (a_ (jb (fS (tB<|gT Q6)<|aY<|ah (yp Jj) Q6 Zu)<|fS (tB<|gT W6)<|aY<|ah (yp Jj) W6<|tC (.ref A.gw)) (n8 7 (tC (.int 2)) U1) ba) (ay Qx (aH (bx W8)))) ?_;intro vs H Q hl (S,t,s,l,rw,c,a,b,rfl,T,L,u,N,P,R,X,k);let lk:=c6 s c;delta y_ at k;show FW T L u N P (B1 R X) (λh=>by rw[ak h]at k;show k) λh v p w m s1 s2 n=>?_
 rw[aj h]at k;let o:=s1.trans s2;let(dx,al,ab,B):=id n;let f:=o _ _ u;show(B.top,WG,J,WG,J,w,v,p,_,_,_,a+1,b+1,by simp[de],n,Ja,Ja,λx C=>?_);show(B.top,WG,J,WG,J,w,v,p,_,_,_,b+1,a+1,by simp[de],n,Ja,Ja,λy D=>?_);let fin:∀z:Int,z=u5 WQ ZD->aH (bx W8) Yy [Y Zm,Y (.ref l),Y rw,Y Uk,Y (.int (dA s c [a,b])),Y x,Y y,Y (.int z)] m:=by
  show λz d=>(λq E=>k q _ (o.trans (aG E)) (o.free E) ?_)
  rw[aB,<-d];rfl
 let r:∀z:Int,z+(if cA bp ZD=I then 4 else 0)=u5 WQ ZD->ay Qx (aH (bx W8)) Yy [Y Zm,Y (.ref l),Y rw,Y Uk,Y (.int (dA s c [a,b])),Y x,Y y,Y (.int z)] m:=by
  show λz d=>aaT e (by rfl) D ?_
  show aT J4 λh=>?_
  .rw[ak h]at d;show(_,J,_,_,J,J,fin _ d)
  rw[aj h,afG]at d;show fin _ d
 let F:∀z:Int,z+(if (!cA WQ bp&& !cA ZD bp)=I then 2 else 0)+(if cA bp ZD=I then 4 else 0)=u5 WQ ZD->ay (a_ (jb (fS (tB (gT Q6)) (aY (ah (yp Jj) Q6 (tC (.ref A.gw))))) (fS (tB (gT W6)) (aY (ah (yp Jj) W6 (tC (.ref A.gw)))))) (n8 7 (tC (.int 2)) U1) ba) (ay Qx (aH (bx W8))) Yy [Y Zm,Y (.ref l),Y rw,Y Uk,Y (.int (dA s c [a,b])),Y x,Y y,Y (.int z)] m:=by
  show λz d=>aaU e (by rfl) C ?_
  show aT J4 λh=>?_
  .show aaU e ?_ D ?_
   .rfl
   show aT (λh'=>?_) λh'=>?_
   .rw[ak (by rw[h,h'];rfl)]at d;show(_,J,_,_,J,J,r _ d)
   rw[aj (by rw[jo];show λz=>h' z.2),afG]at d;show r _ d
  rw[aj (by rw[jo];show λz=>h z.1),afG]at d;show (r _ d)
 apply aaT e (by rfl) C;show aT J4 λh=>?_
 .show(_,J,_,_,J,J,F _ ?_);delta u5;rw[ak h];rfl
 show F _ ?_;delta u5;rw[aj h]
def amN:dj->Pos|.Call a [b,.Lambda c d e p] f g=>p|.Call a b [(c,.Lambda d e f p,g)] h=>p|a=>(0,0,0,0)
def amO:eP->dj|.Assign a v b=>v|.Return (Y v) a=>v|a=>.Name "" (0,0,0,0)
def sY st i:=amN<|amO<|(iY st).getD i<|.Pass (0,0,0,0)
structure Tb where
 s:ax
 o:ax
 l:ax
 s0:Array aO
 o0:Array aO
 l0:Array aO
abbrev ME:Str:="sets_of_nodes.<locals>.<lambda>"
abbrev MF:Str:="answer_over.<locals>.<lambda>"
abbrev MG:Str:="answer_living.<locals>.<lambda>"
structure qS(T:Tb)(H:Hp):Prop where
 s:H T.s=Y (.tab T.s0 (sY pF 2) ME)
 o:H T.o=Y (.tab T.o0 (sY qI 2) MF)
 l:H T.l=Y (.tab T.l0 (sY qJ 3) MG)
def qS.to(t:qS T H)(m:WE):qS T a:=(m _ _ t.s,m _ _ t.o,m _ _ t.l)
def sZ kn(row:Jw):=decide (1<=row.9/\row.9<=40)&&row.all λx=>x== -1||(decide (0<=x/\x<(kn.9:Int))&&kP kn (x+1).6)
inductive aaV K A(vs:Ju) H(Q:VK):Prop|mk a S t s p sc kn M rw row(b:vs=[.ref t,.ref p,.ref rw])(c:UP)(d:c9 K A a H t s)(e:Qa)(f:kn.9=Jb)(g:H rw=Y (.lst (bJ row)))(h:Q (.bl (sZ kn row)) H)
def B2{i:JD}(h:(bJ l)[i]?=Y v):∃n,l[i]?=Y n/\v=.int n:=by induction e:l[i]?<;>ext
def aaW{a:Type}{p:a->Bool}{l:UI}{x}(b:∀x∈l.take i,p x=I)(c:l[i]?=Y x)(e:p x=I):∀y∈l.take JK,p y=I:=by
 rw[take_snoc c];intro y d;rcases dC.1 d with h|h
 .show b y h
 ext
def amP(d:Jn):aK g 2 162 (aaV Jj A):=by
 show aK.rd d 4 [0,90,0,90,0,0,1,0] (mc d.iC.cl (Fw d)<|fc (Fh d) fz) (ay (a_ (fS (aY<|ah QO (bA Qb Qg) Jh)<|aY<|ah Wq (bA Qb Qg)<|tC<|.int<|40) WJ ba)<|ay (dc (gU Jj Jv) Zx<|a_ (jb (aY<|ah iS JC Q0)<|jV<|jb (tB<|aN 2 (yK Jj A)<|U Ji Zo)<|tB<|c5 ZO "is_known" 2 (yP Jj A) Jl Zo) WJ ba)<|aH<|tC<|.bl I) ?_;intro vs H Q C (u,S,t,s,p,sc,kn,M,rw,row,rfl,w,T,St,n,f,k);let(D,kA,r,E,y):=id St;let F:((bJ row).9:Int)=row.9:=Jc
 delta sZ at k;show(.inl WG,aT J4 λh=>(.inl WG,Zv))
 .let h:((bJ row).9:Int) <1:=WI;rwa [iK Ja,Hu]at k
 .let h':40<((bJ row).9:Int):=cV h';rwa [iK Ja,Hu]at k
 let h:¬((bJ row).9:Int) <1:=Zj
 rw[cn Ja]at k;show(rw,J,(_,WG),k7 (λi j o=>∃l,A3 (j=[Y Zm,Y JS,Y<|.ref rw,l]) (o=H) (∀x∈row.take i,(x== -1||(decide (0<=x/\x<kn.9)&&kP kn (x+1).6))=I)) (O,J,J,Jc) (λi j o _ (_,_,e,_)=>e▸aq.of f) ?_ ?_)
 .intro i v j q B (l,rfl,rfl,c);let(x,m,rfl):=B2 B;haveI bad:¬(x== -1||(decide (0<=x/\x<kn.9)&&kP kn (x+1).6))=I->Q (.bl au) q:=λz=>by
   rw[Lp m<|by exists z]at k;show k
  show aT (λa=>?_) λa=>?_
  .haveI a:x≠ -1:=by intro z;rw[z]at a;simp at a
   show(u,t,s,x,J,T,aT (λhe=>?_) λhe=>?_)
   .let he:0<=x/\x<s.events.9:=cV he;show(y.top,S,p,sc,kn,M,(x+1).6,?_,w,St,Ja,aT (λb=>?_) λb=>?_)
    .delta de;rw[show (((x+1).6:Nat):Int)-1=x by lia]
    .show bad λz=>?_
     simp[a,he,n]at z b;rw[z]at b;cases b
    show(_,J,J,aaW c m ?_);simp at b;simp[he,n,b]
   show aT (λK=>bad λz=>?_) λh=>absurd J h
   show he<|cn Ja
  haveI a:x= -1:=by exists a
  show(_,J,J,aaW c m<|by simp[a])
 intro j q (l,rfl,rfl,c);rw[show (bJ row).9=row.9 by simp[bJ],ir]at c;rwa [mL.2 c]at k
def za M(row:Jw):=(aQ<|row.9-1).foldl (λl i=>bh l<|aF M (row.getD i 0+1).6 (row.getD JK 0+1).6) bp
def wX s g row:=if sZ ZP row=I then 0::p_ (bE Qe<|za J0 row) else [-4]
inductive amQ K A(vs:Ju) H Q:Prop|mk S t s wh rw g row(a:vs=[.ref t,.ref wh,.ref rw])(b:JO)(c:J6)(d:H wh=Y (.lst [.int g]))(e:H rw=Y (.lst (bJ row)))(f:Um)(h:Jz)(i:iD H (wX s g row) Q)
theorem MH(b:J6) g(row:Jw):∀k,LB (k*2^310) ((aQ k).foldl (λl i=>bh l<|aF J0 (row.getD i 0+1).6 (row.getD JK 0+1).6) bp)
 |0=>Mw _
 |k+1=>by
  rw[j3,au2];show LB.add (MH b g row k)<|LB.mono (λa e=>FN b _ _ _ _ a e)<|mU<|BX b
def amR(c:Jn):aK g 6 163 (amQ Jj A):=by
 show aK.rd c 6 [3,4,0,2,2,90,1,0,0,9,0,0,0,0,0,1,0,9] (fc (aat c)<|fc (yF c)<|fc (amP c)<|fc (Mi c)<|fc (BU c) fz) (ay (aP (aN 3 (FH Jj A)<|U Ji<|U (aN 2 (wz Jj A)<|U Ji<|U Qo aa)<|U Z1 aa) Zx)<|ay (a_ (jV<|tB<|aN 3 (aaV Jj A)<|U Ji<|U JC Qg) (aH<|bx<|U (tC<|.int<|-4) aa) ba)<|ay (aP Zu UN)<|ay (dc (AH<|U Jh<|U (bA Qb Qg) aa) Ww<|aP (aN 2 (uK Jj)<|U Qi<|U (ah Jq (ah Jq (aD ZO JC "rows")<|ah QN (ah Jq Jv<|ah Q4 Q6 Jh) Jh)<|ah QN (ah Jq Jv Q6) Jh) aa) UN)<|aH<|ah ic Zh<|aN 2 (FI Jj)<|U Qi<|U (aD ZO JC "scale") aa) ?_;intro vs H Q hl (S,t,s,wh,rw,a,row,rfl,T,u,hw,C,ae,af,k);let L:=c6 s a;let(c1,N):=y4 u;delta wX at k;show(aq.of hw,J,S,t,s,a,J,T,u,ae,af,λkA H1 P fk hk=>λe he=>(S,t,s,kA,dU s a,e,[],J,T.to<|P.trans<|aG he,u,aG he _ _ hk,L,aB,λp D hp R St=>?_));let d:=(P.trans<|aG he).trans R;show(S,_,t,s,p,_,_,_,rw,row,J,R,T.to d,St,L,d _ _ C,?_);cases o:sZ (dU s a) row with
 |false=>
  rw[show sZ (cM s a) row=au from o]at k;show λz f=>k z _ (d.trans<|aG f) (d.free f) aB
 |true=>
  rw[show sZ (cM s a) row=I from o]at k;delta sZ at o;rw[jo,oN]at o;let((am,an),ag):=o;let X:∀i,i<row.9-> -1<=row.getD i 0/\row.getD i 0<Jb/\(row)[i]?=Y (row.getD i 0):=by
   intro i hi;let hm:row.getD i 0∈row:=by
    rw[jO,cy hi];show Pj hi
   let:=mL.1 ag _ hm;rw[aus,jo,vM,oN]at this;show(by rcases this with h|⟨h,_⟩<;>lia,by rcases this with h|⟨h,_⟩<;>lia,by rw[jO,cy hi];rfl)
  let eR:((((bJ row).9:Nat):Int)-1).6=row.9-1:=by simp[bJ]
  show(.inl<|aq.of<|d _ _ C,_,_,J,(by simp[bJ];lia),pj (λi E H'=>E2 λx v=>A3 (E=[Y Zm,Y (.ref wh),Y (.ref rw),Y JS,Y v,x]) (az D H') (cS Jj H' v ((aQ i).foldl (λl i=>bh l (aF (aU s a) (row.getD i 0+1).6 (row.getD JK 0+1).6)) bp))) (O,.ref A.gw,J,az.refl D,A.gw,J,c.qK D) ?_ ?_)
  .intro i E H3 hi (x,v,rfl,m,n);rw[eR]at hi;let(p1,p2,p3):=X i Ja;let(q1,q2,q3):=X JK Ja;let ab:=(d.trans m) _ _ C;let(dp,ai,r,rs,b):=St.to m;let(q,vs,y,m1,m2,m3,m4,m5):=Ml (i:=(row.getD i 0+1).6) (j:=(row.getD JK 0+1).6) b.gG b.sq (by rw[b.len];lia) (by rw[b.len];lia);show(b.top,(aq.of ab),(fU (j:=i) (v:=V.int (row.getD i 0)) Ja (by rw[c8,p3];rfl)),(aq.of b.gG.top),(fU Ja m2),(aq.of ab),(fU (j:=JK) (v:=V.int (row.getD JK 0)) Ja (by rw[c8,q3];rfl)),(aq.of m3),(fU (j:=(row.getD JK 0+1).6) Ja m4),v,y,_,_,J,n,m5,λw H4 B al=>(_,w,J,m.trans B,?_));rw[j3];show al
  intro E H3 (x,v,rfl,m,n);rw[eR]at n;replace n:cS Jj H3 v (za (aU s a) row):=n;let lb:=MH u a row (row.9-1);let lI:sR (za (aU s a) row):=LB.lI lb (by
   let:(row.9-1)*2^310<=40*2^310:=f7 Ja JR;show fP this Je)
  let(dp,ai,r,rs,b):=St.to m;let B:=d.trans m;show (λz f=>(aG f _ _ b.top,v,_,Qe,J,n.to (cg (aG f)),lI,c1,N,λy H4 F hy ey=>(F _ _ aB,ey,?_,λw ac=>k w _ ((B.trans (aG f)).trans (F.trans (aG ac))) (B.free ((aG f).free (F.free ac))) ?_)))
  .let:=oA lI N;rw[bz,cP];change 1+_<=_
   lia
  rw[aB];rfl
def wY s g:=if bN ZM=I then ((pS J0).9:Int)::tY (pS J0) else [0]
inductive aaX K A(f:bX->Int->List Int)(vs:Ju) H Q:Prop|mk S t s wh rw g(a:vs=[.ref t,.ref wh,rw])(b:JO)(c:J6)(d:H wh=Y (.lst [.int g]))(e:Um)(h:Jz)(i:iD H (f s g) Q)
def MI M:(pS M).9<=M.9+2:=by
 delta pS;cases e:(aQ<|M.9-1).findSome? λi=>pQ M JK with
 |none=>show eX _
 |some l=>
  let(i,hi,a):=asa e;let hi:=cC.1 hi;delta pQ at a;cases b:sW M JK with
  |none=>rw[b]at a;cases a
  |some x=>
   rw[b]at a;rw[<- (bt a)];delta jj;simp;let:=FU M (bq M x.1) JK x.2<|g_ (bq M x.1) x.2 JK;lia
def amS(a:Jn):aK g 7 165 (aaX Jj A wY):=by
 show aK.rd a 5 [3,0,2,1,9,10,1,90,0] (fc (aaS a)<|fc (amG a)<|mc a.jf.cl (sV a)<|fc (oz a) fz) (ay JF<|ay (a_ (jV<|tB<|c5 Z3 "contradicts" 1 YH JC aa) (aH Zh) ba)<|ay (aP (aN 1 (aaP Jj)<|U (aD ZO WM "rows") aa) UN)<|aH<|ah ic (bx<|U (bA Qb ZY) aa)<|aN 1 (MC Jj) ZY) ?_;intro vs H Q N (S,t,s,P,rw,c,rfl,T,j,q,u,B,k);let R:=j.dr;let X:=c6 s c;delta wY at k;show(aq.of q,J,S,t,s,c,J,T,j,u,B,λv p C H2 hv D E hp l=>?_);let d:=D.trans E;let(dx,al,ab,f):=id l;let(dp,kA,r,F,e):=f.st;let lM:=e.len;show(f.top,C,v,p,_,_,_,J,l,Ja,Jg)
 .let h:¬bN (aE<|aU s c)=I:=by exists h
  rw[aj h]at k;show λz b=>k z _ (d.trans<|aG b) (d.free b) aB
 let h:bN (aE<|aU s c)=I:=by exists h
 rw[ak h]at k;let lc:=MI<|aU s c;show(f.top,e.top,r,F,_,J,e.gG,e.sq,Ja,λw H4 m ac n=>(.inl<|aq.of n,λz b=>(w,_,J,aG b _ _ n,Ja,λy H5 i hy L=>(i _ _ aB,L,?_,λx o=>k x _ ((d.trans m).trans<|(aG b).trans<|i.trans<|aG o) ((d.trans m).free<|(aG b).free<|i.free o) ?_))))
 .erw[tY];rw[cP];simp;lia
 rw[aB];simp[bW]
def s_ s deaf:=bN<|aE<|gO s (dU s<|-1) deaf
inductive EN K A(vs:Ju) H(Q:VK):Prop|mk S t s lo deaf(b:vs=[.ref t,.ref lo])(c:JO)(d:J6)(e:H lo=Y (.lst (bW deaf)))(f:∀a,az H a->Q (.bl (s_ s deaf)) a)
def amT(a:Jn):aK g 6 167 (EN Jj A):=by show aK.rd a 2 [3,0,1,2] (kc (BV a)<|fc (Mi a)<|fc (BU a)<|mc a.jf.cl (sV a) fz) (aH<|c5 Z3 "contradicts" 1 YH (fJ (yX Jj A)<|U (aN 3 (FH Jj A)<|U Ji<|U (aN 2 (wz Jj A)<|U Ji<|U Q0 aa) Qh) aa) aa) ?_;intro vs H Q q (S,t,s,e,deaf,rfl,T,b,f,k);let r:=b.dr;let h:=WA;show(S,t,s, -1,J,T,b,Ja,Ja,λkA i c u j=>(S,t,s,kA,_,e,deaf,J,T.to c,b,j,h,c _ _ f,λp w x l St=>(_,p,_,_,_,J,St,Ja,λv m y n d=>?_)));let(z,B,C,o):=id d;show(o.top,i,v,p,_,_,_,J,d,Ja,k m<|c.trans<|l.trans n)
inductive NLL(H:Hp) p L:Prop|mk ps(a:H p=Y (.lst (ps.map V.ref)))(b:bw (λq l=>H q=Y (.lst<|bW l)) ps L)
inductive B3 T(vs:Ju) H(Q:VK):Prop|mk(n:JD)(b:vs=[.int (n:JH)])(c:n<=6)(d:qS T H)(e:∀p a,az H a->NLL a p (qf n)->Q JS a)
def wZ(s:bX):List Int:=match (qf Jt).find? λl=> !s_ s l with
 |none=>[-8]
 |some l=>(l.9:Int)::VbdtCore.ints l
theorem MJ:∀k (l r:List Nat),r∈afg k l->r.9<=l.9
 |0,l,r,h=>by
  haveI:r=[]:=by delta afg at h;exists h
  ext
 |k+1,[],r,h=>by delta afg at h;cases h
 |k+1,x::l,r,h=>by
  rcases dC.1 h with z|z
  .let(y,a,rfl):=eJ.1 z;let:=MJ k l y a;simp;lia
  let:=MJ QU l r z;simp;lia
def MK(h:r∈qf n):r.9<=n:=by let(k,_,a):=C4.1 h;let:=MJ k _ r a;ext
inductive amU K A T(f:bX->List Int)(vs:Ju) H Q:Prop|mk S t s wh rw(a:vs=[.ref t,wh,rw])(b:qS T H)(c:JO)(d:J6)(e:iD H (f s) Q)
def amV(m:Jn)(F:Uc):bI g 7 "answer_liars" ["told","wholes","row"] (amU Jj A Tb' wZ):=by
 show bI.of (m.f 95) V_ akp (akq m F<|amT m) ?_;intro vs H Q e (S,t,s,P,rw,rfl,R,T,u,k);let(d,n):=id T;let X:=u.n6;show(n.top,.inl<|aq.of n.nl,Jt,by rw[bz,b_ n.n],X,R,fun p y f (ps,B,pr)=>?_);delta wZ at k;show(p,J,(_,aq.of B),k7 (λi j C=>∃o,A3 (j=[Y Zm,Y P,Y rw,o]) (az y C) (∀x∈(qf Jt).take i,(!s_ s x)=au)) (O,J,az.refl y,Jc) (λi j C _ (_,_,a,_)=>aq.of<|a _ _ B) ?_ ?_)
 .intro i v j H2 hv (o,rfl,a,c);let(q,hq,rfl):=sC hv;let(l,e,D):=d7 pr hq;let ll:=MK<|bM e;show(S,t,s,q,l,J,T.to<|f.trans a,u,a _ _ D,λH3 r=>aT J4 λh=>?_)
  .let ef:((qf Jt).find? λl=> !s_ s l)=Y l:=BP c e h;rw[ef]at k;let E:=f.trans<|a.trans r;let L:=(a.trans r) _ _ D;show(.inl<|aq.of L,λz b=>(aB,aG b _ _ L,?_,λw N=>k w _ (E.trans<|(aG b).trans<|aG N) (E.free<|(aG b).free N) ?_))
   .erw[bz];rw[cP];simp;lia
   rw[aB];simp[VbdtCore.ints]
  show(_,J,a.trans r,sM c e<|by exists h)
 intro j H2 (o,rfl,a,c);rw[bz,b_ pr,ir]at c;rw[(zP.2 λx hx=>by rw[c x hx];simp)]at k;show λz b=>k z _ ((f.trans a).trans<|aG b) ((f.trans a).free b) aB
def w6 s g(x:js) f:=if dA s g [WY,f] <0 then [dA s g [WY,f]] else [lH (iF<|aF ZM WZ QC) (aF ZM QC WZ) Yr]
inductive amW K A(vs:Ju) H Q:Prop|mk S t s wh rw g i x f(a:vs=[.ref t,.ref wh,rw])(b:JO)(c:J6)(d:H wh=Y (.lst [.int g,.int ((i:JD):Int),.int ((f:JD):Int)]))(e:Um)(h:Jz)(j:Qk[i]?=Y x)(k:f<Jb)(l:iD H (w6 s g x f) Q)
def FY(a:J6):((aM s:JD):Int).5<2^4000:=by let(_,b):=y4 a;rw[lQ];lia
def amX(a:Jn):aK g 7 169 (amW Jj A):=by
 show aK.rd a 6 [3,0,0,8,0,2,7,0,0,0,1,7,0,0,7,9,10] (fc (Mr a)<|mc a.jf.cl (Mp a)<|fc (uY a)<|fc (oz a) fz) (ay JF<|ay (aP (ah Jq ZX JZ) UN)<|ay (aP (aN 2 (qQ Jj A)<|U JC<|U (bx<|U (aD A.kr Qi "event")<|U JV aa) aa) Ww)<|ay (a_ (aY<|ah QO Q6 Jf) (aH<|bx<|U Q6 aa) ba)<|aH<|bx<|U (aN 2 (FL Jj)<|U (c5 Z3 "bounds_between" 3 (FK Jj A) JC<|U (aD A.kr Qi "event")<|U JV aa)<|U (ah Qp (aD A.kr Qi "life")<|aD ZO WM "scale") aa) aa) ?_;intro vs H Q hl (S,t,s,wh,rw,l,i,x,f,rfl,T,m,u,ab,ac,E,hf,k);let ag:=m.dr;let ai:=c6 s l;let(pe,ji,iE):=m.pc x<|bM E;delta w6 at k;show(aq.of u,J,S,t,s,l,J,T,m,ab,ac,λv p F H2 hv s1 L hp N=>?_);let b:=s1.trans L;let(d,w):=T.to b;let(vx,ae,px,al,nm,rfl,P):=eS w.p E;let R:=b _ _ u;show(w.top,aq.of R,J,aq.of w.pl,dI ae,P,aq.of R,J,λq c=>(F,v,p,_,_,_,q,[WY,f],J,L.trans<|aG c,N.to<|aG c,Ja,aq.of aB,?_,Jg))
 .intro e he;let:=B1 pe hf e he;lia
 .let h:dA s l [WY,f] <0:=WI;rw[ak h]at k;show λz j=>k z _ ((b.trans<|aG c).trans<|aG j) ((b.trans<|aG c).free j) aB
 let h:¬dA s l [WY,f] <0:=Zj
 rw[aj h]at k;let B:=aG (o:=.lst [V.int WY,.int f]) c;let C:=b.trans B;let D:=N.to B;let X:=B _ _ P;let(dx,am,an,af):=id D;show(af.top,X,aq.of<|C _ _ u,J,F,v,p,_,_,_,QC,WZ,by simp[de],D,Ja,Ja,λy H5 n hy=>?_);let(ao,ap,ar,V5):=D.to n;let(dp,kA,r,rs,T5):=V5.st;show(n _ _ X,V5.top,T5.top,(yV iE,FY m),y,_,_,_,J,hy,λH6 s6=>λz j=>k z _ ((C.trans<|n.trans s6).trans<|aG j) ((C.trans<|n.trans s6).free j) aB)
def ip:List Int->Int|[]=>0|x::r=>r.foldl max x
def jI:List Int->Int|[]=>0|x::r=>r.foldl min x
theorem aaY:∀(r:List Int) x,x<=r.foldl max x/\∀y∈r,y<=r.foldl max x
 |[],x=>(HF _,Jc)
 |a::r,x=>by
  let(b,c):=aaY r<|max x a;grind
theorem aaZ:∀(r:List Int) x,r.foldl max x=x\/r.foldl max x∈r
 |[],x=>.inl J
 |a::r,x=>by
  change r.foldl max (max x a)=x\/r.foldl max (max x a)∈a::r
  rcases aaZ r (max x a) with h|h
  .grind
  ext
theorem aa0:∀(r:List Int) x,r.foldl min x<=x/\∀y∈r,r.foldl min x<=y
 |[],x=>(HF _,Jc)
 |a::r,x=>by
  let(b,c):=aa0 r<|min x a;grind
theorem aa1:∀(r:List Int) x,r.foldl min x=x\/r.foldl min x∈r
 |[],x=>.inl J
 |a::r,x=>by
  change r.foldl min (min x a)=x\/r.foldl min (min x a)∈a::r
  rcases aa1 r (min x a) with h|h
  .grind
  ext
def amY(h:y∈l):y<=ip l:=by
 cases l with
 |nil=>cases h
 |cons x r=>
  let(a,b):=aaY r x;rcases fQ.1 h with e|h
  .rw[e];show a
  show b y h
def FZ(h:l≠[]):ip l∈l:=by
 cases l with
 |nil=>show absurd J h
 |cons x r=>
  change r.foldl max x∈x::r
  rcases aaZ r x with e|e
  .ext
  ext
def amZ(h:y∈l):jI l<=y:=by
 cases l with
 |nil=>cases h
 |cons x r=>
  let(a,b):=aa0 r x;rcases fQ.1 h with e|h
  .rw[e];show a
  show b y h
def ML(h:l≠[]):jI l∈l:=by
 cases l with
 |nil=>show absurd J h
 |cons x r=>
  change r.foldl min x∈x::r
  rcases aa1 r x with e|e
  .ext
  ext
def MM{K}(h:aq K H a Qt)(b:ns≠[])(k:Q (.int<|ip ns) H):yk K [.ref a] H Q:=
 (a,ns,J,h,Ha.2 b,λm c d=>by
  let e:=d _<|FZ b;let f:=amY c;rw[show m=ip ns by lia];show k)
def aa2{K}(h:aq K H a Qt)(b:ns≠[])(k:Q (.int<|jI ns) H):AO K [.ref a] H Q:=
 (a,ns,J,h,Ha.2 b,λm c d=>by
  let e:=d _<|ML b;let f:=amZ c;rw[show m=jI ns by lia];show k)
def w8 a ls u:=if a=[]/\ls=[] then 0 else if ls=[] then ip a+u else if a=[] then jI ls-u else (ip a+jI ls) / 2
inductive aa3(K:bH)(vs:Ju) H(Q:VK):Prop|mk a b c ls u(d:vs=[.ref a,.ref b,.int u])(e:H a=Y (.lst (bJ c)))(f:H b=Y (.lst (bJ ls)))(g:Q (.int (w8 c ls u)) H)
def qT:(V.int ((bJ l).9:Nat)=V.int 0)↔l=[]:=Jc
def am0(e:Jn):aK g 1 186 (aa3 Jj):=by
 show aK.rd e 3 [0,90,0,90,0,90,0,93,0,90,0,94,0,0,93,94] fz (ay (a_ (jb (aY<|ah dR JJ Jf)<|aY<|ah dR (bA Qb Qh) Jf) (aH Jf) ba)<|ay (a_ (aY<|ah dR (bA Qb Qh) Jf) (aH<|ah QN (bA (yk Jj) ZZ) Jv) ba)<|ay (a_ (aY<|ah dR JJ Jf) (aH<|ah Q4 (bA (AO Jj) Qh) Jv) ba)<|aH<|ah (rI uE wo) (ah QN (bA (yk Jj) ZZ)<|bA (AO Jj) Qh)<|tC<|.int 2) ?_;intro vs H Q l (a,b,f,ls,u,rfl,i,j,k);delta w8 at k;let c:=aq.of (K:=Jj) i;let d:=aq.of (K:=Jj) j;show(.inl c,aT (λh=>(.inl d,Zv)) λh=>?_)
 .let h:=qT.1 WI;let h':=qT.1<|cV h';rwa [ak (h,h')]at k
 .let h:=qT.1 WI;let h':=λz=>h' (cn<|qT.2 z)
  rw[aj λz=>h' z.2,aj h',ak h]at k;show(.inl d,aT (λz=>absurd (qT.1<|cV z) h') λm=>(.inl c,aT (λm=>aa2 d h'<|k) λz=>absurd (cn<|qT.2 h) z))
 let h:f≠[]:=λz=>h<|cn<|qT.2 z
 rw[aj λz=>h z.1]at k;show(.inl d,Zv)
 .let h':=qT.1<|cV h';rw[ak h']at k;show MM c h<|k
 let h':ls≠[]:=λz=>h'<|cn<|qT.2 z
 rw[aj h',aj h]at k;show(.inl c,aT (λz=>absurd (qT.1<|cV z) h) λm=>MM c h<|aa2 d h' ((by decide,Je),k))
abbrev HV:Int:=ZG
def jJ F(ms:Jw) e n:=(aQ n).filterMap λi=>(aF F J5 i).map λa=>ms.getD i 0-a.1*HV
def jK F(ms:Jw) e n:=(aQ n).filterMap λi=>(aF F i J5).map λa=>ms.getD i 0+a.1*HV
def pT F ms u e:=w8 (jJ F ms e ms.9) (jK F ms e ms.9) u
def iH F u n:=(aQ n).foldl (λms e=>ms++[pT F ms u e]) [0]
abbrev am1(sc:JH)(m:ax):List QD:=[(aZ "scale",(.int sc)),(aZ "moments",(.ref m))]
inductive qU(A:Ad)(H:Hp) w sc m ms:Prop|mk dx(a:H w=Y (.ins A.je dx (am1 sc m)))(b:H m=Y (.lst (bJ ms)))
def qU.to(h:qU A H w sc m ms)(s:WE):qU A a w sc m ms:=by let(b,c,d):=h;show(b,s _ _ c,s _ _ d)
inductive aa4 A(vs:Ju) H(Q:VK):Prop|mk sc(b:vs=[.int sc])(c:∀w m a,H w=O->H m=O->az H a->qU A a w sc m [0]->Q Yo a)
def am2(c:Jn):dP g 1 "World" A.je ["self","scale"] (aa4 A):=by
 show dP.rd c c.Bn.at_ 2 [12,12] fz (ay (cJ A.je Ji Jl "scale")<|cJ A.je Ji Zh "moments") λvs H Q h x d a f i=>?_
 let(sc,rfl,k):=h;show(J,?_);let e:=bZ (o:=.ins A.je d<|bD "scale" (V.int sc) []) (lC (C:=A.je) a f) a;show(aB,Je,λm b=>?_);let np:x≠m:=λz=>by rw[<-z,aB]at b;cases b
 show((by rw[aJ np];show aB),ji,J,k x m _ a (e.free b) (bZ (e.trans<|aG b) a) (d,by rw[aB];rfl,by rw[aJ np.3,aB];rfl))
inductive F0(K:bH) A(vs:Ju) H(Q:VK):Prop|mk w sc m ms e(a:vs=[.ref w,.int ((e:JD):Int)])(b:qU A H w sc m ms)(c:e+1<ms.9)(d:Q (.int (ms.getD J5 0)) H)
def aa5(a:Jn):gE g 1 A.je "moment_of" ["self","event"] (F0 Jj A):=by show gE.rd a a.Vj 2 [0,12,0] fz (aH<|ah Jq (aD A.je Ji "moments")<|ah QN Jl Jh) ?_;intro vs H Q d (w,sc,m,ms,e,rfl,(f,b,c),he,k);show(b,aq.of c,fU (j:=J5) Ja ?_,k);ext
inductive aa6 K A(vs:Ju) H(Q:VK):Prop|mk S w sc m ms v p b kn M e(c:vs=[.ref w,.ref v,.int ((e:JD):Int)])(d:qU A H w sc m ms)(f:i9 K A S H v p b kn M)(g:ms.9<=kn.9+1)(h:e<kn.9)(i:kn.9<=20)(j:MB (2^1350) JI)(k:∀a,az H a->Q (.int (pT JI ms sc e)) a)
def am3 F ms e i:jJ F ms e JK=jJ F ms e i++(match aF F J5 i with|none=>[]|some a=>[ms.getD i 0-a.1*HV]):=by delta jJ;rw[oR];induction h:aF F J5 i<;>ext
def am4 F ms e i:jK F ms e JK=jK F ms e i++(match aF F i J5 with|none=>[]|some a=>[ms.getD i 0+a.1*HV]):=by delta jK;rw[oR];induction h:aF F i J5<;>ext
def am5 F ms e n:(jJ F ms e n).9<=n:=by delta jJ;let:=asw (λi=>(aF F J5 i).map λa=>ms.getD i 0-a.1*HV)<|aQ n;ext
def am6 F ms e n:(jK F ms e n).9<=n:=by delta jK;let:=asw (λi=>(aF F i J5).map λa=>ms.getD i 0+a.1*HV)<|aQ n;ext
def aa7(h:B<=2^1350):B<2^4000:=fP h Jc
def am7(L:Jn):aK g 2 187 (aa6 Jj A):=by
 show aK.rd L 9 [3,12,1,0,1,0,90,0,0,1,90,0,0,1,0,12] (fc (am0 L)<|mc L.jf.cl (FJ L) fz) (ay (aP Z1 Zx)<|ay (aP Z1 UN)<|ay (dc (jc Jj<|U (aD A.je Ji "moments") aa) (gC Jj 2<|cX Ww<|cX (aC 6) gB)<|ay (aP (c5 Z3 "limit_between" 3 (sU Jj A) Jl<|U Jv<|U (ah Q4 Q6 Jh) aa)<|aC 7)<|ay (aP (c5 Z3 "limit_between" 3 (sU Jj A) Jl<|U (ah Q4 Q6 Jh) Qg)<|aC 8)<|ay (a_ (tB<|qp<|Z 7) (cG<|ff Jj "list" gb JC<|U (ah Q4 W6<|ah Qp (ah JN (Z 7) Jf)<|tC<|.int ZG) aa) ba)<|a_ (tB<|qp<|Z 8) (cG<|ff Jj "list" gb Qi<|U (ah QN W6<|ah Qp (ah JN (Z 8) Jf)<|tC<|.int ZG) aa) ba)<|aH<|aN 3 (aa3 Jj)<|U JC<|U Qi<|U (aD A.je Ji "scale") aa) ?_;intro vs H Q hl (S,w,sc,m,ms,v,p,sv,kn,M,e,rfl,hW,Vw,ac,he,ae,mb,k);show λa ha=>λb f=>?_;let n1:az H (aA H a Jx):=aG ha;let R:az H (aA (aA H a Jx) b Jx):=n1.trans<|aG f;let X:a≠b:=λz=>by rw[<-z,aB]at f;cases f
 let fb:=n1.free f;let h1:aA (aA H a Jx) b Jx a=Y (.lst<|bJ<|jJ JI ms e 0):=by rw[aJ X,aB];rfl
 let h2:aA (aA H a Jx) b Jx b=Y (.lst<|bJ<|jK JI ms e 0):=aB;let(dw,w1,w2):=id hW;let(dv,al,af,V1):=id Vw;let lm:(bJ ms).9=ms.9:=by simp[bJ]
 show(R _ _ w1,m,_,J,aq.of<|R _ _ w2,lh (λi n h=>E4 λB C D E=>A4 (n=[Y Yo,Y Uk,Y (.int e),Y Jy,Y WO,B,C,D,E]) (az H h) (h a=Y (.lst (bJ (jJ JI ms e i)))) (h b=Y (.lst (bJ (jK JI ms e i))))) (O,O,O,O,J,R,h1,h2) (λi n h _ (_,_,_,_,_,s,_,_)=>aq.of (s _ _ w2)) ?_ ?_)
 .intro i x n F T hx (B,C,D,E,rfl,N,d,j) hT;let(z,hz,rfl):=B2 hx;let hi:=(cU.1 hz).1;let nT:az F (aA F T (.tup [.int i,.int z])):=aG hT;let o:=N.trans nT;let d:=nT _ _ d;let j:=nT _ _ j;generalize aA F T (.tup [.int i,.int z])=H3 at o d j⊢;let V3:=Vw.to o;let r:=am3 JI ms e i;let sL:=am4 JI ms e i;rw[(fG hz)]at r sL;let le:=am5 JI ms e i;let ll:=am6 JI ms e i;show(o _ _ V1.top,S,v,p,sv,kn,M,J5,i,by simp[de],V3,JE,JE,λy t=>?_);show(o _ _ V1.top,S,v,p,sv,kn,M,i,J5,by simp[de],V3,JE,JE,λy2 P=>?_);let ab:∀u,az H u->cY H3 u->u a=Y (.lst (bJ (jJ JI ms e JK)))->u b=Y (.lst (bJ (jK JI ms e i)))->
    (a_ (tB (qp (Z 8))) (cG (ff Jj "list" gb Qi (U (ah QN W6 (ah Qp (ah JN (Z 8) (tC (.int 0))) (tC (.int ZG)))) aa))) ba) {nx:=λn h=>E4 λB C D E=>A4 (n=[Y Yo,Y Uk,Y (.int e),Y Jy,Y WO,B,C,D,E]) (az H h) (h a=Y (.lst (bJ (jJ JI ms e JK)))) (h b=Y (.lst (bJ (jK JI ms e JK)))),rt:=Q} [Y Yo,Y Uk,Y (.int e),Y Jy,Y WO,Y WD,Y (.int z),Y y,Y y2] u:=by
   intro u s4 t4 a4 b4;cases l:aF JI i J5 with
   |none=>
    rw[l]at P sL;rw[iu]at sL;subst P;show(_,_,_,_,J,s4,a4,by rw[sL];show b4)
   |some c=>
    rw[l]at P sL;let(q,rfl,hq):=P;let f:=mb i J5 c l;show(.inl (J,_,aq.of b4),(cN t4 hq),J,(aa7 f,Je),b4,by erw[bz];rw[cP];omega,_,_,_,_,J,bZ s4 fb,by rw[aJ X];show a4,by rw[aB,sL];simp[bJ])
  show ?_;cases l:aF JI J5 i with
  |none=>
   rw[l]at t r;let t:y=.aW:=t;rw[iu]at r;subst t;show (ab H3 o (cY.refl H3) (by rw[r];show d) j)
  |some c=>
   rw[l]at t r;let(q,rfl,hq):=t;let f:=mb J5 i c l;show ?_;show(.inl (J,_,aq.of d),hq,J,(aa7 f,Je),d,by erw[bJ,bz];rw[cP];omega,?_);show ab _ (bZ o ha) (cY.lst d) ?_ (by rw[aJ X.3];show j);rw[aB,r];simp[bJ]
 intro n F (B,C,D,E,rfl,N,d,j);rw[lm]at d j;show(N _ _ w1,a,b,_,_,sc,J,d,j,k F N)
def am8(b:MB B F)(c:∀i,(ms.getD i 0).5<=X):∀x∈jJ F ms e n,x.5<=X+B*1048576:=by
 intro x d;let(i,_,hi):=xE.1 d;cases h:aF F J5 i with
 |none=>rw[h]at hi;cases hi
 |some a=>
  rw[h]at hi;let hi:ms.getD i 0-a.1*HV=x:=bt hi;let f:=c i;let g:(a.1*HV).5<=B*1048576:=by
   rw[lU];show f7 (b _ _ a h) JR
  omega
def am9(b:MB B F)(c:∀i,(ms.getD i 0).5<=X):∀x∈jK F ms e n,x.5<=X+B*1048576:=by
 intro x d;let(i,_,hi):=xE.1 d;cases h:aF F i J5 with
 |none=>rw[h]at hi;cases hi
 |some a=>
  rw[h]at hi;let hi:ms.getD i 0+a.1*HV=x:=bt hi;let f:=c i;let g:(a.1*HV).5<=B*1048576:=by
   rw[lU];show f7 (b _ _ a h) JR
  omega
def ana(a:MB B F)(b:∀i,(ms.getD i 0).5<=X)(g:u.5<=f):(pT F ms u e).5<=X+(B*ZG+f):=by
 let c:=am8 (e:=e) (n:=ms.9) a b;let d:=am9 (e:=e) (n:=ms.9) a b;delta pT w8;split
 .simp
 split
 .let:=c _ (FZ λz=>by ext);omega
 split
 .let:=d _<|ML ‹_›;omega
 let:=c _<|FZ ‹_›;let:=d _<|ML ‹_›;omega
theorem F1 F u:∀n,(iH F u n).9=n+1
 |0=>rfl
 |n+1=>by
  delta iH;rw[j3,cE];let:=F1 F u n;delta iH at this;rw[this];rfl
def aa8 F u n:iH F u (n+1)=iH F u n++[pT F (iH F u n) u n]:=by delta iH;rw[j3]
def anb{a:Type}{l}{x d:a}:(l++[x]).getD i d=l.getD i d\/(l++[x]).getD i d=x:=by
 ext;cases h:i<l.9
 .left;rw[xB h]
 cases b:i=l.9
 .right;rw[b,asl];rfl
 left;rw[CT (by simp;lia),CT Ja]
theorem F2(a:MB B F)(b:u.5<=c):∀n i,((iH F u n).getD i 0).5<=n*(B*ZG+c)
 |0,i=>by
  change (([0]:List Int).getD i 0).5<=_
  match i with
  |0=>simp
  |i+1=>simp
 |n+1,i=>by
  rw[aa8,au2];rcases anb with h|h
  .rw[h];let:=F2 a b n i;lia
  rw[h];show ana a (F2 a b n) b
inductive MN K A(vs:Ju) H(Q:VK):Prop|mk S v p sc kn M(b:vs=[.ref v])(c:UP)(d:Zw)(e:kn.9<=20)(f:MB (2^1350) JI)(g:0<=sc)(h:sc<2^1300)(i:∀w m a,az H a->qU A a w Zz m (iH JI Zz kn.9)->Q Yo a)
def aa9(d:Jn):aK g 3 188 (MN Jj A):=by
 show aK.rd d 3 [1,0,9,10,2,90,9,10,90,12,0] (fc (am7 d)<|kc (am2 d) fz) (ay (aP (fJ (aa4 A)<|U (ah Qp (aD ZO WL "scale")<|tC<|.int ZG) aa) Wv)<|ay (dc (kZ<|U (bA Qb<|U (aD ZO WL "known") aa) aa) QQ<|cG<|ff Jj "list" gb (aD A.je Jl "moments")<|U (aN 3 (aa6 Jj A)<|U Jl<|U Ji Qg) aa)<|aH Jl) ?_;intro vs H Q E (S,v,p,sc,kn,M,rfl,u,o,x,y,F,L,k);let(N,P,R,e):=id o;let(T,kA,r,X,St):=id e.st;show(e.top,St.top,(by lia,Je),_,J,λw m H1 hw B b C=>?_);let q:((((kn.map V.bl).9:Nat):Int)).6=kn.9:=Jc
 show(b _ _ e.top,b _ _ St.top,.inl<|aq.of<|b _ _<|u _ _ St.hk,_,J,Ja,by rw[bz];lia,pj (λi f s=>∃h,A3 (f=[Y Uk,Y Yo,h]) (az H s)<|qU A s w Zz m<|iH JI Zz i) (O,J,b,C) ?_ ?_)
 .intro i f t hi (h,rfl,c,a);rw[q]at hi;let(D,j,l):=id a;let lw:=F1 JI Zz i;show(j,.inl (J,_,aq.of l),S,w,_,m,_,v,p,sc,kn,M,i,Jc,a,o.to c,Ja,hi,x,y,λH3 n=>(n _ _ l,by simp;rw[cP];lia,Y<|.int<|0+i,J,bZ (c.trans n) B,D,by rw[aJ<|eK j l (by intro z;cases z)];show n _ _ j,by rw[aB,aa8];simp[bJ]))
 intro f t (h,rfl,c,a);rw[q]at a;show k w m t c a
def mv(kn:List Bool)(ms:Jw) sc n:=(aQ n).flatMap λe=>if kn.getD e au=I then (e:JH)::rL (cK (ms.getD J5 0) sc) else []
def aba kn ms sc n:mv kn ms sc (n+1)=mv kn ms sc n++(if kn.getD n au=I then (n:JH)::rL (cK (ms.getD (n+1) 0) sc) else []):=by delta mv;rw[oR];simp
def b8 sc:=sc*ZG
def u6(sc:JD) kn M:=mv kn (iH JI ((sc:JH)*HV) kn.9) JW kn.9
inductive MO K A(vs:Ju) H Q:Prop|mk S v p(sc:JD) kn M(a:vs=[.ref v])(b:UP)(c:i9 K A S H v p (sc:JH) kn M)(d:kn.9<=20)(e:MB (2^1350) JI)(f:Yi)(g:sc<2^1300)(h:iD H (u6 sc kn M) Q)
theorem MP(h:∀i,(ms.getD i 0).5<2^1900)(a:sc<2^1900):∀n,(mv kn ms sc n).9<=n*4000
 |0=>eX _
 |n+1=>by
  rw[aba,cE];let:=MP h a n (kn:=kn);let:=yW (h<|n+1) a;split
  .rw[gm];lia
  simp;lia
def anc:20*(2^1350*ZG+2^1300*ZG) <2^1900:=Jc
def w19{sc:JD}(a:MB (2^1350) F)(d:sc<2^1300)(b:n<=20) i:((iH F Zz n).getD i 0).5<2^1900:=by
 haveI c:(sc*HV).5<=2^1300*1048576:=by
  rw[lU];show f7 (by rw[lQ];lia) JR
 show fP (eO (F2 a c n i)<|f7 b JR) anc
def abb sc:sc*HV=((b8 sc:JD):Int):=(zX sc ZG).3
def ane(sc:JD):(sc*HV).6=b8 sc:=by rfl
def MQ(h:sc<2^1300):b8 sc<2^1900:=by let:sc*ZG<=2^1300*1048576:=f7 Ja JR;show fP this Jc
def abc(c:Jn):aK g 4 189 (MO Jj A):=by
 show aK.rd c 5 [2,3,9,10,90,91,0,1,12] (fc (Lo c)<|mc c.Bn.cl (aa5 c)<|fc (aa9 c) fz) (ay (aP (aN 1 (MN Jj A) ZZ) Wv)<|ay (aP Z1 QQ)<|ay (dc (jc Jj<|U (aD ZO WL "known") aa) Ql<|a_ (tB Qi) (ay (cG<|ff Jj "list" gb Jv Zo)<|cG<|ff Jj "list" yi Jv<|U (aN 2 ET<|U (c5 A.je "moment_of" 2 (F0 Jj A) Jl Zo)<|U (aD A.je Jl "scale") aa) aa) ba)<|aH Jv) ?_;intro vs H Q hl (S,v,p,sc,kn,M,rfl,ss,Vw,ac,mb,h0,h1,k);let(dv,a0,a1,V1):=id Vw;let(dp,kA,r,rs,St):=id V1.st;show(S,v,p,sc,kn,M,J,ss,Vw,ac,mb,Ja,Ja,λw m H1 s1 hW=>λa B=>?_);let j:az H (aA H1 a Jx):=s1.trans<|aG B;let ae:=hW.to<|aG (o:=Jx) B;let C:=s1.free B;let(dw,w1):=id ae;let lw:=F1 JI Zz kn.9;let D:=w19 mb h1 ac;let E:=MQ h1;delta u6 at k;generalize a2:iH JI Zz kn.9=ms at*
 let aw:a≠w:=λz=>by rw[<-z,aB]at w1;cases w1
 let(a3,a4,mm):=id hW;let am:a≠m:=Ja
 let af:=ss _ _ St.hk;show(j _ _ V1.top,j _ _ St.top,kA,_,J,aq.of<|j _ _ af,lh (λi l n=>E2 λF L=>A4 (l=[Y Uk,Y Yo,Y Jy,F,L]) (az H n) (qU A n w Zz m ms)<|n a=Y (.lst<|bJ<|mv kn ms JW i)) (O,O,J,j,ae,aB) (λi l n _ (_,_,_,s,_,_)=>aq.of<|s _ _ af) ?_ ?_)
 .intro i x l d T f (F,L,rfl,N,ag,t) hT;obtain⟨b,hb,rfl⟩:∃b,kn[i]?=Y b/\V.bl b=x:=by
   rw[c8]at f;cases e:kn[i]? with|none=>rw[e]at f;cases f|some r=>rw[e]at f;show(r,J,bt f)
  let hi:=(cU.1 hb).1;let eb:kn.getD i au=b:=fG hb;let nT:az d (aA d T<|.tup [.int (i:JD),.bl b]):=aG hT;let P:=N.trans nT;let R:=ag.to nT;let u:=nT _ _ t;generalize aA d T (.tup [.int (i:JD),.bl b])=X at P R u⊢;let st:=aba kn ms JW i;rw[eb]at st;let li:=(MP (kn:=kn) (λi=>D i) E) i;show aT J4 λh=>?_
  .let h:b=I:=h;subst h;rw[ak J]at st;let s5:=bZ (o:=Zs) P C;let(al,an,ao):=id R;let y:qU A (aA X a Zs) w ((sc:JH)*HV) m ms:=(al,by rw[aJ aw.3];show an,by rw[aJ am.3];show ao);let ab:aA X a Zs a=Y Zs:=aB;let F3:(bJ<|mv kn ms JW i).9<cz:=by erw[bJ,bz];rw[cP];omega
   show(.inl (J,_,aq.of u),u,F3,?_);generalize aA X a Zs=H5 at s5 y ab⊢;let(a5,ai):=id y;show(.inl (J,_,aq.of ab),ai,w,_,m,ms,i,J,y,JE,ai,_,(sc:JH)*HV,J,?_,D _,?_,λq H6 s6 hq eq=>?_)
   .change (0:Int) <(sc:JH)*ZG
    omega
   .delta b8 at E;change (sc:JH)*ZG<_
    omega
   let ap:((sc:JH)*HV).6=b8 sc:=ane sc;rw[ap]at eq;let lf:=yW (D JK) E;show(a,q,_,_,J,J,s6 _ _ ab,eq,?_,_,_,J,bZ (s5.trans s6) C,?_,?_)
   .erw[bJ,cE,bz,gm,rJ];rw[cP];omega
   .let(ar,as,av):=y.to s6;show(ar,by rw[aJ aw.3];show as,by rw[aJ am.3];show av)
   rw[aB,st];simp[bJ]
  let h:b=au:=by exists h
  subst h;rw[aj Jc,iu]at st;show(_,_,J,P,R,by rw[st];show u)
 intro l d (F,L,rfl,N,ag,t);rw[bz]at t;show k a d N C t
def w9 s g:=if dA s g [] <0 then [dA s g []] else 0::u6 Qe ZP J0
def MR(b:J6) g:MB (2^1350) ZM:=λu v a e=>eO (oC b g u v a e) Jc
def MS(a:J6):0<aM s/\aM s<2^1300:=by let(b,c):=fV a;show(b,Dn c Jc)
def F4{M}(b:kn.9<=20)(c:MB (2^1350) JI)(a:sc<2^1300):(u6 sc kn M).9<=80000:=by delta u6;let:=MP (kn:=kn) (λi=>w19 c a b i) (MQ a) kn.9;lia
def anf(e:Jn):aK g 7 190 (aaX Jj A w9):=by
 show aK.rd e 5 [2,0,1,0,1,0] (fc (abc e)<|fc (uY e)<|fc (oz e) fz) (ay JF<|ay (aP (aN 2 (qQ Jj A)<|U JC<|U Z1 aa) UN)<|ay JT<|aH<|ah ic Zh<|aN 1 (MO Jj A) Zo) ?_;intro vs H Q P (S,t,s,R,rw,a,rfl,T,d,x,B,C,k);let X:=d.dr;let KW:=c6 s a;delta w9 at k;show(aq.of x,J,S,t,s,a,J,T,d,B,C,λv p l H2 hv D f hp m=>?_);let i:=D.trans f;show λq b=>(l,v,p,_,_,_,q,[],J,f.trans<|aG b,m.to<|aG b,Ja,aq.of aB,Jc,Jg)
 .let h:dA s a [] <0:=WI;rw[ak h]at k;show λz c=>k z _ ((i.trans<|aG b).trans<|aG c) ((i.trans<|aG b).free c) aB
 let h:¬dA s a [] <0:=Zj
 rw[aj h]at k;let n:=i.trans<|aG (o:=Jx) b;let E:=f.trans<|aG (o:=Jx) b;let F:=m.to<|aG (o:=Jx) b;let(L,r):=MS d;show λz c=>(l,v,p,Qe,_,_,J,E.trans<|aG c,F.to<|aG c,JE,MR d a,L,r,λy H4 j hy N=>(j _ _ aB,N,?_,λw u=>k w _ (n.trans<|(aG c).trans<|j.trans<|aG u) (n.free<|(aG c).free<|j.free u) ?_))
 .let:=F4 (kn:=dU s a) (M:=gO s (dU s a) []) JE (MR d a) r;rw[bz,cP];change 1+_<=_
  lia
 rw[aB];rfl
theorem abd:∀(l:List Nat),(∀d∈l,d<10)->∀v,l.foldl (λv d=>v*10+d) v<(v+1)*10^l.9
 |[],b,v=>by simp
 |d::r,h,v=>by
  let hd:=h d dM;let:=abd r (λx a=>h x<|df _ a)<|v*10+d;apply iJ this;rw[gm,P2,<-Nat.mul_assoc,aty];show f7 Ja JR
def MT(h:di b=Y n):n<10^300:=by
 delta di at h;split at h
 .cases h
 rename_i a;let a:¬(b.isEmpty=I)/\¬(aeF<b.9)/\¬(b.all oP=au)/\¬vD b=I:=by
  simpa only[not_or] using a
 let(_,e,f,_):=a;rw[<- (bt h)];let hd:∀d∈b.map λc=>c-48,d<10:=by
  intro d hd;let(c,a,rfl):=eJ.1 hd;let:=akD<|mL.1 (by exists f) c a;lia
 let:=abd _ hd 0;apply iJ this;ext;let e:b.9<=300:=by
  let:aeF=300:=J;lia
 let:=zN (n:=10) Je e;lia
def abe(h:ku b=Y (n,(d))):n<10^300/\0<d/\d<10^300:=by
 delta ku at h;split at h
 .cases e:di _ with
  |none=>rw[e]at h;cases h
  |some m=>
   rw[e]at h;cases h;show(MT e,Je,Jc)
 .split at h
  .rename_i a c;split at h
   .cases h;show(MT a,Ja,MT c)
   cases h
  cases h
 cases h
def abf(h:jh b=Y (n,(d))):n.5<10^300/\0<d/\d<10^300:=by
 delta jh at h;split at h
 .cases e:ku _ with
  |none=>rw[e]at h;cases h
  |some x=>
   rw[e]at h;let h:(if x.1=0 then O else Y (-(x.1:Int),(x.2)))=Y (n,(d)):=h;split at h
   .cases h
   cases h;let:=abe e;ext
 cases e:ku b with
 |none=>rw[e]at h;cases h
 |some x=>
  rw[e]at h;cases h;let:=abe e;assumption
def abg kn M i j z:=gj kn (gj kn M i j<|Y (z,(au))) j i<|Y (0-z,(au))
inductive abh K A vs H(Q:VK):Prop|mk S p sc kn M i j fr n(d:JD)(b:vs=[.ref p,.int (de i),.int (de j),fr])(c:UP)(e:Qa)(f:TupIs H fr [.int n,.int (d:JH)])(g:Sm sc)(h:Sm n)(k:Sm (d:JH))(l:MB (2^3000) M)(m:i<=kn.9)(o:j<=kn.9)(r:kn.9<=100)(s:∀q a,H q=O->az H a->dX K A H a q (sc*d) kn (abg kn (jG d M) i j (n*sc))->Q Wm a)
def ang{M}(h:MB B M)(e:gi M):∀r∈M,∀l∈r,∀a∈l,a.1.5<=B:=by intro r b l c a f;let(i,hi):=kL b;let(j,d):=kL c;apply h i j a;delta aF;rwa [fG hi,fG d]
def anh(c:Jn):aK g 4 191 (abh Jj A):=by show aK.rd c 6 [1,1,0,1,9,0,0,0] (mc c.iC.cl (wQ c)<|fc (ami c) fz) (ay (aP (aN 2 (aar Jj A)<|U Ji<|U (ah JN JC Jh) aa) UN)<|ay (aP (ah Qp (ah JN JC Jf) Ub) Ww)<|ay (cG<|c5 ZO "tighten" 4 YG Qi<|U Jl<|U Jv<|U (hZ<|U Q6<|U (tC<|.int<|0) aa) aa)<|ay (cG<|c5 ZO "tighten" 4 YG Qi<|U Jv<|U Jl<|U (hZ<|U (ah Q4 Jf Q6)<|U (tC<|.int<|0) aa) aa)<|aH Qi) ?_;intro vs H Q f (S,p,sc,kn,M,i,j,X,n,d,rfl,v,T,(fa,rfl,h),m,w,hd,x,hi,o,y,k);let(dx,kA,r,rs,s):=id T;show(bR.of h,J,S,p,sc,kn,M,d,J,v,T,m,hd,λr B l f a C=>fP (ang x s.sq r B l f a C) Je,y,λq H1 D e t=>(bR.of<|e _ _ h,J,e _ _ s.top,(w,m),?_));let(ab,ac,r1,ae,E):=id t;show(E.top,λz b=>(H,q,_,kn,_,i,j,_,Y (n*sc,(au)),J,e.trans<|aG b,t.to<|aG b,hi,o,(z,J,bR.of aB),λH2 F K u=>?_));let(af,ag,r2,ai,L):=id u;show(L.top,λz b=>(H,q,_,kn,_,j,i,_,Y (0-n*sc,(au)),J,F.trans<|aG b,u.to<|aG b,o,hi,(z,J,bR.of aB),λN P K R=>k q N D P R))
def kF s g e f(x:Int×Nat):=abg ZP (jG x.2 J0) J5 WZ<|x.1*(aM s:JH)
def w_(s:bX)(g:JH)(e f:JD)(b:bU):List Int:=match jh b with
 |none=>if dA s g [e,f]= -6 then [-6] else [-4]
 |some x=>if dA s g [e,f] <0 then [dA s g [e,f]] else if bN (aE Z7)=I then [0] else 1::u6 (aM s*x.2) ZP Z7
inductive ani K A(vs:Ju) H Q:Prop|mk S t s wh rw g a b c(d:vs=[.ref t,.ref wh,.ref rw])(e:JO)(f:J6)(h:H wh=Y (.lst (.int g::bW [a,b])))(i:H rw=Y (.lst (cO c)))(j:c.9<=100000)(k:Um)(l:Jz)(m:a<Jb)(n:b<Jb)(o:iD H (w_ s g a b c) Q)
def anj k M u v:aF (jG k M) u v=uL k Ul:=by
 delta aF jG;rw[jO (l:=M.map λr=>r.map<|uL k),c8];cases e:M[u]? with
 |none=>simp[e,uL]
 |some r=>
  rw[fG e];erw[zW,Option.getD_some];ext;cases r[v]?<;>rfl
def ank{M}(h:QX):bO n (jG k M):=by show(by delta jG;rw[bz];show h.1,λr a=>?_);delta jG at a⊢;let(x,b,rfl):=eJ.1 a;ext;show h.2 x b
def anl(d:J6) g e f(k:x.1.5<10^300)(l:x.2<10^300):MB (2^1310) Z7:=by
 let(_,j):=fV d;haveI i:(x.1*(aM s:JH)).5<=2^1310:=by
  rw[lU];let:x.1.5*aM s<=2^WN*2^240:=f7 Ja<|mU j;show eO this Je
 show MB.jH (MB.jH ?_ ?_) ?_
 .intro u v a c;rw[anj]at c;cases h:aF J0 u v with
  |none=>rw[h]at c;cases c
  |some b=>
   rw[h]at c;let c:=bt c;rw[<-c,lU];let:b.1.5*x.2<=2^310*2^1000:=f7 (eO (FN d _ _ u v b h)<|mU<|BX d) Ja;assumption
 .intro a c;let c:=bt c;rw[<-c];show i
 intro a c;rw[<- (bt c),rQ,PF];show i
def anm s g e f x:bO QL Z7:=(ank<|sX s g).jH.jH
def MU(a:J6) g e f(c:x.1.5<10^300)(d:x.2<10^300):MB (2^1350) (aE Z7):=by let b:=anm s g e f x;let:=MB.aE (anl a g e f c d) b.2;apply this.mono;rw[b.1];haveI:2^QL*2^1310<=2^21*2^1310:=f7 (zN Je (by let:=a.dr;lia)) JR;show eO this Je
def ano(j:Jn):aK g 7 192 (ani Jj A):=by
 show aK.rd j 7 [6,0,5,4,0,0,2,3,10,0,0,1,1,0] (fc (abc j)<|mc j.jf.cl (sV j)<|kc (BV j)<|fc (anh j)<|fc (akN j)<|fc (uY j)<|fc (oz j) fz) (ay JF<|ay JP<|ay (aP (aN 1 (Xw Jj) Qg) Ww)<|ay (a_ (jb (tB<|gT Q6)<|aY<|ah iS Qi<|tC<|.int<|-6) (aH<|bx<|U (tC<|.int<|-4) aa) ba)<|ay JT<|ay (aP (fJ (yX Jj A)<|U (aN 4 (abh Jj A)<|U WM<|U JZ<|U JV<|U Q6 aa) aa)<|aC 6)<|ay (a_ (tB<|c5 Z3 "contradicts" 1 YH W6 aa) (aH Zh) ba)<|aH<|ah ic (bx<|U Jh aa)<|aN 1 (MO Jj A)<|U W6 aa) ?_;intro vs H Q hl (S,t,s,wh,rw,c,a,b,X,rfl,T,l,u,hr,ae,af,ag,ha,hb,k);let an:=l.dr;let KW:=c6 s c;delta w_ at k;show((aq.of u),(fU J J),S,t,s,c,J,T,l,af,ag,λv p H1 H2 hv s1 F hp Vw=>?_);let sH:=s1.trans F;show(aq.of (sH _ _ u),λq r=>(H1,v,p,_,_,_,q,[a,b],J,F.trans (aG r),Vw.to (aG r),Ja,aq.of (by rw[aB,aaR]),λe he=>by let:=B1 ha hb e he;lia,?_));let s3:=sH.trans (aG (o:=.lst (h_ (V.int c::bW [a,b]) (Y 1) O)) r);let ai:=F.trans (aG (o:=.lst (h_ (V.int c::bW [a,b]) (Y 1) O)) r);let V3:=Vw.to (aG (o:=.lst (h_ (V.int c::bW [a,b]) (Y 1) O)) r);show(rw,X,J,aq.of (s3 _ _ hr),ae,λfv B L C=>?_);let i:=s3.trans L;let rC:=amH (cM s c) [a,b] (bN (aE (aU s c)));let eR:mq (dU s c) [a,b] (bN (aE (gO s (dU s c) [])))=dA s c [a,b]:=J;rw[eR];cases e:jh X with
 |none=>
  rw[e]at C k;subst C;simp only at k;show Jg
  .let h:dA s c [a,b]≠ -6:=by
    intro z;rw[z]at h;simp at h
   rw[aj h]at k;show (λz d=>k z _ (i.trans WB) (i.free d) aB)
  let h:dA s c [a,b]= -6:=by exists h
  show (aT (λK=>(λz d=>k z _ (i.trans WB) (i.free d) (by rw[aB,h];rfl))) λz=>absurd (cn (by rw[h];decide)) z)
 |some x=>
  let(n,f):=x;rw[e]at C k;let(b1,b2,b3):=abf e;let(fa,rfl,al):=id C;simp only at k;show Jg
  .let h:dA s c [a,b] <0:=WI;rw[ak h]at k;show (λz d=>k z _ (i.trans WB) (i.free d) aB)
  let h:¬dA s c [a,b] <0:=λz=>h (cn z)
  rw[aj h]at k;let(dv,ao,ap,ab):=id (V3.to L);let(c1,c2):=fV l;show(ab.top,(aq.of (i _ _ u)),(fU J J),(aq.of (i _ _ u)),(fU J J),H1,p,_,_,_,a+1,b+1,_,n,f,by simp[de],ai.trans L,ab.st,(fa,J,al),FY l,by change n.5<_;lia,by change ((f:JD):Int).5<_;lia,MB.mono (FN l _ _) (mU (Dn (BX l) Je)),Ja,Ja,Ja,λD H5 ar s6 T5=>(B,D,_,_,_,J,T5,Ja,λpv H6 as s7 N=>?_));let E:=s6.trans s7;let(av,aw,a0,am):=id N;show(am.top,B,pv,D,_,_,_,J,N,Ja,aT (λm=>?_) λm=>?_)
  .let m:bN (aE (kF s c a b (n,(f))))=I:=m;rw[ak m]at k;show (λz d=>k z _ ((i.trans E).trans WB) ((i.trans E).free d) aB)
  let m:¬bN (aE (kF s c a b (n,(f))))=I:=m;rw[aj m]at k;let P:0<aM s*f/\aM s*f<2^1300:=by
   show(iN c1 b2,?_);let:aM s*f<=2^240*2^1000:=f7 (mU c2) Ja;show fP this Je
  let V7:i9 Jj A B H6 pv D ((aM s*f:Nat):Int) (cM s c) (kF s c a b (n,(f))):=by
   rw[zX];show N
  let s8:=i.trans E;show (λz d=>(B,pv,D,aM s*f,_,_,J,E.trans WB,V7.to WB,Ja,MU l c a b b1 b3,P.1,P.2,λy H7 R hy ey=>(R _ _ aB,ey,?_,λw ac=>k w _ (s8.trans ((aG d).trans (R.trans (aG ac)))) (s8.free ((aG d).free (R.free ac))) ?_)))
  .let:=F4 (sc:=aM s*f) (kn:=cM s c) (M:=kF s c a b (n,(f))) Ja (MU l c a b b1 b3) P.2;rw[bz,cP];change 1+_<=_
   lia
  rw[aB];rfl
inductive abi A vs H(Q:VK):Prop|mk v w x y(a:vs=[v,w])(b:uQ A H v x)(c:uQ A H w y)(d:Q (.bl (decide (Ua=y.node/\x.10=y.10))) H)
def anp(c:Jn):aK g 1 193 (abi A):=by
 show aK.rd c 2 [0,4,4,0,4,4] fz (aH<|uo (ah dR (aD WX Ji "node")<|aD WX Jl "node")<|ah dR (aD WX Ji "run")<|aD WX Jl "run") ?_;intro vs H Q d (v,w,x,y,rfl,(p,f,rfl,a),(q,i,rfl,b),k);show(a,b,Jg)
 .haveI h:Ua=y.node:=by
   lia
  show(a,b,?_);let e:decide (Ua=y.node/\x.10=y.10)=decide (V.int x.10=V.int y.10):=Ja
  rwa [e]at k
 let h:Ua≠y.node:=λz=>h Ja
 lia
def oE s(ms:Jw) sc e d:=
 let n:=aS s (aI s e).node
 ((aI s d).11:Int)*sc+(ms.getD J5 0-ms.getD (d+1) 0)*(if d<=e then n.lo.num*n.hi.den else n.hi.num*n.lo.den)
def mw s kn e d:=kP kn (d+1)&&decide ((aI s e).node=(aI s d).node/\(aI s e).10=(aI s d).10)
def mx s kn ms sc e n:=((aQ n).filter<|mw s kn e).map<|oE s ms sc e
def fN s e sc:=b8 sc*(aS s (aI s e).node).lo.den*(aS s (aI s e).node).hi.den
def zb s kn M(sc e:JD):=rL<|cK (ip<|mx s kn (iH JI ((sc:JH)*HV) kn.9) (fN s e sc:JD) e Jb)<|fN s e sc
inductive abj K A(vs:Ju) H Q:Prop|mk a S t s v p kn M(e:JD)(b:vs=[.ref t,.ref v,.int (e:JH)])(c:c9 K A a H t s)(d:J6)(f:UP)(g:i9 K A S H v p (aM s:JH) kn M)(h:kn.9=Jb)(i:e<Jb)(j:kP kn J5=I)(k:MB (2^331) JI)(l:iD H (zb s kn M Qe e) Q)
def anq s kn ms sc e n:mx s kn ms sc e (n+1)=mx s kn ms sc e n++(if mw s kn e n=I then [oE s ms sc e n] else []):=by
 delta mx;rw[oR];cases h:mw s kn e n=I
 .simp[h]
 simp[h]
def MV(a:J6)(b:MB (2^331) F)(c:n<=20) i:((iH F ((aM s:JH)*HV) n).getD i 0).5<=2^360:=by
 let(_,d):=fV a;let e:((aM s:JH)*HV).5<=2^240*1048576:=by
  rw[lU];show f7 (by rw[lQ];show mU d) JR
 show eO (eO (F2 b e n i)<|f7 c JR) Jc
def MW(a:J6)(he:e<Jb):0<fN s e Qe/\fN s e Qe<=2^240*ZG*Zd*1000000:=by let(c,d):=fV a;let(f,_):=a.ev _<|qR he;let(r1,b,_):=a.rt _<|oB f;show(iN (iN (iN c Jc) r1.2.2.1) b.2.2.1,f7 (f7 (f7 (mU d) JR) r1.2.2.2.1) b.2.2.2.1)
def F5(a:fM x)(b:fM y):(Yw*y.den).5<=Zd*1000000:=by rw[lU];show f7 (by let:=a.1;let:=a.2.1;omega) b.2.2.2.1
def abk(c:J6)(he:e<Jb)(hd:d<Jb)(f:∀i,(ms.getD i 0).5<=2^360)(h:sc.5<=2^240*ZG*Zd*Zd):
  (((aI s d).11:Int)*sc).5<2^WN/\(ms.getD J5 0-ms.getD (d+1) 0).5<2^WN/\(oE s ms sc e d).5<2^1000:=by
 let(j,_):=c.ev _<|qR he;let(_,k,_):=c.ev _<|qR hd;let(r1,g,_):=c.rt _<|oB j;haveI m:(((aI s d).11:Int)*sc).5<=Jk*(2^240*ZG*Zd*Zd):=by
  rw[lU];show f7 k h
 haveI l:(ms.getD J5 0-ms.getD (d+1) 0).5<=2^361:=by
  let a:=f J5;let b:=f<|d+1;omega
 haveI n:((ms.getD J5 0-ms.getD (d+1) 0)*(if d<=e then (aS s (aI s e).node).lo.num*(aS s (aI s e).node).hi.den else (aS s (aI s e).node).hi.num*(aS s (aI s e).node).lo.den)).5<=2^361*(Zd*Zd):=by
  rw[lU];apply f7 l;split
  .show F5 r1 g
  show F5 g r1
 show(by omega,JE,?_);delta oE;simp only;omega
def abl(he:e<Jb)(a:kP kn J5=I):mx s kn ms sc e Jb≠[]:=by
 intro z;haveI:e∈(aQ Jb).filter (mw s kn e):=by
  rw[kR];ext;delta mw;lia
 delta mx at z;ext
def MX(a:J6)(he:e<Jb)(b:kP kn J5=I)(c:∀i,(ms.getD i 0).5<=2^360)(d:sc.5<=2^240*ZG*Zd*Zd):(ip<|mx s kn ms sc e Jb).5<2^1900:=by let:=FZ<|abl (ms:=ms) (sc:=sc) he b;delta mx at this;let(g,hd,f):=eJ.1 this;delta mx;rw[<-f];show Dn ((abk a he (cC.1 (kR.1 hd).1) c d).2.2) Je
def anr(o:Jn):aK g 4 194 (abj Jj A):=by
 show aK.rd o 13 [4,0,8,3,0,8,4,3,0,8,4,0,0,12,1,1,3,8,2,10,1,0,3,3,0,0,0,1,1,0,1,1,90,0,0,4,0,93] (fc (Lo o)<|fc (anp o)<|mc o.iC.cl (Fw o)<|mc o.Bn.cl (aa5 o)<|fc (aa9 o) fz) (ay (aP (aN 1 (MN Jj A) Qh) Zx)<|ay (aP (ah Jq J3 Jv) UN)<|ay (aP (aD A.gF (ah Jq JU<|aD WX Qi "node") "lowest") Ww)<|ay (aP (aD A.gF (ah Jq JU<|aD WX Qi "node") "highest")<|aC 6)<|ay (aP (ah Qp (ah Qp (aD A.je JC "scale")<|ah JN Q6 Jh)<|ah JN W6 Jh)<|aC 7)<|ay (aP Z1<|aC 8)<|ay (dc (jc Jj<|U J3 aa) (gC Jj 2<|cX (aC 9)<|cX (aC 10) gB)<|a_ (jb (tB<|c5 ZO "is_known" 2 (yP Jj A) (aD Z3 Jl "steps")<|U (Z 9) aa)<|tB<|aN 2 (abi A)<|U Qi<|U (Z 10) aa) (ay (aP (ah Q4 (c5 A.je "moment_of" 2 (F0 Jj A) JC Qg)<|c5 A.je "moment_of" 2 (F0 Jj A) JC<|U (Z 9) aa)<|aC 11)<|ay (aP (ah Qp (Z 11)<|rZ (aY<|ah (aR Kj) (Z 9) Jv) (ah Qp (ah JN Q6 Jf)<|ah JN W6 Jh)<|ah Qp (ah JN W6 Jf)<|ah JN Q6 Jh)<|aC 12)<|cG<|ff Jj "list" gb (Z 8)<|U (ah QN (ah Qp (aD WX (Z 10) "reading")<|Z 7) (Z 12)) aa) ba) (aH (aN 2 ET (U (bA (yk Jj) (U (Z 8) aa)) W8)))) ?_;intro vs H Q hl (S0,S,t,s,v,p,kn,M,e,rfl,T,l,ss,Vw,bk,he,am,mb,k);let bl:=l.dr;let(c1,c2):=MS l;show(S,v,p,(aM s:JH),kn,M,J,ss,Vw,Ja,(MB.mono mb Je),Ja,Ja,λw m P C hW=>?_);let(d,c):=T.to C;obtain⟨x,hx⟩:∃x,s.8[e]?=Y x:=(_,cy he);let(vx,aw,R,a0,rfl,ac):=eS c.e hx;let ex:=nu hx;let(i1,i2):=l.ev x (bM hx);obtain⟨n,hn⟩:∃n,s.7[Ua]?=Y n:=(_,cy i1);let en:=uS hn;let(pn,a1,dn,nm,ae,hi,hN,n1,n2,n3):=eS c.n hn;haveI an:(d.ns.map Qv)[Ua]?=Y (.ref pn):=by rw[c8,a1];rfl
 let rt:=l.rt n (bM hn);let(dw,w1):=id hW;let lw:=F1 JI ((aM s:JH)*HV) kn.9;let ao:=MV l mb (n:=kn.9) Ja;let(k1,k2):=MW l he;haveI a2:fN s e Qe=b8 Qe*n.lo.den*n.hi.den:=by delta fN;rw[ex,en]
 haveI a3:(aM s:JH)*HV*n.lo.den*n.hi.den=((fN s e Qe:Nat):Int):=by rw[a2,abb,zX,zX]
 delta zb at k;generalize bm:iH JI ((aM s:JH)*HV) kn.9=ms at*
 let a4:(aM s:JH)*HV=((b8 Qe:Nat):Int):=abb _;let ws:=MQ c2;haveI a5:((aM s:JH)*HV*n.lo.den).5<2^4000:=by
  let:b8 Qe*n.lo.den<=2^1900*1000000:=f7 (mU ws) rt.1.2.2.2.1;show fP this Je
 show(c.top,(aq.of c.el),(dI aw),c.top,ac,(aq.of c.nl),(dI an),hN,c.top,ac,(aq.of c.nl),(dI an),hN,⟨w1,n2,J,((by rw[a4,lQ];lia),(qN rt.1).2),n3,J,(a5,(qN rt.2.1).2),(λa ha=>?_)⟩);let s2:az P (aA P a Jx):=aG ha;haveI ks:((fN s e Qe:Nat):Int).5<=2^240*ZG*Zd*1000000:=by rw[lQ];show k2
 show(s2 _ _ c.top,d.le,_,J,aq.of (s2 _ _ c.el),lh (λi u B=>E4 λD E F L=>A3 (u=[Y Zm,Y Uk,Y (.int e),Y Yo,Y (.ref R),Y (.ref ae),Y (.ref hi),Y (.int (fN s e Qe:Nat)),Y Jy,D,E,F,L]) (az P B) (B a=Y (.lst (bJ (mx s kn ms (fN s e Qe:Nat) e i))))) (O,O,O,O,by rw[<-a3];rfl,s2,aB) (λi u B _ (_,_,_,_,_,s,_)=>aq.of (s _ _ c.el)) ?_ ?_)
 .intro j y u X Tp hy (D,E,F,L,rfl,s3,ea) a6;let(z,hz,pz,dz,rfl,ap):=d7 c.e hy;let hj:=(cU.1 hz).1;let ab:=nu hz;let nT:az X (aA X Tp (.tup [.int j,.ref pz])):=aG a6;let b:=s3.trans nT;let N:=nT _ _ ea;generalize aA X Tp (.tup [.int j,.ref pz])=H3 at b N⊢;let st:=anq s kn ms (fN s e Qe:Nat) e j;let(dv,bn,bs,af):=id ((Vw.to (C.trans b)));let(dp,kA,r,rs,St):=id af.st;haveI ag:mw s kn e j=(kP kn Q7&&decide (Ua=z.node/\x.10=z.10)):=by delta mw;rw[ex,ab]
  haveI bv:(bJ (mx s kn ms (fN s e Qe:Nat) e j)).9<=20:=by
   delta mx bJ;rw[bz,bz];let:=xC (mw s kn e) (aQ j);rw[C0]at this;lia
  show(af.top,St.top,S,p,_,kn,M,Q7,by simp[de],ss.trans (C.trans b),af.st,JE,Jg)
  .show(_,_,x,z,J,(R,a0,J,b _ _ ac),(pz,dz,J,b _ _ ap),Zv)
   .haveI bo:mw s kn e j=I:=by rw[ag,h,h'];rfl
    rw[ak bo]at st;let(v1,v2,v3):=abk l he hj ao ks;rw[ab]at v1;let ai:=hW.to b;let(b0,ar):=id ai;let as:(2:Nat)^WN<2^4000:=Je
    show(ar,w,_,m,ms,e,J,ai,JE,ar,w,_,m,ms,j,J,ai,JE,?_);haveI fin:∀gr:Int,(z.11:Int)*((fN s e Qe:Nat):Int)+gr=oE s ms (fN s e Qe:Nat) e j->cG (ff Jj "list" gb (Z 8) (U (ah QN (ah Qp (aD WX (Z 10) "reading") (Z 7)) (Z 12)) aa)) {nx:=λu B=>E4 λD E F L=>A3 (u=[Y Zm,Y Uk,Y (.int (e:JD)),Y Yo,Y (.ref R),Y (.ref ae),Y (.ref hi),Y (.int (fN s e Qe:Nat)),Y Jy,D,E,F,L]) (az P B) (B a=Y (.lst (bJ (mx s kn ms (fN s e Qe:Nat) e Q7)))),rt:=Q} [Y Zm,Y Uk,Y (.int (e:JD)),Y Yo,Y (.ref R),Y (.ref ae),Y (.ref hi),Y (.int (fN s e Qe:Nat)),Y Jy,Y (.int (j:JD)),Y (.ref pz),Y (.int (ms.getD J5 0-ms.getD Q7 0)),Y (.int gr)] H3:=by
     intro gr al;show(.inl (J,_,aq.of N),b _ _ ap,(yV (l.ev z (bM hz)).2.1,?_),N,by rw[cP];omega,_,_,_,_,J,?_,?_)
     .rw[lQ];show fP k2 Je
     .show bZ b ha
     rw[aB,st,<-al];simp[bJ]
    let a7:=F5 rt.1 rt.2.1;let a8:=F5 rt.2.1 rt.1;let av:Zd*Zd<2^4000:=Je
    haveI al:∀f:j<=e,(z.11:Int)*((fN s e Qe:Nat):Int)+(ms.getD J5 0-ms.getD Q7 0)*(n.lo.num*n.hi.den)=oE s ms (fN s e Qe:Nat) e j:=λf=>by
     delta oE;erw[ex,ab,en];rw[ak f]
    haveI a9:∀f:¬j<=e,(z.11:Int)*((fN s e Qe:Nat):Int)+(ms.getD J5 0-ms.getD Q7 0)*(n.hi.num*n.lo.den)=oE s ms (fN s e Qe:Nat) e j:=λf=>by
     delta oE;erw[ex,ab,en];rw[aj f]
    show (aT (λf=>?_) λf=>?_)
    .haveI f:j<=e:=by let:((j:JD):Int)<=((e:JD):Int):=cV f;omega
     show⟨(cN (cg b) n2),J,(cN (cg b) n3),J,((qN rt.1).1,(qN rt.2.1).2),(Dn v2 as,fP a7 av),(fin _ (al f))⟩
    let f:¬j<=e:=λz=>f (cn JE)
    show⟨(cN (cg b) n3),J,(cN (cg b) n2),J,((qN rt.2.1).1,(qN rt.1).2),(Dn v2 as,fP a8 av),(fin _ (a9 f))⟩
   haveI bo:¬mw s kn e j=I:=by rw[ag,h];exists h'
   rw[aj bo,iu]at st;show(_,_,_,_,J,b,by rw[st];show N)
  haveI bo:¬mw s kn e j=I:=by rw[ag];intro z;rw[jo]at z;show h z.1
  rw[aj bo,iu]at st;show(_,_,_,_,J,b,by rw[st];show N)
 intro u X (D,E,F,L,rfl,s3,ea);rw[(b_ c.e)]at ea;let be:=abl (ms:=ms) (sc:=((fN s e Qe:Nat):Int)) he am;let bi:=MX l he am ao ks;let b1:(2:Int)^1900=((2^1900:Nat):Int):=Je
 let k3:fN s e Qe <2^1900:=fP k2 Je;show (MM (aq.of ea) be (_,((fN s e Qe:Nat):Int),J,JE,bi,JE,λq H4 s5 hq eq=>?_));rw[ed]at eq;show k q H4 (C.trans (s3.trans s5)) ((C.trans s3).free hq) eq
def xa s g e:=if dA s g [e] <0 then [dA s g [e]] else 0::zb s ZP J0 Qe e
inductive ant K A(vs:Ju) H Q:Prop|mk S t s wh rw g a(b:vs=[.ref t,.ref wh,rw])(c:JO)(d:J6)(e:H wh=Y (.lst (.int g::bW [a])))(f:Um)(h:Jz)(i:a<Jb)(j:iD H (xa s g a) Q)
def anu(f:Jn):aK g 7 195 (ant Jj A):=by
 show aK.rd f 5 [2,0,1,0,1,0,0] (fc (anr f)<|fc (uY f)<|fc (oz f) fz) (ay JF<|ay JP<|ay JT<|aH<|ah ic Zh<|aN 3 (abj Jj A)<|U Ji<|U JC YB) ?_;intro vs H Q P (S,t,s,R,rw,c,a,rfl,T,b,m,B,C,i,k);let X:=b.dr;let D:=c6 s c;delta xa at k;show FW T b m B C (λe he=>by rw[fZ.1 he];show i) (λh=>by rw[ak h]at k;show k) λh v p E H3 F o L=>?_
 rw[aj h]at k;let j:=F.trans o;let q:kP (cM s c) (a+1)=I:=by
  cases e:kP (cM s c) (a+1) with
  |true=>rfl
  |false=>
   exfalso;apply h;delta dA mq;rw[ak<|by simp[e]];decide
 let r:=(MW b i).2;show λz d=>(aq.of<|(j.trans WB) _ _ m,J,S,E,t,s,v,p,_,_,a,J,T.to<|j.trans WB,b,o.trans WB,L.to WB,D,i,q,λu v a e=>oC b c u v a e,λy H4 l hy N=>(l _ _ aB,N,?_,λw x=>k w _ (j.trans<|(aG d).trans<|l.trans<|aG x) (j.free<|(aG d).free<|l.free x) ?_))
 .rw[bz];delta zb;let:=yW (MX b i q (MV b (λu v a e=>oC b c u v a e) (n:=(cM s c).9) Ja) (by rw[lQ];show r)) (fP r Je:fN s a Qe <2^1900);rw[cP];change 1+_<=_
  lia
 rw[aB];rfl
def B4 s sc F src k c p i:=
 if (aI s i).node=k then
  if (aI s i).10=(aS s k).10 then
   (bG (bh (aF F Yj JK)<|fq sc Qr<|c-((aI s i).11:Int)) p.1,(
    bG (bh (g9 sc Qr<|c-((aI s i).11:Int))<|aF F JK Yj) (bG (aF F JK Yj) p.2)))
  else (p.1,(bG (aF F JK Yj) p.2))
 else p
def iI s sc F src k c n:=(aQ n).foldl (B4 s sc F src k c) (O,(O))
def MY s sc F src k c n:iI s sc F src k c (n+1)=B4 s sc F src k c (iI s sc F src k c n) n:=j3 _ _ _
def pU s(x:js) k c:=(iF (iI s (aM s:JD) Js WY k c Jb).2,((iI s (aM s:JD) Js WY k c Jb).1))
def gx s x k c:=lH (pU s x k c).1 (pU s x k c).2 Yr
def u7 s x k(c:JH):=if c<(cF s k:JD) then [-7] else if bN Js=I then [-8] else gx s x k c::(p_ (bE Qe (pU s x k c).1)++p_ (bE Qe (pU s x k c).2))
def tj(p:Int->Bool):Nat->Int->Int->Int|0,a,b=>a|f+1,a,hi=>if a<hi then (if p ((a+hi) / 2)=I then tj p f a ((a+hi) / 2) else tj p f ((a+hi) / 2+1) hi) else a
def my p lo:=tj p (Zt-lo) lo Zt
def qV s x k:=if bN Js=I then [-8] else if Jk<my (λc=>decide<|gx s x k c=2) Y8 then [0] else [1,my (λc=>decide<|gx s x k c=2) Y8]
def qW s x k:=if bN Js=I then [-8] else if my (λc=>decide Yt) Y8=(cF s k:JD) then [0] else [1,my (λc=>decide Yt) Y8-1]
def B5 s e:=0::VbdtCore.ints ((aQ Jb).filter λx=>(iU s e).getD x au)
def zc s:=(aQ Wr).filter λi=>decide<|aE QB=aE Ui
def F6 s:=(aQ UU).filter λi=>decide<|aE (jF s UJ<|s.marks.eraseIdx i)=aE Ui
def xb s:=if bN Js=I then [-8] else ((zc s).9:Int)::(VbdtCore.ints (zc s)++VbdtCore.ints (F6 s))
def F7 s kn sc e k c M g:=
 if (aI s g).node≠k then M
 else if (aI s g).10≠(aS s k).10 then gj kn M J5 (g+1) bp
 else if ((aI s g).11:Int) <c then yS kn sc Qr (gj kn M J5 (g+1) bp) (g+1) J5 (c-((aI s g).11:Int))
 else if c<((aI s g).11:Int) then yS kn sc Qr (gj kn M (g+1) J5 bp) J5 (g+1) (((aI s g).11:Int)-c)
 else gj kn (gj kn M (g+1) J5<|fq sc Qr 0) J5 (g+1) (fq sc Qr 0)
def tq s kn sc e k c M n:=(aQ n).foldl (F7 s kn sc e k c) M
def anv s kn sc e k c M n:tq s kn sc e k c M (n+1)=F7 s kn sc e k c (tq s kn sc e k c M n) n:=j3 _ _ _
def xf s e k c:=if bN Js=I then [-8] else if bN W4=I then [0] else [1]
def u9 s(x:js)(e:JD):=if dA s (e:JH) [WY] <0 then au else decide (lH (iF<|aF (aE<|aU s (e:JH)) J5 QC) (aF (aE<|aU s (e:JH)) QC J5) Yr=2)
def xg(s:bX)(x:js)(k:JD):List Int:=match (aQ Jb).find? λe=>decide ((aI s e).node=k)&&u9 s x e with
 |none=>[0]
 |some e=>[1,(e:JH)]
def B6(s:bX):=VbdtCore.ints [Jt,Jb,Wr,UU,QJ,s.log.9]
def anw(h:¬l<e):∀a,tj p a l e=l|0=>rfl|a+1=>by delta tj;rw[aj h]
def anx{d}{Q:VK}(s:d<=Jk)(q:∀f,az H f->Q (.int<|my p d) f):VL a p H Yy (L2.start K2 [.int d,.ref a]) H:=by
 apply ye (λg f=>E4 λl e k c=>A7 (g=[Y<|.int l,Y Jy,Y<|.int e,k]) (az H f) (0<=l) (l<=e) (e<=Zt) ((e-l).6<=c)<|tj p c l e=my p d) (λg x=>match g with|[Y (.int l),x,Y (.int e),y]=>(e-l).6|x=>0) (_,_,O,Zt-d,J,QT,Ja,Ja,Ja,Ja,J);intro g n (l,e,k,c,rfl,i,o,le,t,u,b);show aT J4 λh=>?_
 .let h:l<e:=WI;let r:l<=(l+e) / 2:=by omega
  let v:(l+e) / 2<e:=JE
  cases c with
  |zero=>omega
  |succ c=>
   delta tj at b;rw[ak h]at b;show((by decide,Je),J,_,J,i,Ja,Ja,λw m=>aT (λj=>?_) λj=>?_)
   .rw[ak j]at b;show((l,(l+e) / 2,_,c,J,i.trans m,o,r,JE,JE,b),by change ((l+e) / 2-l).6<(e-l).6;omega)
   rw[aj j]at b;show(((l+e) / 2+1,e,_,c,J,i.trans m,JE,JE,JE,JE,b),by change (e-((l+e) / 2+1)).6<(e-l).6;omega)
 let h:¬l<e:=Zj
 rw[anw h]at b;rw[<-b]at q;show q n i
def anz(i:Jn){c:JD}(t:g.mg "least_reading"=Y (.ref fL))
  (u:cQ QU j) (d:og g.P g.w Jj g.mg Wn j outer s H) (r:bP [.int c,.ref a] h) (V:FV g k outer s H a p) (v:c<=Jk) (q:∀l,az H l->Q (.int<|my p c) l):
  o9 (bb g.P g.w) j (.call (.ref fL) (h,[])) (CR jd outer g.P g.w H s Q E) s:=by
 let(f,m,fd,F):=(i.f 99:yn g "least_reading" wx);rw[t]at m;cases m;let w:h.9=["least","holds"].9:=r.length.3;let x:g.K.In s.13:=d.mod.rX.keeps λb o e=>(d.bs b o e).1
 haveI n:=(F.binds ajQ) s h x (by exists w);rw[iu]at n;show VJ F Bu (vs:=[.int (c:JH),.ref a]) J u d n r (λy=>ajR i V y)<|anx v q
structure MZ(x y:Str)(scope:l_):Prop where
 kind:scope.kind=.function
 co:scope.isCoroutine=au
 gen:scope.isGenerator=au
 ne:x≠y
 lx:scope.names.lookup x=Y .local
 ly:scope.names.lookup y=Y .free
 only:∀z,(scope.names.lookup z=Y .cell\/scope.names.lookup z=Y .free)->z=y
 M0:∀z∈JL,z.2≠.cell
def zd(g:G)(x y a:Str)(scope:l_)(f c cr:ax)(A:fA)(outer:List Env)(s:bc)(H:Hp):Cx where
 prog:=g.P
 w:=g.w
 K:=Jj
 mg:=g.mg
 base:=Wn
 A:=A.deeper<|Dl a scope Jd f Za [(y,(cr))]
 N:=[x,y]
 iO:=s
 nZ:=H
 env:=Dl a scope Jd f Za [(y,(cr))]
 outer:=outer
 stack:=Dl a scope Jd f Za [(y,(cr))]::outer
 ex:=[]
 fn:=λz=>z==x
 calm:=I
 pn:=[]
 xe:=UH
def B7(h:([(y,(cr))]:List<|Str×ax).lookup z=Y c):z=y/\c=cr:=by
 rw[p9]at h;split at h
 .ext
 cases h
def abm:([(y,(cr))]:List<|Str×ax).lookup y=Y cr:=Jc
def anA{wv}
  (S:MZ x y scope) (t:cQ QU A) (m:og g.P g.w Jj g.mg Wn A outer s H) (L:s.heap.get? f=Y (zU nm n params body scope [(y,(cr))] pm c N)) (P:s.heap.CodeRec Za n)
  (R:s.heap.IsCell cr<|Y u) (T:H cr=O) (X:RelV v u) (ab:RelV wv w) (ac:xX (Pp nm n params body scope [(y,(cr))] pm Za N) ([w],[])=pure [(x,(w))])
  (hb:cQ k (zd g x y n scope f c cr A outer s H).A->PE (zd g x y n scope f c cr A outer s H) body tb) (hq:tb [Y wv,Y v] H Q):
  o9 (bb g.P g.w) A (.call J7 ([w],[])) (CR jd outer g.P g.w H s Q E0) s:=by
 apply asz t.depth L J S.co S.gen J P;rw[ac];show dG<|at5 S.M0 (λz hz=>by rw[fZ.1 hz];show S.lx) (λD ae E=>((m.mod.nolimit.keeps λb o e=>(m.bs b o e).1).fresh _ E,?_)) S.kind;let B:=λb o e=>E.extBut b o (iw<|dF e)<|dm _ e
 let(oc,af,ag):=id R;let F:D.IsCell cr (Y u):=(oc,B _ _ af,ag);haveI ai:Inv (zd g x y n scope f c cr A outer s H) [] [Y wv,Y v] H {s with heap:=D,toks:=ZK+1}:=by
  let C:∀b:ax,b∉(zd g x y n scope f c cr A outer s H).ex:=λb z=>absurd (show b∈[] from z) Jc
  show((m.mod,S.kind,J,J,JR,λa b d j l=>?_,λa j=>?_,λa d j l=>?_,λK=>t.hd,aeG m.frames,.inr (J,J),λb z=>absurd z<|C b,m.bs,m.m7,λb K K=>C b,λb z=>absurd z<|C b,m.km,m.qo),
   rfl,m.bare,Un.kept B,(_,ae,λi z a j l h3=>?_),λz d h=>?_,m.bo.fresh JR,λz d h=>?_,λp hp=>absurd (show p∈[] from hp) Jc,m.bo.kept B,J)
  .show (B7 j).1.trans (B7 l).1.3
  .rw[S.only a j];show(cr,abm)
  .let j:(a==x)=I:=j;show absurd ((vM.1 j).symm.trans<|(B7 l).1) S.ne
  .match i,j,l with
   |0,j,l=>
    let j:=bt j;let l:=bt<|bt l;subst j;subst l;show(w,ab,.inl (S.lx,?_));ext
   |1,j,l=>
    let j:=bt j;let l:=bt<|bt l;subst j;subst l;show(u,X,.inr (.inr S.ly,cr,abm,F))
   |i+2,j,l=>cases j
  .rw[(B7 h).2];show(_,F)
  rw[(B7 h).2];show T
 show asy<|kX (hb (t.deeper _) [] _ _ H Q ai hq) (λv s' (v',H',r,rv,q)=>(v',H',r.os,r.bare,r.base,r.bo,rv,q)) λK K z=>gn z
def M3(P:ax)(pos:Pos)(g:Str)(i:JD)(h j:TE):TE:=λf H Q=>j f H λv b=>∃(d:Nat) (p:Int->Bool) (r:V),v=.int (d:JH)/\d<=Jk/\(∃z,b P=Y (.tab z pos g))/\f[i]?=Y (Y r)/\
 (∀(c:Int) (e:Hp),az b e->0<=c->c<=Jk->h [Y<|.int c,Y r] e λv a=>v=.bl (p c)/\az e a)/\∀a,az b a->Q (.int<|my p d) a
def abn(af:Jn) i
  (hX:cQ (k+2) (cx g N b sc d bu j outer a H0 E).A) (L:K1 UX P B) (hN:N[i]?=Y y) (hy:sc.names.lookup y=Y .cell) (C:(iy (JG+1) sc.names []).lookup y=Y cr)
  (he:PE UX e te) (S:MZ x y scope)
  (hb:∀(f c cr:ax) A1 ab s1 H1,cQ k (zd g x y B scope f c cr A1 ab s1 H1).A->PE (zd g x y B scope f c cr A1 ab s1 H1) body tb)
  (hg:Gl UX "least_reading") (ao:afW params (cx g N b sc d bu j outer a H0 E).env=([],([]))) (ap:HJ scope (cx g N b sc d bu j outer a H0 E).env=pure [(y,(cr))])
  (ar:∀(pm cd ag w:aO),xX (Pp "<lambda>" B params body scope [(y,(cr))] pm cd ag) ([w],[])=pure [(x,(w))])
  (hs:autoParam (bB [e,.Lambda params body scope ac] (cx g N b sc d bu j outer a H0 E).env=(au,(bC e (cx g N b sc d bu j outer a H0 E).env))::bB [.Lambda params body scope ac] (cx g N b sc d bu j outer a H0 E).env) a'):
  PE UX (.Call (.Name "least_reading" p0) [e,.Lambda params body scope ac] [] pos) (M3 P ac B i tb te):=by
 intro yq s σ H Q ae h;let(fL,hm,fd,F):=(af.f 99:yn g "least_reading" wx);show xF<|AB ae hg hm (Hc (h₀:=Wn) ae.ok.mod.rX F.kp ?_ hs J) (by rfl);rw[hs];show O6<|bF (he yq s σ H _ ae h) fun u s1 (v,H1,D,r1,as,p,r,ev,h0,(z,hP),av,aw,q)=>?_;subst ev;show O6<|VH L D hP ao ap λf c' ag s2 H2 l sm a0 hf hsz R=>aeV (l.ju,?_);let(m,hn,hl):=l.loc;let(uy,ry,lk):=hl i y r hN av<|.inr<|.inl hy;let a1:s2.heap.IsCell cr (Y uy):=by
  rcases lk with⟨z,_⟩|⟨_,c2,T,z⟩
  .let z:sc.names.lookup y=Y .local:=z;rw[hy]at z;cases z
  let T:(iy (JG+1) sc.names []).lookup y=Y c2:=T;rw[C]at T;cases T;show z
 let ai:=l.ma y cr C;let al:f∉kY (cx g N b sc d bu j outer a H0 E).stack:=λz=>by
  rcases fQ.1 (D.Az f z) with z|z
  .show absurd (iJ D.lt hsz) (by rw[z];show oU _)
  show D.H_ hsz z
 let a2:cr∉kY (cx g N b sc d bu j outer a H0 E).stack:=λz=>by
  rcases fQ.1 (l.Az cr z) with z|z
  .show l.uj y cr C z
  let(_,o,R,_):=l.ok.km.mem z;show absurd (iJ (dF R)<|l.ok.yb y cr J C)<|oU _
 let V:FV g QU (cx g N b sc d bu j outer a H0 E).stack s2 H2 f p:=by
  show((_,_,_,_,R),hf,al,λA1 ab s3 X c t hr e0 un am c0 c1=>?_);let(oc,an,a3):=id a1;let(od,vs,t2,z1,z2,z3):=e0.bo c' _<|am _ _ a0;show anA S hr e0 (un.keep f _ R hf al Jc) (c',od,vs,t2,J,z1,z2,z3) (oc,un.keep cr _ an ai a2 Jc,a3) (un.free cr _ an ai Jc) ry (wv:=.int c) (t,J) (ar _ _ _ _) (hb _ _ _ _ _ _ _)<|aw c X (sm.trans am) c0 c1
 show HI<|Ac (anz af hm hX l.AN (.cons r1<|.cons J .nil) V h0 (Q:=λv X=>v=.int (my p as)/\az H2 X) (E:=E0) λX s3=>(J,s3)) λrr s' n=>?_;cases rr with
 |error e=>show gn n
 |ok fl=>
  cases fl with
  |ret u=>
   let(v,H4,I4,rv,ev,a4):=l.after n;subst ev;show(_,H4,I4,rv,q H4<|sm.trans a4)
  |next=>show gn n
  |brk=>show gn n
  |cont=>show gn n
inductive abo K A(vs:Ju) H(Q:VK):Prop|mk b S v p sc kn M t s src k c(d:vs=[.ref v,.ref t,.int ((src:JD):Int),.int ((k:JD):Int),.int c])(e:c9 K A b H t s)(f:J6)(g:Zw)(h:kn.9=Jb)(i:src<Jb)(j:Wy)(l:c.5<=2^99)(m:0<=sc)(n:sc<2^2000)(o:∀x a,az H a->uX K a x (iF (iI s sc JI src k c Jb).2) (iI s sc JI src k c Jb).1->Q x a)
def anB(l:Jn):aK g 3 174 (abo Jj A):=by
 show aK.rd l 13 [0,8,3,8,0,4,3,1,0,4,3,0,4,1,2,5,9,10,4,9,10,1,2,3,0] (fc (XC l)<|fc (ak0 l)<|fc (yF l)<|mc l.jf.cl (FJ l)<|fc (Mb l)<|fc (aal l) fz) (ay (aP (ah Jq (aD A.bT Jl "nodes") JC) Ww)<|ay (aP (tC .aW)<|aC 6)<|ay (aP (tC .aW)<|aC 7)<|ay (dc (jc Jj<|U (aD A.bT Jl "events") aa) (gC Jj 2<|cX (aC 8)<|cX (aC 9) gB)<|ay (a_ (aY<|ah iS (aD WX (Z 9) "node") JC) AD ba)<|ay (aP (c5 Z3 "limit_between" 3 (sU Jj A) Ji<|U (Z 8) Qg)<|aC 10)<|ay (aP (aN 2 (E_ Jj)<|U (Z 7)<|U (Z 10) aa)<|aC 7)<|a_ (aY<|ah dR (aD WX (Z 9) "run")<|aD A.gF Q6 "cuts") (ay (aP (ah Q4 Qi<|aD WX (Z 9) "reading")<|aC 11)<|ay (aP (aN 2 (E_ Jj)<|U (Z 7)<|U (aN 2 (uK Jj)<|U (aN 3 (wR Jj A g9)<|U Q6<|U (Z 11)<|U (aD ZO WL "scale") aa)<|U (Z 10) aa) aa)<|aC 7)<|ay (aP (aN 3 (wR Jj A fq)<|U Q6<|U (Z 11)<|U (aD ZO WL "scale") aa)<|aC 12)<|aP (aN 2 (E_ Jj)<|U W6<|U (aN 2 (uK Jj)<|U (c5 Z3 "limit_between" 3 (sU Jj A) Ji<|U Jv<|U (Z 8) aa)<|U (Z 12) aa) aa)<|aC 6) ba)<|aH<|hZ<|U (aN 1 (Ly Jj) W8)<|U W6 aa) ?_;intro vs H Q hl (S0,S,v,p,sc,kn,M,t,s,src,k,c,rfl,(d,T),so,q,lk,a8,hk,hc,ag,ai,kk);obtain⟨n,E⟩:∃n,s.7[k]?=Y n:=(_,cy hk);let(pn,ap,F):=eS T.n E;let rt:=so.rt n<|bM E;show(Qm,aq.of YY,(dI (by rw[c8,ap];rfl)),Qm,d.le,_,J,aq.of Y7,lh (λi u w=>E7 λo b L N P R X=>A4 (u=[Y Uk,Y Zm,Y (.int (src:JD)),Y (.int (k:JD)),Y (.int c),Y (.ref pn),Y o,Y b,L,N,P,R,X]) (az H w) (cS Jj w o (iI s sc JI src k c i).1) (cS Jj w b (iI s sc JI src k c i).2)) (_,_,O,O,O,O,O,J,QT,J,J) (λi u w _ (_,_,_,_,_,_,_,_,s,_,_)=>aq.of (s _ _ Y7)) ?_ ?_)
 .intro j y u x Tp hy (o,b,L,N,P,R,X,rfl,s3,al,B) ar;let(z,hz,pz,dz,rfl,ab):=d7 T.e hy;let hj:j<s.events.9:=(cU.1 hz).1;let as:=nu hz;let nT:az x (aA x Tp (.tup [.int (j:JD),.ref pz])):=aG ar;let f:=s3.trans nT;let C:=al.to (cg nT);let ac:=B.to (cg nT);generalize aA x Tp (.tup [.int (j:JD),.ref pz])=H3 at f C ac⊢;let st:=MY s sc JI src k c j;let a9:=(so.ev z (bM hz)).2.1;delta B4 at st;erw[as,(uS E)]at st;show(f _ _ ab,Jg)
  .let h:¬z.node=k:=by
    intro e;subst e;simp at h
   rw[aj h]at st;show(_,_,_,_,_,_,_,J,f,by rw[st];show C,by rw[st];show ac)
  let h:z.node=k:=by
   let:((z.node:JD):Int)=((k:JD):Int):=by exists h
   lia
  rw[ak h]at st;let(dv,be,bi,ae):=q.to f;show(ae.top,S,v,p,sc,kn,M,Q7,Yj,by simp[de],q.to f,Ja,Ja,λr hr=>(_,_,_,_,J,ac,hr,λb1 am=>?_));let(dn,nm,bk,bl,n1):=id (F.sm f);show(f _ _ ab,n1,aT (λm=>?_) λm=>?_)
  .let m:z.10=n.10:=by
    let:((z.10:Nat):Int)=((n.10:Nat):Int):=by exists m
    lia
   rw[ak m]at st;let(dp,kA,rr,rs,St):=id ae.st;let an:(c-(z.11:Int)).5<=2^100:=by
    let e1:(2:Nat)^100=2^99+2^99:=Je
    let e2:Jk<=(2:Nat)^99:=Je
    generalize (2:Nat)^99=bm at*
    lia
   show(f _ _ ab,ae.top,St.top,pn,n,_,sc,J,F.sm f,rt.1,rt.2.1,an,ag,ai,λbs H5 D av=>?_);show(_,_,_,_,J,av,hr.to (cg D),λb2 H6 s6 aw=>(_,_,_,_,J,am.to (cg (D.trans s6)),aw,λb3 a0=>?_));let s7:=f.trans (D.trans s6);let(bn,bv,b0,ao):=q.to s7;let(b4,b5,b6,b7,a1):=id ao.st;show(ao.top,a1.top,pn,n,_,sc,J,F.sm s7,rt.1,rt.2.1,an,ag,ai,λos H8 s8 a2=>?_);let s9:=s7.trans s8;let(ca,cc,cd,a3):=q.to s9;show(a3.top,S,v,p,sc,kn,M,Yj,Q7,by simp[de],q.to s9,Ja,Ja,λfr a4=>(_,_,_,_,J,a4,a2,λo2 ce af a5=>(_,_,_,_,J,C.to (cg (((D.trans s6).trans s8).trans af)),a5,λo3 a6=>?_)));show(_,_,_,_,_,_,_,J,s9.trans af,by rw[st];show a6,by rw[st];show a0.to (cg (s8.trans af)))
  let m:¬z.10=n.10:=by
   intro e;rw[e]at m;simp at m
  rw[aj m]at st;show(_,_,_,_,_,_,_,J,f,by rw[st];show C,by rw[st];show am)
 intro u x (o,b,L,N,P,R,X,rfl,s3,al,B);rw[(b_ T.e)]at al B;show(_,_,J,B,λv1 H4 f a7=>(λa ha=>kk _ _ ((s3.trans f).trans (aG ha)) (a,_,_,J,bR.of aB,a7.to (cg (aG ha)),al.to (cg (f.trans (aG ha))))))
abbrev nrF(t v a:ax)(k:JD):List QD:=[(aZ "told",(.ref t)),(aZ "view",(.ref v)),(aZ "parcel",(.ref a)),(aZ "number",(.int (k:JD)))]
structure zf(K:bH)(A:Ad)(b S H:Hp)(r t v p:ax)(s:bX)(x:js)(k:JD):Prop where
 top:∃dx a,H r=Y (.ins Yv dx<|nrF t v a k)/\uR K A H Jy x
 tl:c9 K A b H t s
 vw:i9 K A S H v p (aM s:JD) (cM s<|-1) Ui
theorem zf.to{K}(T:zf K A a S H r t v p s x k)(m:az H b):zf K A a S b r t v p s x k:=by let((c,d,f,g),h,i):=T;show((c,d,m _ _ f,g.to (λj j j e=>m _ _ e)<|cg m),h.to m,i.to m)
theorem eF.ins{K M}(h:eF K H a e M)(c:H r=Y (.ins C f fs)):eF K (aA H r<|.ins C f fs') a e M:=by show(by rw[aJ<|eK h.top c Ja];show h.top,dk (fun b m (vs,d,g)=>(vs,?_,lF g<|cY.ins c)) h.rows,h.nd,h.na);rw[aJ<|eK d c Ja];show d
theorem i9.ins{K M}(h:Zw)(b:H r=Y (.ins C c fs))(d:v≠r)(e:p≠r):i9 K A S (aA H r<|.ins C c fs') v p sc kn M:=by let(f,a,as,g,(i,k,j,l,T),m):=h;show(f,a,as,by rw[aJ d];show g,(i,k,j,l,by rw[aJ e];show Qm,T.hk,T.gG.ins b,T.fr,T.sq,T.len),m.ins b)
inductive F8 K A(vs:Ju) H(Q:VK):Prop|mk S t s i x k(c:vs=[.ref t,.int ((i:JD):Int),.int ((k:JD):Int)])(d:JO)(e:J6)(f:Qk[i]?=Y x)(g:∀r v p b a,H r=O->az H a->zf K A S b a r t v p s x k->Q (.ref r) a)
def M4(l:Jn):dP g 7 "NextReadings" Yv ["self","told","parcel","number"] (F8 Jj A):=by
 show dP.rd l l.qL.at_ 4 [11,11,0,11,0,8,11] (fc (oz l) fz) (ay (cJ Yv Ji Jl "told")<|ay (cJ Yv Ji (aN 2 (mn Jj A)<|U Jl<|U Q0 aa) "view")<|ay (cJ Yv Ji (ah Jq (aD A.bT Jl "parcels") Jv) "parcel")<|cJ Yv Ji JC "number") λvs H Q h r b c X ac=>?_
 let(S,t,s,i,x,k,rfl,(d,T),so,hx,kk):=h;let(vx,ab,y):=eS T.p hx;let(f,ae,nm,rfl):=id y;show(J,?_);let z:=bZ (o:=.ins Yv b JQ) (lC (C:=Yv) c X) c;show(aB,Je,S,t,s, -1,J,(d,T.to z),so,Ja,Ja,λv p H1 B hv m D E Vw=>?_);let F:=aB (H:=aA (aA H b<|.own r) r<|.ins Yv b []) (a:=r) (o:=.ins Yv b JQ);let n:v≠r:=Ja
 let q:p≠r:=λe=>by subst e;rw[m _ _ F]at E;cases E
 let L:=(m.trans D) _ _ F;let N:=Vw.ins (fs':=Zi) L n q;let u:=bZ (o:=.ins Yv b Zi) (z.trans<|m.trans D) c;let w:=aB (H:=B) (a:=r) (o:=.ins Yv b Zi);show(L,ji,?_);generalize aA B r (.ins Yv b Zi)=H3 at N u w⊢;let P:=T.to u;show(P.top,aq.of P.pl,dI ab,w,iE,?_);let R:=aB (H:=H3) (a:=r) (o:=.ins Yv b Y1);let V4:=N.ins (fs':=Y1) w n q;show(R,BH,J,?_);let j:=bZ (o:=.ins Yv b<|bD "number" (V.int k) Y1) (bZ (o:=.ins Yv b Y1) u c) c;show kk r v p H1 _ c j ((b,f,by rw[aB];rfl,y.to (λK K K e=>j _ _ e)<|cg j),(d,T.to j),V4.ins R n q)
inductive M5 K A(vs:Ju) H(Q:VK):Prop|mk b S r t v p s x k c(d:vs=[.ref r,.int c])(e:zf K A b S H r t v p s x k)(f:J6)(g:WY<Jb)(h:Wy)(i:c.5<=2^99)(j:∀y a,az H a->uX K a y (pU s x k c).1 (pU s x k c).2->Q y a)
def abp(b:Jn):gE g 4 Yv "age_at" ["self","reading"] (M5 Jj A):=by show gE.rd b b.Vh 2 [0,11,11,7,11,11] (fc (anB b) fz) (aH<|aN 5 (abo Jj A)<|U (aD Yv Ji "view")<|U (aD Yv Ji "told")<|U (aD A.kr (aD Yv Ji "parcel") "event")<|U (aD Yv Ji "number") Qh) ?_;intro vs H Q u (f,S,r,t,v,p,s,x,k,c,rfl,((w,y,a,z,B,nm,e,h,_),T,i),d,j,l,m,n);cases e;let(o,q):=FF d;show(a,a,a,h,a,f,S,v,p,_,_,_,t,s,WY,k,c,J,T,d,i,WA,j,l,m,o,q,n)
inductive F9 K A(vs:Ju) H(Q:VK):Prop|mk b S r t v p s x k c(d:vs=[.ref r,.int c])(e:zf K A b S H r t v p s x k)(f:J6)(g:WY<Jb)(h:Wo<=Jk)(i:Wy)(j:c.5<=2^99)(l:∀a,az H a->Q (.int (lH (pU s x k c).1 (pU s x k c).2 Yr)) a)
def M6(a:Jn):gE g 5 Yv "life_at" ["self","reading"] (F9 Jj A):=by show gE.rd a a.Vi 2 [0,1,0,7,11,9,10,11] (fc (Mr a)<|mc a.qL.cl (abp a) fz) (aH<|aN 2 (FL Jj)<|U (c5 Yv "age_at" 2 (M5 Jj A) Ji Qh)<|U (ah Qp (aD A.kr (aD Yv Ji "parcel") "life")<|aD ZO (aD Z3 (aD Yv Ji "view") "steps") "scale") aa) ?_;intro vs H Q D (i,S,r,t,v,p,s,x,k,c,rfl,N,d,j,l,m,n,o);obtain⟨⟨q,u,b,_⟩⟩:=id N;show(b,i,S,r,t,v,p,s,x,k,c,J,N,d,j,m,n,λy E f w=>?_);let((q,u,b,F,L,nm,e,z,_),T,B):=N.to f;cases e;let(P,R,X,h):=id B;let(dp,kA,rr,rs,St):=id h.st;show(b,z,b,h.top,St.top,(yV l,FY d),y,_,_,_,J,w,λH6 C=>o _<|f.trans C)
inductive anC K A(vs:Ju) H Q:Prop|mk S t s wh i x k c(a:vs=[.ref t,.ref wh])(b:JO)(d:J6)(e:H wh=Y (.lst [.int ((i:JD):Int),.int ((k:JD):Int),.int ((c:JD):Int)]))(f:Qk[i]?=Y x)(g:Wy)(h:c<=Jk)(j:iD H (u7 s x k c) Q)
def anD(b:J6)(i:Wy)(o:0<=c)(p:c<=Jk):∀n,n<=Jb->LB (2^333) (iI s (aM s:JD) Js src k c n).1/\LB (2^333) (iI s (aM s:JD) Js src k c n).2:=by
 intro n;let q:=BX b;let(j,l,_):=b.rt _<|oB i;induction n with
 |zero=>intro _;show((λa e=>by cases e),λa e=>by cases e)
 |succ n m=>
  intro r;let(d,f):=m Ja;rw[MY];delta B4;let t:=(b.ev _<|qR (show n<Jb by lia)).2.1;let g:(c-((aI s n).11:Int)).5<=1000000000000:=Ja
  let f2:=oC b (-1) (n+1) Yj;let h:LB (2^333) (aF Js (n+1) Yj):=λa e=>eO (f2 a e) Jc
  split
  .split
   .show(LB.least (λa e=>eO (LB.add (oC b (-1) Yj<|n+1) (aaD j g) a e) Ja) d,LB.least (λa e=>eO (LB.add (aaE l g) f2 a e) Ja)<|LB.least h f)
   show(d,LB.least h f)
  show(d,f)
def abq(g:J6)(h:Wy)(i:0<=c)(j:c<=Jk):sR (pU s x k c).1/\sR (pU s x k c).2:=by
 let(l,m):=anD g h i j Jb JR;let e:2^333<2^1900:=Je
 show(λa d=>?_,l.lI e);let d:iF (iI s (aM s:JD) Js WY k c Jb).2=Y a:=d;cases f:(iI s (aM s:JD) Js WY k c Jb).2 with
 |none=>rw[f]at d;cases d
 |some b=>
  rw[f]at d;rw[<- (bt d),rQ,PF];show m.lI e b f
def anE(d:Jn):aK g 9 177 (anC Jj A):=by
 show aK.rd d 4 [0,0,5,0,4,0,0,3,11,1,0,1,2,9,10,11] (mc d.qL.cl (M6 d)<|fc (aav d)<|mc d.qL.cl (abp d)<|mc d.jf.cl (sV d)<|kc (M4 d)<|fc (Fi d) fz) (ay (aP JV QQ)<|ay (a_ (aY<|ah QO Jv<|aN 2 (BQ Jj A)<|U Ji YB) (aH<|bx<|U (tC<|.int<|-7) aa) ba)<|ay (aP (fJ (F8 Jj A)<|U Ji<|U Qo YB) Zx)<|ay (a_ (tB<|c5 Z3 "contradicts" 1 YH (aD Yv JC "view") aa) ZH ba)<|aH<|ah ic (bx<|U (c5 Yv "life_at" 2 (F9 Jj A) JC Qg) aa)<|aN 2 (Mq Jj)<|U (c5 Yv "age_at" 2 (M5 Jj A) JC Qg)<|U (aD ZO (aD Z3 (aD Yv JC "view") "steps") "scale") aa) ?_;intro vs H Q hl (S,t,s,wh,i,x,k,c,rfl,T,j,l,F,m,hc,e);let(L,ji,iE):=j.pc x<|bM F;let lk:=WA;let am:=j.dr;let(c1,u):=y4 j;let P:(c:JH).5<=2^99:=by
  show eO hc Je
 delta u7 at e;show(aq.of l,J,aq.of l,J,S,t,s,k,J,T,m,Jg)
 .let h:(c:JH) <(cF s k:JD):=WI;rw[ak h]at e;show λz f=>e z _ (aG f) f aB
 let h:¬(c:JH) <(cF s k:JD):=Zj
 rw[aj h]at e;show(aq.of l,J,aq.of l,J,S,t,s,i,x,k,J,T,j,F,λr v p B H2 hr C N=>?_);let((dx,px,R,_),_,X):=id N;let(dv,an,ao,V'):=id X;show(R,V'.top,B,v,p,_,_,_,J,X,Ja,Jg)
 .rw[ak h]at e;show λz f=>e z _ (C.trans<|aG f) (C.free f) aB
 rw[aj h]at e;let(a1,a2):=abq j (c:=c) m Ja Ja;show(R,S,B,r,t,v,p,s,x,k,c,J,N,j,L,iE,m,P,λH3 s3=>λz f=>?_);let n:=N.to<|s3.trans<|aG (o:=.lst [V.int<|gx s x k c]) f;let D:=C.trans<|s3.trans<|aG (o:=.lst [V.int (gx s x k c)]) f;let ab:=aB (H:=H3) (a:=z) (o:=.lst [V.int (gx s x k c)]);delta gx at n D ab;obtain⟨⟨ap,ar,af,_⟩⟩:=id n;show(af,S,B,r,t,v,p,s,x,k,c,J,n,j,L,m,P,λy H5 q hy=>?_);let((as,av,ag,_),_,ai):=n.to q;let(aw,a0,a3,ac):=id ai;let(a4,a5,a6,a7,al):=id ac.st;show(ag,ac.top,al.top,y,_,_,Qe,J,hy,a1,a2,c1,u,λb H6 E hb eb=>((q.trans E) _ _ ab,eb,?_,λw ae=>e w _ (D.trans (q.trans (E.trans (aG ae)))) (D.free (q.free (E.free ae))) ?_))
 .rw[bz,cE];let l1:=oA a1 u;let l2:=oA a2 u;rw[cP];change 1+_<=_
  lia
 rw[aB];delta gx;simp
def xh(g:G)(x:Str)(st:eP)(P:ax):Prop:=∃f fd c,g.mg x=Y J7/\uB Jj x x st f fd/\fd.code=.ref c/\vH Wn c P
def u_(g:G):=∃a b,g.mg "__builtins__"=Y Jy/\a≠Aj/\a≠eY/\g.base.get? a=Y b/\b.cls=.type "module"/\b.dict=Y Aj/\b.data=.plain
def bI.M7{st}(F:xh g x st P)(S:fe N ps ZN)(B:gu x x st ps)
  (T:∀f bu A outer s H E,(∃c,bu=.ref c/\vH Wn c P)->cQ k (A.deeper<|l9 x ZN Jd f bu)->iP (cx g N x ZN f bu A outer s H E) (iY st) t)
  (h:∀vs H Q,vs.9=ps.9->q vs H Q->t Yy (L2.start N vs) H):bI g QU x ps q:=by
 let(f,fd,c,b,F,d,C):=F;show(f,fd,b,F.kp,F.binds B,(λvs H Q E z=>z.1,λA outer s H args m vs Q E e i j r a=>VJ F S a.1 e i j r (λl=>T f fd.code A outer s H E (c,d,C) l)<|h vs H Q a.1 a.2))
abbrev abr:List Str:=["told","wholes","readings","found"]
def M8:fe abr ["told","wholes"] (bY qI):=ik<|by rfl
def anF:gu "answer_over" "answer_over" qI ["told","wholes"]:=λa a a a a a=>mi λa a=>by kernel_rfl
abbrev anG(g:G)(A:Ad) P:=(ay (aP (fJ (F8 Jj A)<|U Ji<|U Qo YB) QQ) (ay (a_ (tB<|c5 Z3 "contradicts" 1 YH (aD Yv Jv "view") aa) ZH ba)
 (ay (aP (M3 P (sY qI 2) MF 2 (ah dR (c5 Yv "life_at" 2 (F9 Jj A) Jl ZZ)<|tC<|.int 2)<|aN 2 (BQ Jj A)<|U Ji YB) Zx)
 (aH<|rZ (aY<|ah Wq JC<|tC<|.int Jk) Zh<|bx<|U Jh Zo))))
def abt{x y scope}(c:autoParam (scope.kind=.function) a')(d:autoParam (scope.isCoroutine=au) a')(e:autoParam (scope.isGenerator=au) a')(f:autoParam (x≠y) b')(g:autoParam (scope.names.lookup x=Y .local) a')(h:autoParam (scope.names.lookup y=Y .free) a')
  (b:autoParam (∀p∈JL,(p.2=.cell\/p.2=.free)->p.1=y) b') (i:autoParam (∀z∈JL,z.2≠.cell) b'):MZ x y scope:=by
 show(c,d,e,f,g,h,λz a=>?_,i);rcases a with a|a
 .show b _ (jP a) Qw
 show b _ (jP a)<|.inr J
def anH(a:Jn)(B:u_ g) f bu d outer s(H:Hp)(E:XK)(e:∃c,bu=.ref c/\vH Wn c P)(b:cQ 8<|d.deeper<|l9 "answer_over" (bY qI) Jd f bu):
  iP (cx g abr "answer_over" (bY qI) f bu d outer s H E) (iY qI) (anG g A P):=by
 show eQ (ij 2 M8.nd<|D8 (M4 a) Zn<|br Q3<|br (gK jx ZL e_ λa a=>rfl)<|br (gK jx ZL e_ λa a=>rfl) cb)<|eQ Yk<|eQ (ij 3 M8.nd ?_)<|fB<|iQ<|DH (r8 DR YX (wg<|a.c 19)<|qx _) (jY<|br e_ cb)<|jY<|br e_<|br YX cb;show abn a (k:=5) (x:="reading") (y:="readings") (cr:=UZ) 2 Zn (e,B,J) J J J (nh (Fi a) Zn<|br Q3<|br (gK jx ZL e_ λa a=>rfl) cb) abt (λf c cr i j l m h=>AK uu (Kp a.qL.cl (M6 a) h ZL<|br Q3 cb) (wg<|a.c 36)<|qx _) J J J λa a a a=>rfl
inductive va K A T(f:bX->js->Nat->List Int)(vs:Ju) H Q:Prop|mk S t s wh i x k(a:vs=[.ref t,.ref wh])(b:qS T H)(c:JO)(d:J6)(e:H wh=Y (.lst [.int ((i:JD):Int),.int ((k:JD):Int)]))(g:Qk[i]?=Y x)(h:Wy)(j:iD H (f s x k) Q)
def abu(a:J6):cF s k<=1000000000000:=by
 delta cF lY;cases b:(s.events.filter λx=>Ua==k&&x.10==(aS s k).10).getLast? with
 |none=>show eX _
 |some z=>
  let:=aeK b;show (a.ev z (kR.1 this).1).2.1
def vZ a b:decide (L2.V.int a=L2.V.int b)=decide (a=b):=Jc
def anI(w:Jn)(B:u_ g)(F:xh g "answer_over" qI T.o):bI g 9 "answer_over" ["told","wholes"] (va Jj A T qV):=by
 show bI.M7 F M8 anF (anH w B) λvs H Q X h=>?_
 let(S,t,s,wh,i,x,k,rfl,y,l,f,j,m,n,b):=h;let(C,ji,iE):=f.pc x<|bM m;let lk:=WA;let ab:=f.dr;delta qV at b;show(aq.of j,J,aq.of j,J,S,t,s,i,x,k,J,l,f,m,λr v p q H2 hr a N=>?_);let((dx,px,D,_),_,u):=id N;let(dv,al,ac,E):=id u;show(D,E.top,q,v,p,_,_,_,J,u,Ja,Jg)
 .rw[ak h]at b;show λz d=>b z _ (a.trans WB) (a.free d) aB
 rw[aj h]at b;show(aq.of<|a _ _ j,J,S,t,s,k,J,l.to a,n,Y8,λc=>decide<|gx s x k c=2,.ref r,J,abu f,(_,(y.to a).o),J,λc L e c0 c1=>?_,λL e=>?_)
 .let((ae,af,P,_),_,_):=id<|N.to e;show(P,S,q,r,t,v,p,s,x,k,c,J,N.to e,f,C,iE,n,?_,λH4 R=>?_)
  .haveI:c.5<=1000000000000:=by lia
   show eO this Je
  show(?_,R);rw[vZ];rfl
 show aT J4 λh=>?_
 .rw[ak WI]at b;show λz d=>b z _ ((a.trans e).trans WB) ((a.trans e).free d) aB
 rw[aj λz=>h<|cn z]at b;show λz d=>b z _ ((a.trans e).trans WB) ((a.trans e).free d) aB
abbrev abv:List Str:=["told","wholes","readings","least","end"]
def F_:fe abv ["told","wholes"] (bY qJ):=ik<|by rfl
def anJ:gu "answer_living" "answer_living" qJ ["told","wholes"]:=λa a a a a a=>mi λa a=>by kernel_rfl
abbrev anK(g:G)(A:Ad) P:=(ay (aP (fJ (F8 Jj A)<|U Ji<|U Qo YB) QQ) (ay (a_ (tB<|c5 Z3 "contradicts" 1 YH (aD Yv Jv "view") aa) ZH ba)
 (ay (aP (aN 2 (BQ Jj A)<|U Ji YB) Zx) (ay (aP (M3 P (sY qJ 3) MG 2 (ah iS (c5 Yv "life_at" 2 (F9 Jj A) Jl ZZ) Jf) JC) UN)
 (aH<|rZ (aY<|ah dR Qi JC) Zh<|bx<|U Jh<|U (ah Q4 Qi Jh) aa)))))
def anL(a:Jn)(B:u_ g) f(bu:aO)(d:fA)(outer:List Env)(s:bc)(H:Hp)(E:XK)(e:∃c,bu=.ref c/\vH Wn c P)(b:cQ 8<|d.deeper<|l9 "answer_living" (bY qJ) Jd f bu):
  iP (cx g abv "answer_living" (bY qJ) f bu d outer s H E) (iY qJ) (anK g A P):=by
 show eQ (ij 2 F_.nd<|D8 (M4 a) Zn<|br Q3<|br (gK jx ZL e_ λa a=>rfl)<|br (gK jx ZL e_ λa a=>rfl) cb)<|eQ Yk<|eQ (ij 3 F_.nd<|nh (Fi a) Zn<|br Q3<|br (gK jx ZL e_ λa a=>rfl) cb)<|eQ (ij 4 F_.nd ?_)<|fB<|iQ<|DH (r8 uu (pv 4) YX<|qx _) (jY<|br e_ cb)<|jY<|br e_<|br (iz yf (pv 4) e_) cb;show abn a (k:=5) (x:="reading") (y:="readings") (cr:=UZ) 2 Zn (e,B,J) J J J YX abt (λf c cr i j l m h=>AK DO (Kp a.qL.cl (M6 a) h ZL<|br Q3 cb) (wg<|a.c 34)<|qx _) J J J λa a a a=>rfl
def anM(w:Jn)(B:u_ g)(F:xh g "answer_living" qJ T.l):bI g 9 "answer_living" ["told","wholes"] (va Jj A T qW):=by
 show bI.M7 F F_ anJ (anL w B) λvs H Q X h=>?_
 let(S,t,s,wh,i,x,k,rfl,y,m,f,j,n,o,b):=h;let(C,ji,iE):=f.pc x<|bM n;let lk:(cM s<|-1).9=s.events.9:=WA;let ab:=f.dr;delta qW at b;show(aq.of j,J,aq.of j,J,S,t,s,i,x,k,J,m,f,n,λr v p q H2 hr a N=>?_);let((dx,px,D,_),_,u):=id N;let(dv,al,ac,E):=id u;show(D,E.top,q,v,p,_,_,_,J,u,Ja,Jg)
 .rw[ak h]at b;show λz d=>b z _ (a.trans WB) (a.free d) aB
 rw[aj h]at b;show(aq.of<|a _ _ j,J,S,t,s,k,J,m.to a,o,Y8,λc=>decide Yt,.ref r,J,abu f,(_,(y.to a).l),J,λc L e c0 c1=>?_,λL e=>?_)
 .let((ae,af,P,_),_,_):=id<|N.to e;show(P,S,q,r,t,v,p,s,x,k,c,J,N.to e,f,C,iE,o,?_,λH4 R=>?_)
  .haveI:c.5<=1000000000000:=by lia
   show eO this Je
  show(?_,R);rw[vZ];change _=L2.V.bl (decide<|¬(gx s x k c=0))
  rw[decide_not];rfl
 show aT J4 λh=>?_
 .rw[vZ]at h;rw[ak WI]at b;show λz d=>b z _ ((a.trans e).trans WB) ((a.trans e).free d) aB
 rw[vZ]at h;rw[aj λz=>h<|cn z]at b;show λz d=>b z _ ((a.trans e).trans WB) ((a.trans e).free d) aB
section
open HD (hK pw)
def G0(P:f_):PySem.W.BT:=(HD.G P 210).T
def pV(P:f_)(a:JD):Obj:=((G0 P).get a).getD default
def kA:List Nat:=[3,4,15,16,17,18,19,20,21,22,23,24,25,26,27,28,29,30,31,32,33,34,35,36,37,38,39,40,41,42,43,44,45,58,59,61,62,72,73,79,80,86,87,93,94,98,99,105,106,112,113,119,120,126,127,133,134,140,141,147,148,154,155,161,162,168,169,175,176,182,183,189,190,196,197,198,199,200,201,202,203,204,205,218,219,221,222,239,240,242,243,253,254,260,261,267,268,274,275,281,282,295,296,298,299,316,317,319,320,337,338,340,341,358,359,361,362,379,380,382,383,400,401,403,404,414,415,421,422,428,429,435,436,442,443,449,450,456,457,463,464,470,471,477,478,484,485,491,492,498,499,505,506,512,513,519,520,521,522,528,529,530,536,537,543,544,550,551,557,558,564,565,571,572,578,579,583,584,590,591,602,603,609,610,616,617,619,620,628,629,635,636,642,643,649,650,656,657,663,664,670,671,677,678,684,685,691,692,698,699,705,706,710,711,724,725,731,732,738,739,745,746,748,749,759,760,766,767,773,774,780,781,785,786,792,793,799,800,806,807,813,814,820,821,827,828,834,835,841,842,848,849,853,854,855,861,862,868,869,875,876,880,881,887,888,894,895,901,902,908,909,915,916,920,921,925,926,932,933,939,940,946,947,953,954,960,961,967,968,972,973,979,980,986,987,993,994,995,1001,1002,1008,1009,1022,1023,1029,1030,1036,1037,1039,1040,1050,1051,1057,1058,1064,1065,1071,1072,1073,1079,1080,1093,1094,1100,1101,1103,1104,1114,1115,1121,1122,1128,1129,1135,1136,1142,1143,1149,1150,1156,1157,1163,1164,1170,1171,1177,1178,1179,1185,1186,1199,1200,1202,1203,1220,1221,1223,1224,1234,1235,1241,1242,1248,1249,1255,1256,1262,1263,1264,1270,1271,1277,1278]
def KK(P:f_):bH:=kA.map λa=>(a,(pV P a))
theorem M9{a:ax}{o:Obj}:∀{K:bH},K.lookup a=Y o->(a,(o))∈K
 |[],h=>by cases h
 |(b,u)::K,h=>by
  rw[p9]at h;split at h
  .rename_i e;cases h;rw[eq_of_beq e];show .head _
  show .tail _<|M9 h
def anN(P:f_):((KK P).map λp=>(G0 P).get p.1)=(KK P).map λp=>Y p.2:=Jo
def anO(P:f_):((KK P).map λp=>atR p.2)=(KK P).map λp=>Y p.2:=Jo
def anP(P:f_):((KK P).map λp=>Nat.blt p.1 1279)=(KK P).map λa=>I:=Jo
def anQ(P:f_):(KK P).In (hK P):=λa o e=>by let m:(a,(o))∈KK P:=M9 e;let c:=tV.1 (anN P) _ m;let d:=tV.1 (anO P) _ m;let f:=tV.1 (anP P) _ m;let b:=atm (life:={}) (Nat.blt_eq.mp f) c;rw[show atR o=Y o from d]at b;show b
end
section
open HD (hK pw)
def refOf(v:Option Z2):ax:=match v with
 |some (Y (.ref a))=>a
 |b=>0
def intOf(v:Option Z2):Option Int:=match v with
 |some (Y (.int i a))=>Y i
 |a=>O
def M_(K:bH)(p:Str×eP):Option Z2×Option Obj×Data×Bool×Bool:=
 (jQ K eY p.1,K.lookup<|refOf<|jQ K eY p.1,((K.lookup<|refOf<|jQ K eY p.1).getD default).data,C9 K (fdOf<|(K.lookup<|refOf<|jQ K eY p.1).getD default).code p.1,(mO K<|.ref<|refOf<|jQ K eY p.1))
def Na(o:Obj)(a:ax)(p:Str×eP):Option Z2×Option Obj×Data×Bool×Bool:=
 (Y<|Y Jy,Y o,.func<|rN p.1 p.1 (qB p.2) (iY p.2) (bY p.2) .none (fdOf o).kwdefaults (fdOf o).doc (fdOf o).pyModule (fdOf o).annotations (fdOf o).code (fdOf o).closureTuple,I,(I))
def int_at{K:bH}{h:c_}{mg:Str->Option aO}(X:K.In h)(G:h.Ns eY mg){p:Str×Int}(e:intOf (jQ K eY p.1)=Y p.2):∃t,mg p.1=Y (.int p.2 t):=by
 cases z:jQ K eY p.1 with
 |none=>rw[z]at e;cases e
 |some v=>cases v with
  |none=>rw[z]at e;cases e
  |some v=>
   rw[z]at e;cases v<;>first|(cases e;done)|skip
   cases e;show(_,Hv X G z)
def anR{g:G}{h:c_}(X:g.K.In h)(G:h.Ns eY g.mg){p:Str×eP}(e:M_ Jj p=Na ((g.K.lookup<|refOf<|jQ Jj eY p.1).getD default) (refOf<|jQ Jj eY p.1) p):yn g p.1 p.2:=by delta M_ Na at e;erw[Hw]at e;let(a,b,c,d,f):=e;show(_,Hv X G a,Vk b c d f)
def anS(P:f_):Ey.map (jQ (KK P) eY)=Ey.map λa=>Y O:=Jo
def anT(P:f_):(Bh.map λp=>intOf<|jQ (KK P) eY p.1)=Bh.map λp=>Y p.2:=Jo
def nA0:List (Str×Nat):=[("refuse_node",(443)),("refuse_at",(450)),("refuse_cut",(457)),("refuse_word",(464)),("refuse_moment",(471)),("refuse_parcel",(478)),("take_node",(485)),("take_at",(492)),("take_cut",(499)),("take_word_facts",(506)),("take_moment",(513)),("take_parcel",(520)),("answer_past",(786)),("answer_needless",(807)),("answer_could",(835)),("answer_learned",(849)),("answer_told",(854)),("answer_bounds",(933)),("answer_chain",(940)),("answer_shows",(954)),("answer_order",(961)),("answer_clash",(968)),("answer_liars",(987)),("answer_life",(994)),("answer_age",(1058)),("answer_over",(1065)),("answer_living",(1072)),("answer_world",(1143)),("answer_pinned",(1157)),("answer_clock",(1178))]
def nA1:List (Str×Nat):=[("answer_clear",(1235)),("answer_tell",(1242)),("answer_read",(1249)),("answer_look",(1256)),("answer_text",(1263)),("read_name",(134)),("read_rate",(190)),("read_number",(155)),("read_event",(169)),("read_most",(176)),("read_life",(162)),("Call",(62)),("Fact",(222)),("FactsText",(243)),("Node",(299)),("Event",(320)),("Word",(341)),("Moment",(362)),("Parcel",(383)),("Told",(404)),("Steps",(620)),("View",(749)),("NextReadings",(1040)),("World",(1104)),("Lives",(1203)),("Telling",(1224)),("take_word_grammar",(261)),("sets_of_nodes",(973)),("__builtins__",(4))]
def nT:List (Str×Nat):=nA0++nA1
def anU(P:f_):(nT.map λp=>jQ (KK P) eY p.1)=nT.map λp=>Y (Y<|.ref p.2):=Jo
theorem abw{x:Str}{a:JD}:∀{l:List (Str×Nat)},l.lookup x=Y a->(x,(a))∈l
 |(y,b)::l,h=>by
  rw[p9]at h;split at h
  .rename_i e;cases h;rw[eq_of_beq e];show .head _
  show .tail _<|abw h
def nN(P:f_){x:Str}{a:ax}(h:autoParam (nT.lookup x=Y a) q'):jQ (KK P) eY x=Y (Y Jy):=by let z:=tV.1 (anU P) (x,(a))<|abw h;show z
def mN{w:bS}{h:c_}{mg:Str->Option aO}(X:(KK JA).In h)(G:h.Ns eY mg){x:Str}{a:ax}(e:autoParam (nT.lookup x=Y a) q'):mg x=Y Jy:=Hv X G<|nN JA e
def Nb(v:aO):Option V:=match v with
 |.str s b=>Y<|.str s
 |.int i b=>Y WD
 |.ref a=>Y Jy
 |b=>O
def abx(o:Obj):Option Ju:=match o.data with
 |.seq a b=>a.toList.mapM Nb
 |b=>O
theorem Nc:∀{l:List aO}{xs:Ju},l.mapM Nb=Y xs->bP xs l
 |[],a,e=>by cases e;show .nil
 |v::l,a,e=>by
  rw[List.mapM_cons]at e;cases z:l.mapM Nb with|none=>cases v<;>rw[z]at e<;>cases e|some r=>cases v<;>rw[z]at e<;>first|(cases e;done)|(cases e;show .cons Qq<|Nc z)|(cases e;show .cons J<|Nc z)
def Ga(K:bH)(a:ax):Option (aO×Option Ju):=(K.lookup a).map λo=>(o.cls,(abx o))
def aby{K:bH}{a:ax}{xs:Ju}(h:Ga K a=Y (.type "tuple",(Y xs)))(z:xs.9<=cz):TupAt K a xs:=by
 delta Ga at h;cases l:K.lookup a with
 |none=>rw[l]at h;cases h
 |some o=>
  rw[l]at h;erw[zW,asv,Hw]at h;let(c,b):=h;delta abx at b;induction d:o.data<;>rw[d]at b<;>first|(cases b;done)|skip
  let v:=Nc b;show ajf l c d ?_ v;let:=v.9;simp at this;rw[<-this];show z
def tU{P:f_}{a:ax}{xs:Ju}(h:autoParam (Ga (KK P) a=Y (.type "tuple",(Y xs))) q')(z:autoParam (xs.9<=cz) b'):TupAt (KK P) a xs:=aby h z
abbrev FG:=Option Obj×Data×Bool×Bool
def Nd(K:bH)(a:ax)(b:Str):FG:=(K.lookup a,((K.lookup a).getD default).data,C9 K (fdOf<|(K.lookup a).getD default).code b,(mO K Jy))
def Nf(o:Obj)(x a:Str)(st:eP):FG:=(Y o,.func<|rN x a (qB st) (iY st) ZN .none (fdOf o).kwdefaults (fdOf o).doc (fdOf o).pyModule (fdOf o).annotations (fdOf o).code (fdOf o).closureTuple,I,(I))
def fE{P:f_}{x b:Str}{st:eP}{a:ax}(e:autoParam (Nd (KK P) a b=Nf (((KK P).lookup a).getD default) x b st) q'):uC (KK P) x b st a:=by delta Nd Nf at e;erw[Hw]at e;let(c,d,f,g):=e;show Vk c d f g
def mE{w:bS}{mg:Str->Option aO}{base:c_}{C a:ax}{m b:Str}{st:eP}(h:(mP (KK JA) Zl m,(Dk (KK JA) Jy))=(Y<|Y Jy,(I)))(e:uC (KK JA) m b st a):MethAt Ut C m b st:=(a,(qe h).1,(qe h).2,e)
def abz(K:bH)(C:ax)(a:Zg):Bool×Bool×Bool×Option Z2×Bool×Bool×List (Option Z2):=(He K C Rh,O7 K C,aeN K C,mP K Zl "__setattr__",Pg K C,mO K Zl,(a.map<|mP K Zl))
def kC{w:bS}{h base:c_}{mg:Str->Option aO}(X:(KK JA).In h)(G:h.Ns eY mg){x b:Str}{C:ax}{st:eP}{c:Zg}(a:ax)(n:autoParam (nT.lookup x=Y C) q')(e:autoParam (abz (KK JA) C c=(I,I,I,Y<|Y<|.builtin "object.__setattr__",I,I,(c.map λp=>Y O))) q')
  (f:autoParam ((mP (KK JA) Zl "__init__",(Dk (KK JA) Jy))=(Y<|Y Jy,(I))) q') (i:autoParam (Nd (KK JA) a b=Nf (((KK JA).lookup a).getD default) "__init__" b st) q'):i7 Ut x C b st c:=by
 delta abz at e;erw[Hw]at e;let(d,g,j,k,l,m,o):=e;show⟨(mN X G n,(d,g,j,k),l,m,mE f<|fE i,ajh o Jc)⟩
def anV(w:bS):TabAt pw w (KK JA) 39 ([((aZ "g"),((40:ax))),((aZ "e"),((41:ax))),((aZ "f"),((42:ax))),((aZ "p"),((43:ax))),((aZ "i"),((44:ax))),((aZ "c"),((45:ax)))].map λx=>(x.1,(V.ref x.2))):=aji (o:=pV JA 39) (l:=[((aZ "g"),266,((40:ax))),((aZ "e"),270,((41:ax))),((aZ "f"),273,((42:ax))),((aZ "p"),276,((43:ax))),((aZ "i"),279,((44:ax))),((aZ "c"),282,((45:ax)))]) (n:=6) Jo Jo (by kernel_rfl,Jo,Jo) Je
def abA(K:bH)(i:JD):Option (aO×Option Ju):=Ga K<|15+i
def anW{K:bH}{i:JD}{p:Str×Str}(h:i∈aQ 23->abA K i=Y (.type "tuple",(Bg[i]?.map λp=>[.str p.1,.str p.2])))(e:Bg[i]?=Y p):∃a,((aQ 23).map (15+·))[i]?=Y a/\TupAt K a [.str p.1,.str p.2]:=by let hi:i<23:=(cU.1 e).1;let h:=h<|cC.2 hi;rw[e]at h;show(15+i,by rw[c8,zO hi];rfl,aby h (show 2<=cz by decide))
def anY(P:f_):(aQ 23).map (abA<|KK P)=(aQ 23).map λi=>Y (.type "tuple",(Bg[i]?.map λp=>[.str p.1,.str p.2])):=Jo
def AA:Ad:=Ug
def anZ(P:f_):((Bi AA).map λp=>jQ (KK P) eY p.1)=(Bi AA).map λp=>Y (Y<|.ref p.2):=Jo
def an0(P:f_):KG.map (M_<|KK P)=KG.map λp=>Na (((KK P).lookup<|refOf<|jQ (KK P) eY p.1).getD default) (refOf<|jQ (KK P) eY p.1) p:=Jo
def an1{w:bS}{h base:c_}{mg:Str->Option aO}(X:(KK JA).In h)(G:h.Ns eY mg):aL Ut AA where
 blt:=λx b=>ajg X G<|tV.1 (anS JA) x b
 int:=λx b=>int_at X G<|tV.1 (anT JA) x b
 ref:=λx b=>Hv X G<|tV.1 (anZ JA) x b
 fns:=λx b=>anR X G<|tV.1 (an0 JA) x b
 qK:=tU
 TU:=((aQ 23).map (15+·),tU,λi p e=>anW (tV.1 (anY JA) i) e)
 TV:=Zc
 KH:=tU
 TX:=(443,450,457,464,471,478,tU,Qn,Qn,Qn,Qn,Qn,Qn)
 TY:=(485,492,499,506,513,520,tU,Qn,Qn,Qn,Qn,Qn,Qn)
 TZ:=(786,807,835,849,854,tU,Qn,Qn,Qn,Qn,Qn)
 T7:=(933,940,954,961,968,987,994,tU,Qn,Qn,Qn,Qn,Qn,Qn,Qn)
 T8:=(1058,1065,1072,tU,Qn,Qn,Qn)
 T9:=(1143,1157,1178,tU,Qn,Qn,Qn)
 T_:=(1235,1242,1249,1256,1263,tU,Qn,Qn,Qn,Qn,Qn)
 U_:=Q9
 KI:=kC X G 59
 KJ:=kC X G 219
 KL:=kC X G 240
 Bj:=kC X G 296
 Bk:=kC X G 317
 Bl:=kC X G 338
 KN:=kC X G 359
 Bm:=kC X G 380
 oq:=kC X G 401
 iC:=kC X G 603
 jf:=kC X G 725
 qL:=kC X G 1023
 Bn:=kC X G 1094
 KO:=kC X G 1200
 KP:=kC X G 1221
 Va:=(261,Qn,fE)
 Vb:=(506,Qn,fE)
 Vc:=mE (a:=610) Jo fE
 Vd:=mE (a:=617) Jo fE
 Ve:=mE (a:=732) Jo fE
 Vf:=mE (a:=739) Jo fE
 Vg:=mE (a:=746) Jo fE
 Vh:=mE (a:=1030) Jo fE
 Vi:=mE (a:=1037) Jo fE
 Vj:=mE (a:=1101) Jo fE
def an2(P:f_):jQ (KK P) eY (aZ "__builtins__")=Y (Y<|.ref 4):=Jo
def an3{w:bS}{h base:c_}{mg:Str->Option aO}(X:(KK JA).In h)(G:h.Ns eY mg)(a:(KK JA).In base):u_ Ut:=(4,PySem.W.boot_o_4 JA,Hv X G<|an2 JA,Je,Je,a _ _ Jo,Jo,Jo,Jo)
def abB{P:f_}{h:c_}(X:(KK P).In h):vH h 972 970:=(pV P 972,KR<|pV P 972,aZ "/claim/cut.py",1671,3,0,I,181,0,X _ _ Jo,Jo,Jo,Jo,Jo,Jo,Jo,Jo,Jo,Je)
def an4{w:bS}{h base:c_}{mg:Str->Option aO}(X:(KK JA).In h)(G:h.Ns eY mg)(a:(KK JA).In base):xh Ut (aZ "sets_of_nodes") pF 970:=(973,_,972,Qn,KQ (o:=pV JA 973) Jo Jo Jo Jo,Jo,abB a)
def abC(P:f_):(G0 P).get 970=Y {cls:=.none,data:=.fields #[]}/\(KK P).lookup 970=O:=(by kernel_rfl,Jo)
def abD{P:f_}{h:c_}(X:(KK P).In h):vH h 1064 1060:=(pV P 1064,KR<|pV P 1064,aZ "/claim/cut.py",1813,3,0,I,181,0,X _ _ Jo,Jo,Jo,Jo,Jo,Jo,Jo,Jo,Jo,Je)
def an5{w:bS}{h base:c_}{mg:Str->Option aO}(X:(KK JA).In h)(G:h.Ns eY mg)(a:(KK JA).In base):xh Ut (aZ "answer_over") qI 1060:=(1065,_,1064,Qn,KQ (o:=pV JA 1065) Jo Jo Jo Jo,Jo,abD a)
def abE(P:f_):(G0 P).get 1060=Y {cls:=.none,data:=.fields #[]}/\(KK P).lookup 1060=O:=(by kernel_rfl,Jo)
def abF{P:f_}{h:c_}(X:(KK P).In h):vH h 1071 1067:=(pV P 1071,KR<|pV P 1071,aZ "/claim/cut.py",1824,3,0,I,181,0,X _ _ Jo,Jo,Jo,Jo,Jo,Jo,Jo,Jo,Jo,Je)
def an6{w:bS}{h base:c_}{mg:Str->Option aO}(X:(KK JA).In h)(G:h.Ns eY mg)(a:(KK JA).In base):xh Ut (aZ "answer_living") qJ 1067:=(1072,_,1071,Qn,KQ (o:=pV JA 1072) Jo Jo Jo Jo,Jo,abF a)
def abG(P:f_):(G0 P).get 1067=Y {cls:=.none,data:=.fields #[]}/\(KK P).lookup 1067=O:=(by kernel_rfl,Jo)
def an7(P:f_):((KK P).map λp=>p.2.cls==.type "list")=(KK P).map λa=>au:=Jo
end
section
open HT (lexLt)
section
open PySem.SeqAt
open PySem.MeetsSeq PySem.MeetsSeq2 PySem.MeetsSeq3
structure abH(s:bc)(l b:ax)(a ws:Wz)(n c:JD)(d e:YT)(f g:Array Z2):Prop where
 one:s.heap.get? l=Y {cls:=J2,dict:=d,data:=.seq Wc n,slots:=f}
 two:s.heap.get? b=Y {cls:=J2,dict:=e,data:=.seq ws.toArray c,slots:=g}
theorem Gb:∀{c ns},e9 c ns->∀i,(c[i]?=O/\ns.drop i=[])\/∃z t,c[i]?=Y (.int z t)/\ns.drop i=z::ns.drop JK
 |_,_,.nil,i=>.inl (by simp,Jc)
 |_,_,.cons z t h,0=>.inr (z,t,J,J)
 |_,_,.cons z t h,i+1=>by
  rcases Gb h i with⟨a,b⟩|⟨y,u,a,b⟩
  .show .inl (by simpa using a,by exists b)
  show .inr (y,u,by simpa using a,by exists b)
def an8 l b f j n E(F H:YT)(L N:Array Z2)(hi:e9 f ns)(y:e9 j ms) k:
  ∀i:Nat,i<=ns.9->ns.9-i=k->As (uf.«list.__eq__.loop» ([.ref l,.ref b,ug i,ug 0],[]))
   (λK R s=>abH s l b f j n E F H L N/\R (.ok<|.ret<|.bool<|lexLt (ns.drop i)<|ms.drop i) s):=by
 let z1:=hi.9;let z2:=y.9;induction k with
 |zero=>
  intro i P Q prog w A R s (T,h);let(z,g,d,B,os):=s;let(m,o):=T;wp_walk using i_ m,i_ o;haveI v:f.toArray[((i:JD):Int).6]?=O:=by simp;omega
  rw[v];wp_walk using i_ m,i_ o;haveI p:ns.drop i=[]:=by simp;omega
  rw[p]at h;change R (.ok<|.ret<|.bool<|decide<|f.toArray.12<j.toArray.12) _
  rcases Gb y i with⟨_,e⟩|⟨c,u,_,e⟩
  .rw[e]at h;haveI r:decide (f.toArray.12<j.toArray.12)=au:=by
    let:=e8 t_ e;simp at this;show iK (by simp;omega)
   rw[r];show h
  rw[e]at h;haveI r:decide (f.toArray.12<j.toArray.12)=I:=by
   let:=e8 t_ e;simp at this;show cn (by simp;omega)
  rw[r];show h
 |succ k S=>
  intro i P Q prog w A R s (T,h);let(z,g,d,B,os):=s;let(m,o):=T;wp_walk using i_ m,i_ o;rcases Gb hi i with⟨_,e⟩|⟨a,t,X,e⟩
  .let:=e8 t_ e;simp at this;omega
  haveI v:f.toArray[((i:JD):Int).6]?=Y (.int a t):=by exists X
  rw[v];rcases Gb y i with⟨C,x⟩|⟨c,u,C,x⟩
  .haveI p:j.toArray[((i:JD):Int).6]?=O:=by exists C
   rw[p];wp_walk using i_ m,i_ o;rw[e,x]at h;change R (.ok<|.ret<|.bool<|decide<|f.toArray.12<j.toArray.12) _
   haveI r:decide (f.toArray.12<j.toArray.12)=au:=by
    let:=e8 t_ e;let:=e8 t_ x;simp at this;show iK (by simp;omega)
   rw[r];show h
  haveI p:j.toArray[((i:JD):Int).6]?=Y (.int c u):=by exists C
  rw[p];rw[e,x,HT.IC]at h;let(ee,he,D):=HT.DW A.in1 (z,g,d,B,os) a t c u;show bg<|he prog w _ _ ?_;cases ee with
  |true=>
   rw[ak<|D.1 J]at h;wp_walk;rw[show ((i:JH)+1)=((i+1:Nat):Int) by omega];show(avt P9 _,avb avw (by
    rw[asK P9 _];show S JK JE JE prog w A R _ ((m,o),h)))
  |false=>
   rw[aj λq=>absurd (D.2 q) gZ]at h;let lt:=HT.Sr A.in1 (z,g,d,B,os) a t c u prog w;wp_walk using i_ m,i_ o;rw[v,p];wp_walk using lt;show h
def an9 l b a c(n d:JD)(e f:YT)(g i:Array Z2)(hi:e9 a ns)(m:e9 c ms):As (uf.«list.__lt__» ([.ref l,.ref b],[]))
   (λp R s=>abH s l b a c n d e f g i/\R (.ok<|.ret Wl) s):=by
 intro prog w A R s (T,h);let(j,k):=T;let o:=AutoSeq1.sub_list_list;wp_walk using i_ j,i_ k;show(avt P9 _,avb avw (by
  rw[asK P9 _];show an8 l b a c n d e f g i hi m _ 0 (eX _) J prog w A R _ ((j,k),h)))
end
def aoa(f:s.heap.IsList l Wc)(g:s.heap.IsList b YU)(hi:e9 a ns)(i:e9 c ms)
  (j:YS<ki) (h:Q Wl s):bj JB A (gJ .Lt (.ref l) WO) Q E s:=by
 let((p,q,r,t),d,k,u,m):=id f;let((v,x,y,B),e,n,C,o):=id g;ext;subst k m n o;show O0 (op:=.Lt) (_,d,J) (_,e,J) PySem.F.slot_list_lt PySem.F.entry_list_lt (PySem.F.args_list_lt_2 _ _) (an9 l b a c _ _ _ _ _ _ hi i) ((d,e),show afK (lexLt ns ms)≠asU/\Q Wl s from (λz=>(by cases z),h)) j
end
section
open HT (lexLt)
section
open PySem.SeqAt
theorem abI:∀{a ns ms},e9 a ns->e9 a ms->ns=ms|_,_,_,.nil,.nil=>rfl|_,_,_,.cons z t h,.cons _ _ k=>by rw[abI h k]
def ints_get(h:e9 a ns)(b:j<a.9):∃t,a[j]=.int (ns.getD j 0) t:=by
 induction h generalizing j with
 |nil=>cases b
 |cons z t h c=>
  cases j<;>ext
def aob{ms:Jw}(h:ns.9=ms.9):((aQ ns.9).all λj=>ns.getD j 0==ms.getD j 0)=decide (ns=ms):=by
 cases e:ns=ms
 .subst e;simp
 rw[iK e];cases q:(aQ ns.9).all λj=>ns.getD j 0==ms.getD j 0 with
 |false=>rfl
 |true=>
  exfalso;apply e;show Hi h λj a b=>?_
  ext
def aoc(d:s.heap.IsList l YU)(f:s.heap.IsList b g.toArray)(hi:e9 c ns)(h:e9 g ms)(k:YS<ki):Rj A s (.ref l) WO (decide<|ns=ms):=by
 let w:=hi.9;let x:=h.9;cases e:l=b
 .subst e;let(y,o,_,B,i):=id d;let(C,m,_,D,a):=id f;rw[o]at m;cases m;rw[i]at a;injection a with a _
  haveI a:c=g:=by exists a
  subst a;rw[abI hi h,cn J];show aub _
 show EqAt.of_refs e ?_;cases n:ns.9=ms.9
 .let:=RcAt.lists d f (by ext) k λj p q=>by
   let(t,i):=ints_get hi (by exists p);let(u,a):=ints_get h (by exists q);haveI r:YU[j]=.int (ns.getD j 0) t:=by exists i
   haveI v:g.toArray[j]=.int (ms.getD j 0) u:=by exists a
   rw[r,v];show O8 _ _ _ _
  rwa [show c.toArray.12=ns.9 by simp;omega,aob n]at this
 rw[iK λz=>n<|e8 t_ z];show RcAt.lists_lengths d f (by simp;lia) k
end
def Gd(a b:Int×List Int):Bool:=if a.1=b.1 then (if a.2=b.2 then au else lexLt a.2 b.2) else decide (a.1<b.1)
structure vb(s:bc)(p:ax)(k:Int×List Int):Prop where
 ex:∃(o:Obj) (t:JD) (l:ax) (m:JD) (a:Wz),s.heap.get? p=Y o/\o.cls=.type "tuple"/\o.data=.seq #[.int k.1 t,.ref l] m/\s.heap.IsList l Wc/\e9 a k.2
def aod(k:vb s p a)(l:vb s q b)(d:YS<ki)(h:Q (Gd a b) s):bj JB A (keyLt' (HQ I) JS Wm) Q E s:=by
 let(t,m,u,v,x,g1,y,n,f,g):=k.ex;let(z,o,B,C,D,g2,F,r,i,j):=l.ex;apply PySem.W.kat_lt g1 n g2 r;show as8<|O8 a.1 m b.1 o prog w _ _<|atv (λe=>?_) λe=>?_
 .let e:a.1=b.1:=by exists e
  delta Gd at h;rw[ak e]at h;show atl<|as8<|aoc f i g j d prog w _ _<|atv (λc=>?_) λc=>?_
  .rw[ak<|cV c]at h;show atl<|PySem.W.kat_nil h
  rw[aj<|ava c]at h;show PySem.W.kat_no<|PySem.W.kat_one _ _<|aoa f i g j d h
 let e:¬a.1=b.1:=by exists e
 delta Gd at h;rw[aj e]at h;show PySem.W.kat_lt_int h
end
structure pW where
 p:Array Nat
 w:Array (Nat×Nat×Nat)
 g:Nat
def mz a b(x:pW):=SortSt.mk' a (x.p.map<|fH b) x.w x.g O
section
variable (prog:gz) (w:bS) (A:fA) (s:bc) (kd:HM) (it:Array uh)
def Rn m x(a:b) y:=∀(E:aO->bc->Prop) (Q:b->vP->bc->Prop),Q a (mz kd it y) s->at9 JB A E m Q (mz kd it x) s
end
section
variable {prog:gz} {w:bS} {A:fA} {s:bc} {kd:HM} {it:Array uh} {α β γ:Type} {x y z:pW}
theorem Rn.pure{a:α}:Rn prog w A s kd it (pure a) x a x:=λb b h=>aeO h
def Rn.bind{a:α}{b:β}(c:Rn prog w A s kd it m x a y)(d:Rn prog w A s kd it (f a) y b z):Rn prog w A s kd it (m >>=f) x b z:=λE Q h=>Hd<|c E _<|d E Q h
theorem Rn.get:Rn prog w A s kd it get x (mz kd it x) x:=λa a h=>as9 h
def Rn.mod(h:f (mz kd it x)=mz kd it y):Rn prog w A s kd it (modify f) x ⟨⟩ y:=λa a q=>PySem.W.kasC_modify<|by ext
theorem Rn.rule:Rn prog w A s kd it (liftM (rule t):StateT vP Sem Unit) x () x:=λa a h=>as3<|HH h
def Rn.elem{p:WW}(h:p[i]?=Y j):Rn prog w A s kd it (elem' (p.map<|fH it) i) x (fH it j) x:=by rw[elem'_eq,Array.getElem?_map,h];show Rn.pure
def nA(prog:gz)(w:bS)(A:fA)(s:bc)(kd:HM)(it:Array uh)(f:Nat->Nat->Option Bool):Prop:=∀i j b,f i j=Y b->∀(Q:Bool->bc->Prop),Q b s->bj JB A (keyLt' kd (fH it i).1 (fH it j).1) Q UH s
def Rn.lt(C:QY)(h:f i j=Y b):Rn prog w A s kd it (lt' (fH it i)<|fH it j) x (Y b) x:=by
 show λE Q q=>Hd<|as9<|Hd<|as3<|P8<|kX (C i j b h (λc a=>c=b/\a=s) (J,J)) (λc a e=>?_) λd d z=>z.elim
 let(rfl,rfl):=e;show aeO q
def B8{a:Type}(step:Nat->a->pW->Option (ForInStep a×pW)):List Nat->a->pW->Option (a×pW)
 |[],b,x=>Y (b,(x))
 |i::l,b,x=>match step i b x with
  |none=>O
  |some (.done c,y)=>Y (c,(y))
  |some (.yield c,y)=>B8 step l c y
def xj{a:Type}(r:a->β):ForInStep a->ForInStep β|.done c=>.done (r c)|.yield c=>.yield<|r c
theorem Rn.list{r}{step}{f:Nat->β->StateT vP Sem (ForInStep β)}(h:∀i b x c y,step i b x=Y (c,(y))->Rn prog w A s kd it (f i<|r b) x (xj r c) y):∀l b x (c:g) y,B8 step l b x=Y (c,(y))->Rn prog w A s kd it (forIn l (r b) f) x (r c) y
 |[],b,x,c,y,e=>by
  cases e;show λE Q q=>PySem.W.kasC_nil q
 |i::l,b,x,c,y,e=>by
  delta B8 at e;cases a:step i b x with
  |none=>rw[a]at e;cases e
  |some v=>
   let(d,z):=v;rw[a]at e;let st:=h i b x d z a;intro E Q q;cases d with
   |done d=>
    simp only at e;cases e;rw[Hn];show Hd<|st E _<|aeO q
   |yield d=>
    rw[Hn];show Hd<|st E _<|Rn.list h l d z c y e E Q q
def Rn.range{step}{f:Nat->β->StateT vP Sem (ForInStep β)}{c:d}(h:∀i b x c y,step i b x=Y (c,(y))->Rn prog w A s kd it (f i<|r b) x (xj r c) y)(e:B8 step (au4 a<|n-a) b x=Y (c,(y))):Rn prog w A s kd it (forIn [a:n] (r b) f) x (r c) y:=λE Q q=>PySem.W.kasC_range<|Rn.list h _ b x c y e E Q q
end
section
variable {prog:gz} {w:bS} {A:fA} {s:bc} {kd:HM} {it:Array uh} {f:Nat->Nat->Option Bool} {α α' β β':Type} {x y:pW}
abbrev cI prog w A s kd it m x(g:α'->α):={o:Option (α'×pW) // ∀p,o=Y p->Rn prog w A s kd it m x (g p.1) p.2}
section
variable {m m':StateT vP Sem α} {k:α->StateT vP Sem β} {g:α'->α} {g':β'->β}
def cI.bind(S:Y2)(T:∀a y,cI prog w A s kd it (k<|g a) y g'):cI prog w A s kd it (m >>=k) x g':=
 (Af O (λp=>(T p.1 p.2).1) S.1,by
  let(o,h):=S
  cases o with|none=>intro _ e;cases e|some q=>show λp e=>Rn.bind (h q J)<|(T q.1 q.2).2 p e)
def cI.ite [d:Decidable c](S:Y2)(T:cI prog w A s kd it m' x g):cI prog w A s kd it (if c then m else m') x g:=
 (Decidable.rec (λa=>T.1) (λa=>S.1) d,by
  cases d with|isTrue h=>rw[ak h];show S.2|isFalse h=>rw[aj h];show T.2)
def cI.ret a{b}(h:autoParam (b=g a) a'):cI prog w A s kd it (pure b) x g:=(Y (a,(x)),λp e=>by cases e;rw[h];show Rn.pure)
def cI.no:cI prog w A s kd it m x g:=(O,nofun)
def cI.of(S:Y2)(h:m'=m):cI prog w A s kd it m' x g:=(S.1,h▸S.2)
def cI.Ng a y{m}(h:Rn prog w A s kd it m x (g a) y):cI prog w A s kd it m x g:=(Y (a,(y)),λp e=>by cases e;show h)
end
def cI.rule:cI prog w A s kd it (liftM (rule t):StateT vP Sem Unit) x id:=.Ng () x Rn.rule
def cI.tw{a:β'->β}(T:cI prog w A s kd it (k<|mz kd it x) x a):cI prog w A s kd it (get >>=k) x a:=(T.1,λp e=>Rn.bind Rn.get<|T.2 p e)
def cI.mod y{f}(h:f (mz kd it x)=mz kd it y):cI prog w A s kd it (modify f) x (id:Unit->PUnit):=.Ng () y<|Rn.mod h
def cI.elem{p:WW}{i}:cI prog w A s kd it (elem' (p.map<|fH it) i) x (fH it):=
 (Af O (λj=>Y (j,(x))) p[i]?,by
  cases h:p[i]? with|none=>intro _ e;cases e|some j=>intro p e;cases e;show Rn.elem h)
def cI.lt(C:QY){i j}:cI prog w A s kd it (lt' (fH it i)<|fH it j) x Y:=
 (Af O (λb=>Y (b,(x)))<|f i j,by
  cases h:f i j with|none=>intro _ e;cases e|some j=>intro p e;cases e;show Rn.lt C h)
def cI.range r(b:β'){d}{F:Nat->β->StateT vP Sem (ForInStep β)}{a n}(T:∀i b x,cI prog w A s kd it (F i<|r b) x<|xj r)(h:autoParam (d=r b) a'):cI prog w A s kd it (forIn [a:n] d F) x r:=
 (B8 (λi b x=>(T i b x).1) (au4 a<|n-a) b x,λp e=>by
  rw[h];show Rn.range (step:=λi b x=>(T i b x).1) (λi b x c y e=>(T i b x).2 (c,(y)) e) e)
def cI.ltAt(C:QY) i j:cI prog w A s kd it (ltAt' i j) x Y:=
 .tw<|.bind (.elem (p:=x.p)) λa a=>.bind (.elem (p:=x.p)) λa a=>.lt C
def cI.beyond(C:QY) left k(P:WW) base i:cI prog w A s kd it (beyond' left (fH it k) (P.map<|fH it) base i) x Y:=
 .bind .elem λa c=>by
  cases left with|true=>show .lt C|false=>show .bind (.lt C) λb c=>.ret<|!b
def cI.bin(C:QY) a n ok:cI prog w A s kd it (binarySort' a n ok) x (λc:Unit=>I):=
 .bind (.range (λc:Unit=>((O:Option Bool),(()))) () λk c x=>.bind (.range (λb:Nat×Nat=>((O:Option Bool),b.1,(b.2))) (0,(k)) λc b x=>.ite W9<|.bind (.ltAt C _ _) λq c=>.ite (.ret<|.yield (b.1,((b.1+b.2) / 2)))<|.ret<|.yield ((b.1+b.2) / 2+1,(b.2)))
  λb y=>.bind (g:=λc:Unit=>⟨⟩) (.mod {y with p:=bubble y.p (a+k) (a+k-(a+b.1))} (by
   change setArr (mz kd it y) (bubble (y.p.map<|fH it) (a+k)<|a+k-(a+b.1))=_
   delta bubble
   rw[PySem.W.kas_swaps_map (fH it) (λj=>a+k-j) λj=>a+k-j-1]
   rfl)) λc c=>.ret<|.yield ()) λc c=>.ret ()
def cI.leap(C:QY) left k(P:WW) base n hint:cI prog w A s kd it (gallop' left (fH it k) (P.map<|fH it) base n hint) x Y:=
 .bind (.beyond C left k P base hint) λq a=>.ite
  (.bind (.range (λb:Nat×Nat=>((O:Option Uw),b.1,(b.2))) (0,(1)) λa b a=>.ite W9<|.bind (.beyond C left k P base _) λq a=>.ite W9<|.ret<|.yield (b.2,(2*b.2+1))) λb a=>
   .bind (.range (λb:Nat×Nat=>((O:Option Uw),b.1,(b.2))) (hint+b.1+1,(hint+min b.2 (n-hint))) λa b a=>.ite W9<|.bind (.beyond C left k P base _) λq a=>.ite (.ret<|.yield (b.1+(b.2-b.1) / 2+1,(b.2)))<|.ret<|.yield (b.1,(b.1+(b.2-b.1) / 2))) λb a=>.ret b.2)
  (.bind (.range (λb:Nat×Nat=>((O:Option Uw),b.1,(b.2))) (0,(1)) λa b a=>.ite W9<|.bind (.beyond C left k P base _) λq a=>.ite W9<|.ret<|.yield (b.2,(2*b.2+1))) λb a=>
   .bind (.range (λb:Nat×Nat=>((O:Option Uw),b.1,(b.2))) (hint+1-min b.2 (hint+1),(hint-b.1)) λa b a=>.ite W9<|.bind (.beyond C left k P base _) λq a=>.ite (.ret<|.yield (b.1+(b.2-b.1) / 2+1,(b.2)))<|.ret<|.yield (b.1,(b.1+(b.2-b.1) / 2))) λb a=>.ret b.2)
def cI.count(C:QY) a b:cI prog w A s kd it (countRun' a b) x Y:=
 .bind (.range (λn:Nat=>((O:Option Uw),(n))) 1 λc n c=>.bind (.ltAt C _ _) λq c=>.ite (.ret<|.done n)<|.ret<|.yield<|n+1) λn c=>
  .ite (.ret n)<|.ite (.bind (.ltAt C _ _) λq c=>.ite (.ret n) .no) .no
def cI.Ge{g:α'->α}{i}{p:WW}(S:Y2)(T:cI prog w A s kd it a x g):cI prog w A s kd it (if (i==(p.map<|fH it).12)=I then m else a) x g:=
 .of (.ite (c:=(i==p.12)=I) S T) (by rw[Hs])
def cI.abJ r(b:β'){a}{F:Nat->β->StateT vP Sem (ForInStep β)}{p q:WW}(T:∀i b x,cI prog w A s kd it (F i<|r b) x<|xj r)(h:autoParam (a=r b) a'):cI prog w A s kd it (forIn [0:(p.map<|fH it).12+(q.map<|fH it).12] a F) x r:=
 .of (.range (n:=p.12+q.12) r b T h) (by rw[Hs,Hs])
def Nh(a b c:WW) d e:=c++a.extract d a.12++b.extract e b.12
def r0(g:Nat->uh)(c:Option WW×Array Nat×Nat×Nat×Nat):=(c.1.map (·.map g),c.2.1.map g,(c.2.2))
def r1(g:Nat->uh)(c:Option WW×Array Nat×Nat×Nat×Nat×Nat):=(c.1.map (·.map g),c.2.1.map g,(c.2.2))
def aoe(g:Nat->uh) a b c d e:c.map g++(a.map g).extract d (a.map g).12++(b.map g).extract e (b.map g).12=(Nh a b c d e).map g:=by simp[Nh]
def cI.mlo(C:QY)(a b:WW):cI prog w A s kd it (mergeLo' (a.map<|fH it)<|b.map<|fH it) x (Array.map<|fH it):=
 (.bind .rule λe e=>.bind .elem λq x=>.Ge .no<|.Ge .no<|.tw<|.bind (.abJ (r0<|fH it) (O,#[q],0,1,(x.g)) (λe c e=>
  .bind (.abJ (r1<|fH it) (O,c.2.1,c.2.2.1,c.2.2.2.1,0,(0)) λe d e=>.bind .elem λq e=>.bind .elem λp e=>.bind (.lt C) λt e=>.ite
   (.bind .elem λq e=>.Ge .no<|.ite .no<|.ret (.yield (O,d.2.1.push q,d.2.2.1,d.2.2.2.1+1,0,(d.2.2.2.2.2+1)))<|by erw[xj,r1,Ag,aff])
   (.bind .elem λp e=>.Ge (.ret (.done (Y<|Nh b a (d.2.1.push p) d.2.2.2.1<|d.2.2.1+1,d.2.1.push p,d.2.2.1+1,d.2.2.2.1,d.2.2.2.2.1+1,(0)))<|by simp only[xj,r1,Ag,aff,<-aoe])<|
    .ite .no (.ret (.yield (O,d.2.1.push p,d.2.2.1+1,d.2.2.2.1,d.2.2.2.2.1+1,(0)))<|by erw[xj,r1,Ag,aff])))
  λd e=>by
   let(ret,d):=d
   cases ret with|some r=>show .ret (.done (Y r,d.1,d.2.1,d.2.2.1,(c.2.2.2.2)))|none=>show .no) (by simp[r0];rfl)) λc e=>by
  let(ret,c):=c
  cases ret with|none=>show .no|some m=>show .ret m)
theorem Rn.set{st}(h:st=mz kd it y):Rn prog w A s kd it (set st) x ⟨⟩ y:=by subst h;show λE Q q=>dG q
def Ni(w:Array<|Nat×Nat×Nat) i:=(w.toList.eraseIdx i).toArray
def aof w i:w.eraseIdxIfInBounds i=Ni w i:=by delta Ni;apply atH.1;ext
def Nj(m:WW) at_(p:WW):=m.toList.zipIdx.foldl (fun a (v,j)=>a.setIfInBounds (at_+j) v) p
def aog(g:Nat->uh) at_(l:ZR):∀k (p:Array Nat),((l.map g).zipIdx k).foldl (fun a (v,j)=>a.setIfInBounds (at_+j) v) (p.map g)=((l.zipIdx k).foldl (fun a (v,j)=>a.setIfInBounds (at_+j) v) p).map g:=by
 induction l with
 |nil=>intro k p;rfl
 |cons v l b=>
  intro k p;rw[hY,Ph,Ph,C8,C8,<-b,Array.map_setIfInBounds]
def cI.gG(C:QY) i:cI prog w A s kd it (mergeAt' i) x (id:Bool->Bool):=by
 show .of (.tw ?_)<|mergeAt'_eq i
 change cI prog w A s kd it (match (x.w[i]?,(x.w[i+1]?)) with
  |(Y (d,e,power),Y (h,a,j))=>_
  |j=>_) x id
 cases x.w[i]? with
 |none=>show .no
 |some u=>cases x.w[i+1]? with
  |none=>show .no
  |some v=>
   show .bind (g:=λj:Unit=>⟨⟩) (.Ng () {x with w:=Ni (x.w.setIfInBounds i (u.1,u.2.1+v.2.1,(u.2.2))) JK}<|Rn.set (by rw[<-aof];rfl)) λj j=>.bind (.elem (p:=x.p)) λb j=>.bind (.leap C au b x.p u.1 u.2.1 0) λk j=>.ite .no<|.bind (.elem (p:=x.p)) λc j=>.bind (.leap C I c x.p v.1 v.2.1<|v.2.1-1) λa j=>.ite .no ?_
   show .ite (.bind (.of (.mlo C (x.p.extract (u.1+k) v.1)<|x.p.extract v.1<|v.1+a) (by rw[ats,ats];rfl)) λm y=>.bind (.mod {y with p:=Nj m (u.1+k) y.p} ?_) λj j=>.tw<|.ret I) .no
   change SortSt.mk' kd _ _ _ _=SortSt.mk' kd _ _ _ _
   congr 1
   change _=(Nj m (u.1+k) y.p).map (fH it)
   delta Nj
   rw[<-aog,<-atG]
   rfl
def cI.runs(C:QY):cI prog w A s kd it af2 x (λg:Unit=>()):=by
 refine' .of (.tw<|.of _ ?h) sortRuns'_eq
 case h=>
  let e:(arrOf<|mz kd it x).12=x.p.12:=Hs ..
  rw[e]
 show .bind (.range (λn:Nat=>((O:Option Unit),(n))) 0 λg a y=>.ite (.ret<|.done a)<|.bind (.count C a _) λn y=>?_) λg g=>.bind (.range (λg:Unit=>((O:Option Unit),(()))) () λg g y=>.tw<|.ite (.ret<|.done ())<|.bind (.gG C _) λq g=>.ite .no<|.ret<|.yield ()) λg g=>.ret ()
 show .ite (.bind .rule λg g=>.bind (.bin C a _ n) λg y=>.ite .no<|.tw ?_)<|.tw ?_
 all_goals
  change cI prog w A s kd it (match y.w.back? with
   |some (b,c,g)=>_
   |g=>_) y _
  cases y.w.back? with
  |none=>show .bind (.mod {y with w:=y.w.push (a,_,(0))} J) λg g=>.ret<|.yield<|a+_
  |some v=>
   show .bind (.range (λg:Unit=>((O:Option Unit),(()))) () λg g z=>.tw ?_) λg z=>.bind (.mod {z with w:=z.w.modify (z.w.12-1) λu=>(u.1,u.2.1,(power' x.p.12 (2*v.1+v.2.1) (2*v.1+v.2.1+v.2.1+_) x.p.12))} J) λg z=>.bind (.mod {z with w:=z.w.push (a,_,(0))} J) λg g=>.ret<|.yield<|a+_
   change cI prog w A s kd it (match (if z.w.12 >1 then z.w[z.w.12-2]? else O) with
    |some (g,i,d)=>_
    |g=>_) z _
   cases (if z.w.12 >1 then z.w[z.w.12-2]? else O) with|none=>show .ret<|.done ()|some g=>show .no
def pX(f:Nat->Nat->Option Bool)(x z:pW):Prop:=∀(prog:gz) (w:bS) (A:fA) (s:bc) (kd:HM) (it:Array uh),nA prog w A s kd it f->Rn prog w A s kd it af2 x () z
def pX.of(h:∀prog w A s kd it (C:nA prog w A s kd it f),(cI.runs (x:=x) C).1=Y ((),(z))):pX f x z:=λa a a a a a C=>(cI.runs C).2 ((),(z))<|h _ _ _ _ _ _ C
end
structure Nk(x:Str)(scope:l_):Prop where
 kind:scope.kind=.function
 co:scope.isCoroutine=au
 gen:scope.isGenerator=au
 lx:scope.names.lookup x=Y .local
 only:∀z,¬(scope.names.lookup z=Y .cell\/scope.names.lookup z=Y .free)
 M0:∀z∈JL,z.2≠.cell
def aoh{x scope}(c:autoParam (scope.kind=.function) a')(d:autoParam (scope.isCoroutine=au) a')(e:autoParam (scope.isGenerator=au) a')(f:autoParam (scope.names.lookup x=Y .local) a')
  (b:autoParam (∀p∈JL,¬(p.2=.cell\/p.2=.free)) b') (g:autoParam (∀z∈JL,z.2≠.cell) b'):Nk x scope:=by
 show(c,d,e,f,λz a=>?_,g);rcases a with a|a
 .show b _ (jP a) Qw
 show b _ (jP a)<|.inr J
def B9(g:G)(x a:Str)(scope:l_)(f c:ax)(A:fA)(outer:List Env)(s:bc)(H:Hp):Cx where
 prog:=g.P
 w:=g.w
 K:=Jj
 mg:=g.mg
 base:=Wn
 A:=A.deeper<|Dl a scope Jd f Za []
 N:=[x]
 iO:=s
 nZ:=H
 env:=Dl a scope Jd f Za []
 outer:=outer
 stack:=Dl a scope Jd f Za []::outer
 ex:=[]
 fn:=λz=>z==x
 calm:=I
 pn:=[]
 xe:=UH
def aoi{wv}
  (S:Nk x scope) (t:cQ QU A) (l:og g.P g.w Jj g.mg Wn A outer s H) (C:s.heap.get? f=Y (zU nm n params body scope [] pm c D)) (E:s.heap.CodeRec Za n)
  (F:RelV wv w) (L:xX (Pp nm n params body scope [] pm Za D) ([w],[])=pure [(x,(w))])
  (N:cQ k (B9 g x n scope f c A outer s H).A->PE (B9 g x n scope f c A outer s H) body P) (R:P [Y wv] H Q):
  o9 (bb g.P g.w) A (.call J7 ([w],[])) (CR jd outer g.P g.w H s Q E0) s:=by
 apply asz t.depth C J S.co S.gen J E;rw[L];show dG<|at5 S.M0 (λz T=>by rw[fZ.1 T];show S.lx) (λX ab y=>((l.mod.nolimit.keeps λb o e=>(l.bs b o e).1).fresh _ y,?_)) S.kind;let B:=λb o e=>y.extBut b o (iw<|dF e)<|dm _ e
 haveI ac:Inv (B9 g x n scope f c A outer s H) [] [Y wv] H {s with heap:=X,toks:=ZK+1}:=by
  let u:∀b:ax,b∉(B9 g x n scope f c A outer s H).ex:=λb z=>absurd (show b∈[] from z) Jc
  show((l.mod,S.kind,J,J,JR,λa b d j m=>?_,λa j=>?_,λa d j m=>?_,λK=>t.hd,aeG l.frames,.inr (J,J),λb z=>absurd z<|u b,l.bs,l.m7,λb K K=>u b,λb z=>absurd z<|u b,l.km,l.qo),
   rfl,l.bare,Un.kept B,(_,ab,λi z a j m h3=>?_),λz d h=>?_,l.bo.fresh JR,λz d h=>?_,λp hp=>absurd (show p∈[] from hp) Jc,l.bo.kept B,J)
  .cases j
  .show absurd j<|S.only a
  .cases m
  .match i,j,m with
   |0,j,m=>
    let j:=bt j;let m:=bt<|bt m;subst j;subst m;show(w,F,.inl (S.lx,?_));ext
   |i+1,j,m=>cases j
  .cases h
  cases h
 show asy<|kX (N (t.deeper _) [] _ _ H Q ac R) (λv s' (v',H',r,rv,q)=>(v',H',r.os,r.bare,r.base,r.bo,rv,q)) λK K z=>gn z
def vd(l:Jw):=((l.9:Int),(l))
def fL(L:List Jw)(i j:JD):Option Bool:=match L[i]? with
 |none=>O
 |some a=>match L[j]? with
  |none=>O
  |some b=>Y<|Gd (vd a)<|vd b
def jL(qs ps:Up):Array uh:=((qs.map eZ).toArray).zip (ps.map eZ).toArray
def abK(h:ps.9=qs.9):(jL qs ps).12=qs.9:=by delta jL;ext
def Nl(h:qs[i]?=Y q)(h':ps[i]?=Y p):fH (jL qs ps) i=(.ref q,(.ref p)):=by
 haveI e:(jL qs ps)[i]?=Y (.ref q,(.ref p)):=by
  delta jL;rw[Array.getElem?_zip_eq_some];ext
 delta fH;ext
def aoj a:((aQ a.12).toArray).map (fH a)=a:=by
 apply avi
 .simp
 intro i c b;simp[fH,b]
set_option tactic.hygienic true in
def aok(d:∀(i:Nat) q l,qs[i]?=Y q->L[i]?=Y l->vb s q (vd l))(o:qs.9=L.9)(p:ps.9=L.9)(m:YS<ki):nA prog w A s (HQ I) (jL qs ps) (fL L):=by
 intro i j b h Q n;delta fL at h;split at h
 .cases h
 rename_i a e;split at h
 .cases h
 rename_i c f;cases h;let r:=(cU.1 e).1;let t:=(cU.1 f).1;let g:qs[i]?=Y qs[i]:=Jc
 let k:qs[j]?=Y qs[j]:=Jc
 rw[Nl g<|cy Ja,Nl k<|cy Ja];show aod (d i _ _ g e) (d j _ _ k f) m n
def aol(c:∀(i:Nat) q l,qs[i]?=Y q->L[i]?=Y l->vb s q (vd l))(b:qs.9=L.9)(d:ps.9=L.9)(f:YS<ki)
  (g:pX (fL L) ((aQ L.9).toArray,#[],7) z) (h:Q ((),(mz (HQ I) (jL qs ps) z)) s):bj JB A (af2.run<|SortSt.mk' (HQ I) (jL qs ps) #[] 7 O) Q E s:=by
 let r:=g _ _ _ _ _ _ (aok (prog:=prog) (w:=w) c b d f) E (λa st j=>Q (a,(st)) j) h;delta at9 mz at r;haveI e:(aQ L.9).toArray.map (fH<|jL qs ps)=jL qs ps:=by
  let:=aoj<|jL qs ps;rwa [abK Ja,b]at this
 rwa [e]at r
theorem abL:∀{qs L},bw (λq l=>vb s q<|vd l) qs L->∃fs:List aO,PySem.W.KatTups s.13 (qs.map eZ) fs/\fs.9=qs.9/\∀v∈fs,∃n t,v=afO n t
 |_,_,.nil=>([],avC,J,λv a=>absurd a Jc)
 |_,_,.cons h b=>by
  let(fs,t,e,i):=abL b;let(o,f,g,j,k,g1,c,d,_):=h.ex;show(_::fs,avD g1 c d J t,e8 (·+1) e,λv a=>?_);rcases fQ.1 a with z|z
  .show(_,_,z)
  show i v z
theorem B_:∀{qs:List ax}{a},bP (qs.map Qv) a->a=qs.map eZ|[],_,.nil=>rfl|_::_,_,.cons r h=>by rw[B_ h];show e8 (·::_) r
theorem Gf:∀(qs:List ax),bP (qs.map Qv) (qs.map eZ)|[]=>.nil|a::qs=>.cons J<|Gf qs
section
variable {X:Cx} {yq:List (ax × Obj)} {σ:L2.St} {H:Hp} {s:bc} {D kS:ax} {od:Obj} {e1:Nat} {A:fA} {E:aO->bc->Prop} {P:afP->bc->Prop}
def abM{a:Up}{st}(g:Jp)(p:H D=Y (.fR od Jx))(q:od={cls:=J2,data:=.seq #[] e1})(r:∀t v,X.nZ D≠Y (.fR t v))(i:H kS=Y (.lst B))
  (w:failedOf st=O) (x:(arrOf st).map (·.2)=(a.map eZ).toArray) (C:a.9<=cz)
  (h:∀j c,Inv X yq σ c j->(∀b u,b≠D->b≠kS->H b=Y u->c b=Y u)->c D=Y (.lst<|a.map Qv)->P (.done (.ret .none)) j):
  bj Jm A (ksk_tail D au e1 (.ref kS) st) P E s:=by
 let y:kS≠D:=Ja
 let(F,L,n,N,Q,k):=g.m_ i;subst q;let l:=g.v_ (t':=ZK) (f:=λK=>#[]) i k J .nil Jc;let m:aA H kS Jx D=Y (.fR {cls:=J2,data:=.seq #[] e1} Jx):=by rw[aJ y.3];show p
 let d:=(l.bo D _ m).1;show bg<|P_ k J (bg<|Rf<|bg<|seqEpoch_at d J ?_) (by ext)<|eX _;show bg (P_ d J ?_ (eX _) (by
  ext;lia))
 rw[w];simp;show dG<|h _ _ ((l.unlock m r).v_ aB d (by exists x) (Gf a)<|by ext) (λb u o z e=>?_) aB;rwa [aJ o,aJ o,aJ z]
end
section
variable {X:Cx} {yq:List (ax × Obj)} {σ:L2.St} {H:Hp} {s:bc} {D kS:ax} {od:Obj} {e1:Nat} {A:fA} {E:aO->bc->Prop} {P:afP->bc->Prop} {PL:List (ax × List Int)} {qs rs:List ax}
inductive xk(H:Hp)(q:ax)(x:ax×List Int):Prop|mk(a:H q=Y (.tup [.int (x.2.9:Int),.ref x.1]))(b:H x.1=Y (.lst (x.2.map V.int))):xk H q x
def xk.at(a:Jp)(h:xk H q x):vb s q (vd x.2):=by
 let(_,j,v,o,g,c,n,d):=a.bo q _ h.1;let(_,b,m,e,f):=a.bo x.1 _ h.2;cases v with
 |cons r1 v=>
  cases v with
  |cons i v=>
   cases v;let(t,rfl):=r1;cases i;show(o,t,x.1,n,b,g,c,d,(_,f,J,m,J),e.ints)
def zg(PL:List<|ax×List Int)(rs:Up):Prop:=(PL.9<2/\rs=PL.map (·.1))\/(2<=PL.9/\∃z:pW,pX (fL<|PL.map (·.2)) ((aQ PL.9).toArray,#[],7) z/\z.p.12=PL.9/\(∀i∈z.p.toList,i<PL.9)/\rs=z.p.toList.map λi=>(PL.map (·.1)).getD i 0)
theorem abN(g:c->d):∀{l:List e}{m},bw (λa b=>R a<|g b) l m->bw R l (m.map g)|_,_,.nil=>.nil|_,_,.cons r h=>.cons r<|abN g h
def aom(c:Jp)(g:H D=Y (.fR od Jx))(j:od={cls:=J2,data:=.seq #[] e1})(m:∀F N,X.nZ D≠Y (.fR F N))(o:H kS=Y (.lst<|qs.map Qv))(hK:bw (xk H) qs PL)(ac:PL.9<=64)(Q:zg PL rs)(S:YS<ki)
  (h:∀p d,Inv X yq σ d p->(∀b u,b≠D->b≠kS->H b=Y u->d b=Y u)->d D=Y (.lst<|rs.map Qv)->P (.done (.ret .none)) p):
  bj Jm A (ksk_end D au ((PL.map (·.1)).map eZ).toArray e1 (.ref kS) (qs.map eZ).toArray) P E s:=by
 let r:qs.9=PL.9:=hK.9;let hsz:((PL.map (·.1)).map eZ).toArray.12=PL.9:=Jc
 let w:(PL.map (·.1)).9=PL.9:=Jc
 let line:64<=cz:=Je
 delta ksk_end;try dsimp only
 rw[aj gZ];rcases Q with⟨a,rfl⟩|⟨a,z,hz,zs,hi,rfl⟩
 .rw[ak (by rw[hsz];show a),ak (by rw[hsz];show a)];show bg<|dG ?_;rw[StateT.run_pure];show bg<|dG ?_;show abM (st:=SortSt.mk' general' (if au=I then _ else _) #[] 7 O) c g j m o J ?_ (by rw[w];lia) h;change ((if au=I then (jL qs<|PL.map (·.1)).reverse else jL qs (PL.map (·.1))).map (·.2))=_
  rw[aj gZ];apply avi
  .rw[Hs,abK Ja,hsz,r]
  intro i y a;delta jL;simp
 rw[aj (by rw[hsz];lia),aj (by rw[hsz];lia)];let B:bw (λq l=>vb s q<|vd l) qs (PL.map (·.2)):=abN (R:=λq l=>vb s q<|vd l) (λx:ax×List Int=>x.2)<|L2.Paired.imp' (λq x k=>xk.at c k) hK;let(fs,t,e,ab):=abL B;haveI e0:(Dt "int" != Dt "tuple")=I:=by first|rfl|decide
 show bg<|PySem.W.kat_kind (T:=Dt "int") t Ja (λv hv=>?_) J ?_
 .let(n,t,rfl):=ab v hv;show avF J
 rw[e0];let f:(PL.map (·.2)).9=PL.9:=Jc
 erw[aeT,uc];rw[show ((l7 eZ qs).toArray.zip (l7 eZ<|l7 (λx=>x.fst) PL).toArray)=jL qs (l7 (λx=>x.fst) PL) from J];show bg<|aol (qs:=qs) (ps:=PL.map (·.1)) (L:=PL.map (·.2)) (z:=z) (λi q l y a=>?_) (by rw[f];show r) (by rw[w,f]) S (by rw[f];show hz) ?_
 .let(l',e1,k):=L2.eS B y;rw[a]at e1;cases e1;show k
 dsimp only;let hf:failedOf (mz (HQ I) (jL qs<|PL.map (·.1)) z)=O:=J;show abM c g j m o hf ?_ ?_ h
 .change ((z.p.map<|fH<|jL qs<|PL.map (·.1)).map (·.2))=_
  apply atH.1;erw[atG,kg];show mK λi hm=>?_
  let ae:=hi i hm;let q1:qs[i]?=Y qs[i]:=cy Ja;let C:(PL.map (·.1))[i]?=Y (PL.map (·.1))[i]:=cy Ja;change (fH (jL qs<|PL.map (·.1)) i).2=eZ ((PL.map (·.1)).getD i 0)
  rw[Nl q1 C,jO,C];rfl
 rw[bz,CU,zs];lia
def Gg(X:Cx)(yq:List QA)(σ:L2.St)(H:Hp)(A:fA)(f:ax):Prop:=∀(b:bc) (a:Hp) (p:ax) (l:Jw),Inv X yq σ a b->az H a->a p=Y Uv->
 o9 Jm A (.call J7 ([.ref p],[])) (CR jd YR UG X.w a b (λv c=>∃q,v=.ref q/\a q=O/\c=aA a q (.tup [.int (l.9:Int),.ref p])) E0) b
def aon(ac:Jp)(sm:az H0 H)(hT:Gg X yq σ H0 A f)(fD:H0 D=O)(N:H0 kS=O)(hD:H D=Y (.fR od Jx))(ae:od={cls:=J2,data:=.seq #[] e1})(af:∀o' u',X.nZ D≠Y (.fR o' u'))(ag:H kS=Y Jx)
  (ai:∀x∈PL,H0 x.1=Y (.lst<|x.2.map V.int)) (al:PL.9<=64) (hs:zg PL rs) (hu:YS<ki)
  (h:∀d a,Inv X yq σ a d->az H0 a->a D=Y (.lst<|rs.map Qv)->P (.done (.ret .none)) d):
  bj Jm A (ksk_rest D J7 au ((PL.map (·.1)).map eZ).toArray e1<|.ref kS) P E s:=by
 let line:100<=cz:=Je
 let am:kS≠D:=Ja
 haveI Q:∀x∈PL,x.1≠kS:=by grind
 show bg<|HH ?_;rw[List.forIn_toArray];show bg<|ksk_fold (λi d=>∃a qs,Inv X yq σ a d/\az H0 a/\a D=Y (.fR od Jx)/\a kS=Y (.lst<|qs.map Qv)/\bw (λq x=>xk a q x/\x.1≠kS) qs (PL.take i)) _ 0 s (H,[],ac,sm,hD,ag,by rw[List.take_zero];show .nil) ?step ?done;case step=>
  intro j x d p (a,qs,t,g,B,l,m);rw[xP]at m⊢;rw[kg,c8]at p;cases o:PL[j]? with
  |none=>rw[o]at p;cases p
  |some pl=>
   rw[o]at p;cases p;let R:=g _ _<|ai pl<|bM o;show bg<|P8<|HI<|Ac (hT d a pl.1 pl.2 t g R) λr ap w=>?_;cases r with
   |error e=>show gn w
   |ok fl=>
    cases fl with
    |next=>show gn w
    |brk=>show gn w
    |cont=>show gn w
    |ret u=>
     let(v,H4,S,rv,q,rfl,c,rfl):=t.after w;cases rv;try dsimp only
     let T:q≠kS:=Ja
     let qD:q≠D:=Ja
     haveI ab:aA a q (.tup [.int pl.2.9,.ref pl.1]) kS=Y (.lst<|qs.map Qv):=by rw[aJ T.3];show l
     let(zl,an,n,C,lz,y):=S.m_ ab;let F:=B_ C;subst F;haveI lq:qs.9<=64:=by
      let:=m.9;rw[oQ]at this;lia
     show bg<|P_ y J (dG (J,_,qs++[q],S.v_ ab y Jc (Gf _) (by simp;lia),λb u e=>?_,?_,aB,?_)) (by simp;lia) (by simp;lia)
     .haveI hb:b≠kS:=λz=>by rw[z,N]at e;cases e
      rw[aJ hb,aJ (λz=>by rw[z]at e;rw[g _ _ e]at c;cases c)];show g b u e
     .rw[aJ am.3,aJ qD.3];show B
     rw[CZ,o];show yA (L2.Paired.imp' (λq2 x k=>?_) m)<|.cons ((?_,?_),?_) .nil
     .haveI n1:q2≠q:=λz=>by rw[<-z,k.1.1]at c;cases c
      haveI L:x.1≠q:=λz=>by rw[<-z,k.1.2]at c;cases c
      show((by rw[aJ (λz=>by rw[<-z,k.1.1]at l;cases l),aJ n1];show k.1.1,by rw[aJ k.2,aJ L];show k.1.2),k.2)
     .rw[aJ T];show aB
     .haveI L:pl.1≠q:=λz=>by rw[<-z,R]at c;cases c
      rwa [aJ<|Q pl<|bM o,aJ L]
     show Q pl<|bM o
 case done=>
  intro d (a,qs,t,g,B,l,m);haveI ao:bw (xk a) qs PL:=by
   let e:PL.take (0+((PL.map (·.1)).map eZ).9)=PL:=tT Jc;rw[e]at m;show L2.Paired.imp' (λq x k=>k.1) m
  let(zl,an,n,C,lz,y):=t.m_ l;let F:=B_ C;subst F;show bg<|listItems_at y J<|aom t B ae af l ao al hs hu λs3 H3 I3 e3 d3=>h s3 H3 I3 (λb u e=>e3 b u (λz=>by rw[z,fD]at e;cases e) (λz=>by rw[z,N]at e;cases e)<|g b u e) d3
end
section
variable {X:Cx} {yq:List (ax × Obj)} {σ:L2.St} {H:Hp} {s:bc} {D:ax} {A:fA} {E:aO->bc->Prop} {P:afP->bc->Prop} {PL:List (ax × List Int)} {rs:List ax}
def aoo(j:Jp)(r:az H0 H)(t:Gg X yq σ H0 A f)(a:H0 D=O)(k:H D=Y (.lst<|(PL.map (·.1)).map Qv))
  (v:∀x∈PL,H0 x.1=Y (.lst<|x.2.map V.int)) (w:PL.9<=64) (y:zg PL rs) (B:YS<ki)
  (h:∀l c,Inv X yq σ c l->az H0 c->c D=Y (.lst<|rs.map Qv)->P (.done (.ret .none)) l):
  bj Jm A (ksk_tree D J7 au) P E s:=by
 let line:100<=cz:=Je
 let(zl,ab,n,C,lz,d):=j.m_ k;let F:=B_ C;subst F;let g:=j.v_ (t':=ZK) (f:=λK=>#[]) k d J .nil Jc;let L:az H0 (aA H D Jx):=λb u e=>by
  rw[aJ (λz=>by rw[z,a]at e;cases e)];show r b u e
 let(_,ac,N,Q,l2,R):=g.m_ aB;cases Q;let(m,o):=g.lock aB trivial;let S:m={cls:=J2,data:=.seq #[] N}:=by
  let:=(o.bo D _ aB).1;ext
 let p:az H0 (aA (aA H D Jx) D<|.fR m Jx):=λb u e=>by
  rw[aJ (λz=>by rw[z,a]at e;cases e)];show L b u e
 show bg<|listItems_at d J<|bg<|P_ d J (bg<|seqEpoch_at R J<|bg<|avl (bg<|avs (HB ?_)<|eX _) (by simp;lia)) (by simp;lia)<|eX _;let q:=o.kept (t':=ZK) (h':=(s.heap.update D<|xT λK=>#[]).push {cls:=QP,data:=.seq ((PL.map (·.1)).map eZ).toArray.toList.toArray}) λb u e=>dm _ e
 let i:=q.fresh;let T:D≠((s.heap.update D<|xT λK=>#[]).push {cls:=QP,data:=.seq ((PL.map (·.1)).map eZ).toArray.toList.toArray}).objs.12:=dH aB i;show aon (q.D3 .nil<|eX _) (λb u e=>?_) t a ?_ ?_ S (g.ahS aB trivial) aB v w y B h
 .let e2:=p b u e;rwa [aJ<|dH e2 i]
 .show p.free i
 rw[aJ T];show aB
def aop(d:Jp)(k:Gg X yq σ H X.A.in1.in1 f)(l:H a=Y (.lst<|(PL.map (·.1)).map Qv))
  (p:∀x∈PL,H x.1=Y (.lst<|x.2.map V.int)) (r:PL.9<=64) (t:zg PL rs) (v:X.A.in1.in1.units<ki)
  (h:∀D c,az H c->c D=Y (.lst<|rs.map Qv)->Q Ys c):
  bj Jm Yp (call (.builtin "sorted") [.ref a] [(aZ "key",(.ref f))]) (EP X yq σ Q) E s:=by
 let line:100<=cz:=Je
 let(N,R,n,w,S,y):=d.m_ l;let z:=B_ w;subst z;apply call_function_entry_kw kind_sorted plain_sorted entry_sorted<|ksk_s1 _ _;show bg (m:=checkCount "sorted" 1 1 _)<|dG<|bg<|collect_list (_,y,J,n,J) (bg<|avs ?_ (by simp;omega)) (by simp;omega);haveI keep:∀b o,s.heap.get? b=Y o->((s.heap.push<|seqObj "list" #[] 0).update Jd<|xT (·++((PL.map (·.1)).map eZ).toArray)).get? b=Y o:=λb o q=>by
  let g:b<s.heap.objs.12:=dF q;rw[Heap.get?_update_ne _ _ _ _<|iw g,Heap.get?_push_ne _ _ _<|iw g];show q
 let i:=d.kept (t':=ZK) keep;haveI B:=i.D3 (t':=ZK) (Gf<|PL.map (·.1)) (by simp;omega);let j:=i.fresh;show bg<|HB<|wpAny_call_entry_kw slot_list_sort (_,UC,J) entry_list_sort ?_<|ksk_l1 _ _;change bj Jm X.A.in1.in1 (uf.«list.sort» ([.ref _],[(aZ "key",(.ref f))])) _ _ _
 rw[ksk_t1];show aoo B (λb u e=>?_) k j aB p r t v λT c C F L=>(_,J,dG (_,J,?_))
 .rw[aJ<|dH e j];show e
 show(.ref _,c,C,J,h _ c F L)
end
def abO(P:ax)(pos:Pos)(f:Str)(g:TE):TE:=λh H Q=>g h H λv b=>∃(a:ax) (c:List (ax×List Int)) (e:Up),v=.ref a/\b a=Y (.lst<|(c.map (·.1)).map Qv)/\(∀x∈c,b x.1=Y (.lst<|x.2.map V.int))/\c.9<=64/\zg c e/\(∃z,b P=Y (.tab z pos f))/\
 ∀D d,az b d->d D=Y (.lst<|e.map Qv)->Q Ys d
def aoq K:=hZ<|U (bA (b9 K) ZZ) ZZ
def abP(h:cQ 2 A):cQ 1 A.in1.in1:=(h.hd,by let:=h.dp;change A.depth+3*1+5<_;lia,by let:=h.un;change YS+1+1+16*1+200<_;lia)
def aor
  (R:cQ 2 (cx g N b sc d bu i outer j H0 E).A) (L:K1 Q5 P m)
  (he:PE Q5 e te) (S:Nk x scope)
  (hb:∀(f c:ax) A1 ac T X,PE (B9 g x m scope f c A1 ac T X) body<|aoq Jj)
  (hg:Gl Q5 "sorted") (hm:g.mg "sorted"=O) (ae:afW params (cx g N b sc d bu i outer j H0 E).env=([],([]))) (af:HJ scope (cx g N b sc d bu i outer j H0 E).env=pure [])
  (ag:∀(pm cd n w:aO),xX (Pp "<lambda>" m params body scope [] pm cd n) ([w],[])=pure [(x,(w))])
  (hs:autoParam (bB [e] (cx g N b sc d bu i outer j H0 E).env=(au,(bC e (cx g N b sc d bu i outer j H0 E).env))::bB [] (cx g N b sc d bu i outer j H0 E).env) a'):
  PE Q5 (.Call (.Name "sorted" p0) [e] [(Y "key",.Lambda params body scope ai,as)] pos) (abO P ai m te):=by
 show λyq s o H Q ab h=>xF<|rY ab hg hm boot_sorted ?_
 haveI r:fI pos (bB [e] (cx g N b sc d bu i outer j H0 E).env)=(au,(bC e (cx g N b sc d bu i outer j H0 E).env))::fI pos (bB [] (cx g N b sc d bu i outer j H0 E).env):=by
  rw[hs];rfl
 show callWith_kw ?_ r (by rw[r];rfl) J J;rw[r];show O6<|bF (he yq s o H _ ab h) fun u T (v,X,t,r1,a,PL,rs,ev,ha,al,am,an,(z,hP),q)=>?_;subst ev;cases r1;show aeV<|wpAny_evalAll_cons<|bg<|VH L t hP ae af λf y n s2 H2 I2 B ao hf hsz ho=>bg<|P6<|dG<|wpAny_evalAll_nil ?_;haveI ap:f≠(cx g N b sc d bu i outer j H0 E).env.locals:=λz=>absurd (iJ t.lt hsz) (by rw[z];show oU _)
 haveI I3:Inv Q5 ((f,(_))::yq) o H2 s2:=I2.DD λp C=>by
  rcases fQ.1 C with rfl|z
  .show(ho,hf,ap,t.H_ hsz,λv z=>by cases z)
  show I2.pin p<|mJ _ z
 haveI hT:Gg Q5 ((f,(zU "<lambda>" m params body scope [] (((cx g N b sc d bu i outer j H0 E).mg "__name__").getD .none) y n))::yq) o H2 (cx g N b sc d bu i outer j H0 E).A.in1.in1 f:=by
  intro s3 H3 p l F ar hl;let k:=F.AN;let(od,vs,t2,z1,z2,z3):=F.bo y _<|ar _ _ ao;apply aoi (wv:=JS) S (abP R) (k.frames,k.mod,k.bs,k.m7,k.km,k.qo,k.bo,k.bare) (F.pin _<|mJ _<|.head _).1 (y,od,vs,t2,J,z1,z2,z3) J (ag _ _ _ _) λK=>hb _ _ _ _ _ _;show(.inl<|aq.of hl,λq hq=>(q,J,hq,?_));rw[bz]
 show bF (aop I3 hT (B _ _ ha) (λx hx=>B _ _<|al x hx) am an (abP R).DU λD H' s' d'=>q D H' (B.trans s') d') λu s4 (v,H4,I4,r4,q4)=>(v,H4,I4.DD λp C=>I4.pin p<|mJ _<|.tail _ C,r4,q4)
inductive aos K A(vs:Ju) H Q:Prop|mk S t s wh e(a:vs=[.ref t,.ref wh])(b:JO)(c:J6)(d:H wh=Y (.lst [.int ((e:JD):Int)]))(f:e<Jb)(g:iD H (B5 s e) Q)
def aot(m:Jn):bI g 3 "answer_past" ["told","wholes"] (aos Jj A):=by
 show bI.of (m.f 65) EI akf (akg m<|BU m) ?_;intro vs H Q hl (S,t,s,wh,e,rfl,T,C,P,he,k);let ac:=C.dr;delta B5 at k;show λz R=>?_;let f:=aG (o:=WH) R;let X:=aB (H:=H) (a:=z) (o:=WH);let lp:=Fx s e;show(aq.of<|f _ _ P,J,S,t,s,e,J,T.to f,C,Ja,Ja,λp H2 n hp r=>?_);haveI ek:dU s e=iU s e:=by
  delta dU;rfl
 rw[ek]at r;show(p,_,J,aq.of r,λD E=>alW (p:=2) (q:=3) Je E (λj H' u=>u=bW ((aQ j).filter λx=>(iU s e).getD x au)) J (aq.of r) ?_ ?_)
 .intro j v h u F c i l L rfl ab;obtain⟨b,d,rfl⟩:∃b,(iU s e)[j]?=Y b/\v=.bl b:=by
   rw[c8]at c;cases d:(iU s e)[j]? with|none=>rw[d]at c;cases c|some b=>rw[d]at c;show(b,J,(bt c).3)
  haveI hj:j<s.events.9:=by let:=(cU.1 d).1;omega
  let eg:(iU s e).getD j au=b:=fG d;haveI step:bW ((aQ Q7).filter λx=>(iU s e).getD x au)=bW ((aQ j).filter λx=>(iU s e).getD x au)++if b=I then [V.int (j:JD)] else []:=by
   rw[oR,aeS];delta bW;rw[eV];congr 1;cases b<;>erw[C5,eg]<;>rfl
  let nT:az h (aA h F<|.tup [.int (j:JD),.bl b]):=aG ab;let y:=nT _ _ l;generalize aA h F (.tup [.int (j:JD),.bl b])=H4 at nT y⊢;show ?_;cases b with
  |true=>
   rw[ak J]at step;show qO i L JE (mj nT) y step.3
  |false=>
   rw[aj Jc,iu]at step;show wm gZ<|LR i L (mj nT) y step.3
 intro h u i l rfl;let B:=il E i;rw[bz,lp]at l;show((n.trans B) _ _ X,l,?_,λw N=>k w _ (f.trans<|n.trans<|B.trans<|aG N) (f.free<|n.free<|B.free N) ?_)
 .rw[bz,cP];let:=xC (λx=>(iU s e).getD x au)<|aQ Jb;rw[C0]at this;change 1+_<=_
  omega
 rw[aB];delta bW VbdtCore.ints;simp
inductive Nm K A(vs:Ju) H(Q:VK):Prop|mk d t s a b vw vm ls ms(e:vs=[.ref t,.ref a,.ref b])(f:c9 K A d H t s)(g:J6)(h:H a=Y (.lst vw))(i:bw (sF A H) vw ls)(j:H b=Y (.lst vm))(k:bw (sG A H) vm ms)(l:FC Jb ls)(m:FD Jb ms)(n:∀p ps c,az H c->eF K c p ps (aE (jF s ls ms))->Q JS c)
def aou(c:Jn):aK g 6 134 (Nm Jj A):=by show aK.rd c 3 [10,0,1] (kc (BV c)<|fc (amh c) fz) (aH<|aD Z3 (fJ (yX Jj A)<|U (aN 3 (aaq Jj A)<|U Ji<|U Jl Qg) aa) "limits") ?_;intro vs H Q w (f,t,s,a,b,vw,vm,ls,ms,rfl,T,d,h,i,j,l,m,n,k);let x:=d.dr;show(f,t,s,a,b,vw,vm,ls,ms,J,T,d,h,i,j,l,m,n,λp o y z q r St=>(o,p,_,_,_,J,St,by rw[c6];lia,λv B C u (D,E,F,e)=>(e.top,k _ _ _ (q.trans<|r.trans u) e.gG)))
inductive Np(K:bH)(vs:Ju) H(Q:VK):Prop|mk a xs(i:JD)(c:vs=[.ref a,.int (i:JH)])(d:H a=Y JX)(e:i<xs.9)(f:xs.9<=WN)(g:∀p b,az H b->b p=Y (.lst (xs.eraseIdx i))->Q JS b)
def Gh(h:i<=n):HT.iW n d (Y i)=i:=by rw[HT.DX,Px h]
def aov(d:Jn):aK g 1 135 (Np Jj):=by
 show aK.rd d 2 [1,0] fz (aH<|ah ic (k8 (jZ Jj) Ji m9<|iA Jl)<|k8 (jZ Jj) Ji (iA<|ah QN Jl Jh) m9) ?_;intro vs H Q m (a,xs,i,rfl,b,hi,n,k);haveI e:h_ xs O (Y i)=xs.take i:=by
  delta h_;rw[Gh JE];rfl
 haveI f:h_ xs (Y JK) O=xs.drop JK:=by
  delta h_;rw[show JK=((i+1:Nat):Int) by omega,Gh JE,HT.Ss];apply tT;rw[Hh];lia
 show(aq.of b,λp h=>?_);rw[e];let np:=aG (o:=.lst<|xs.take i) h;let j:=aB (H:=H) (a:=p) (o:=.lst<|xs.take i);show(aq.of<|np _ _ b,λq c=>?_);rw[f];show((aG c) _ _ j,aB,?_,λw l=>k w _ (np.trans<|(aG c).trans<|aG l) ?_)
 .rw[cP,oQ,Hh];omega
 rw[aB,List.eraseIdx_eq_take_drop_succ]
theorem Nq{a:Type}[DecidableEq a]{f}(b:∀x y,Ae (f x) (f y)=decide (x=y)):∀l m:List a,vI (l.map f) (m.map f)=decide (l=m)
 |[],[]=>rfl
 |[],e::g=>rfl
 |e::g,[]=>rfl
 |x::l,y::m=>by
  rw[hY,hY,vI,b,Nq b l m];cases d:x=y<;>cases c:l=m<;>simp[c]
theorem Nr{b:Type}{f}(a:∀x,Hr (f x)=I):∀l:List b,Pa (l.map f)=I
 |[]=>rfl
 |x::l=>by
  rw[hY,Pa,Nr a l,a];rfl
theorem Nt{b:Type}{f}(a:∀x,Hz (f x)<=n):∀l:List b,xJ (l.map f)<=n
 |[]=>eX _
 |x::l=>by
  rw[hY,xJ];let:=Nt a l;let:=a x;lia
def xl(r:List SL):o_:=.list<|r.map uZ
def zh(M:JY):o_:=.list<|M.map xl
def aow x y:Ae (xl x) (xl y)=decide (x=y):=Nq Mx x y
def aox x y:Ae (zh x) (zh y)=decide (x=y):=Nq aow x y
def aoy l:Hr (uZ l)=I:=by cases l<;>rfl
def aoz l:Hz (uZ l)<=2:=by
 cases l with
 |none=>decide
 |some a=>
  change xJ ([a.1,gD a.2].map nW)+1<=2
  let:=E1 [a.1,gD a.2];lia
def abQ M:rP (zh M)=I:=by
 delta rP;let a:Hr (zh M)=I:=Nr (f:=xl) (λr=>Nr aoy r) M;let b:Hz (zh M)<=64:=by
  change xJ _+1<=64
  let:=Nt (f:=xl) (λr=>by
   change xJ _+1<=3
   let:=Nt aoz r;lia) M
  lia
 lia
def aoA{K}(h:fm K H r ls):Dp K H (.ref r) (xl ls):=by
 let(vs,b,c):=h;show .lst (aq.of b)<|K3 ?_;haveI:∀{vs:List V}{ls:List SL},bw (cS K H) vs ls->bw (Dp K H) vs (ls.map uZ):=by
  intro vs ls h;induction h with|nil=>show .nil|cons a e d=>show .cons (BY a) d
 show this c
def abR{K M}(h:eF K H a b M):Dp K H Jy (zh M):=by
 show .lst (aq.of h.top)<|K3 ?_;haveI:∀{b:List ax}{M:List (List SL)},bw (fm K H) b M->bw (Dp K H) (b.map Qv) (M.map xl):=by
  intro b M h;induction h with|nil=>show .nil|cons a d c=>show .cons (aoA a) c
 show this h.rows
def abS{K M}(c:eF K H a e M)(d:eF K H b qs N)(k:Q (.bl<|decide<|M=N) H):pk K Jy WO H Q:=(_,_,abR c,abR d,abQ _,abQ _,by rw[aox];show k)
theorem Nu:∀{l:List a}{m:List b} i,bw R l m->bw R (l.eraseIdx i) (m.eraseIdx i)|_,_,_,.nil=>by simp;show .nil|_,_,0,.cons _ h=>h|_,_,i+1,.cons r h=>.cons r<|Nu i h
inductive abT K A(f:bX->List Int)(vs:Ju) H Q:Prop|mk S t s wh(a:vs=[.ref t,wh])(b:JO)(c:J6)(d:iD H (f s) Q)
def abU p j:bW ((aQ Q7).filter p)=bW ((aQ j).filter p)++if p j=I then [V.int j] else []:=by rw[oR];induction h:p j<;>simp[h]
def Gi p j:(bW<|(aQ j).filter p).9<=j:=by ext;let:=xC p<|aQ j;rwa [C0]at this
def aoB(C:Jn):aK g 7 136 (abT Jj A xb):=by
 show aK.rd C 6 [3,2,2,90,8,1,0,1,8,8,10,90,2,90,8,1,0,8,1,8,10,90,1,1,90] (fc (aou C)<|fc (aov C)<|mc C.jf.cl (sV C)<|fc (oz C) fz) (ay (aP (aN 2 (mn Jj A)<|U Ji<|U Q0 aa) QQ)<|ay (a_ (tB<|c5 Z3 "contradicts" 1 YH Jv aa) ZH ba)<|ay (aP Z1 Zx)<|ay (dc (kZ<|U (bA Qb<|U ZQ aa) aa) UN<|a_ (aY<|ah (pk Jj) (aN 3 (Nm Jj A)<|U Ji<|U (aN 2 (Np Jj)<|U ZQ ZY)<|U ZW aa)<|aD Z3 Jv "limits") (cG<|ff Jj "list" gb JC ZY) ba)<|ay (aP Z1 Ww)<|ay (dc (kZ<|U (bA Qb<|U ZW aa) aa) UN<|a_ (aY<|ah (pk Jj) (aN 3 (Nm Jj A)<|U Ji<|U ZQ<|U (aN 2 (Np Jj)<|U ZW ZY) aa)<|aD Z3 Jv "limits") (cG<|ff Jj "list" gb Q6 ZY) ba)<|aH<|ah ic (ah ic (bx<|U (bA Qb Zo) aa) JC) Q6) ?_;intro vs H Q P (S,t,s,wh,rfl,(d,T),e,k);let ag:=e.dr;let ai:=e.mm;let al:=e.sI;let lw:=b_ T.w;let lm:=b_ T.m;delta xb at k;show(S,t,s, -1,J,(d,T),e,Ja,Ja,λv p H1 H2 hv s1 s2 hp R=>?_);let F:=s1.trans s2;let(dv,am,an,V'):=id R;show(V'.top,H1,v,p,_,_,_,J,R,by rw[c6];lia,Jg)
 .rw[ak h]at k;show λz o=>k z _ (F.trans<|aG o) (F.free o) aB
 rw[aj h]at k;let X:=T.to F;show λa ha=>?_;let sa:az H2 (aA H2 a Jx):=aG ha;show(sa _ _ X.top,.inl<|aq.of<|sa _ _ X.wl,_,J,Ja,Ja,pj (λi r L=>∃u,A3 (r=[Y Zm,Y wh,Y Uk,Y Jy,u,O]) (az H2 L)<|L a=Y (.lst (bW ((aQ i).filter λi=>decide (aE QB=aE (aU s (-1))))))) (O,J,sa,aB) ?_ ?_)
 .intro i r H3 hi (u,rfl,x,D);haveI hi:i<s.lags.9:=by rw[<-lw];lia
  let st:=abU (λi=>decide (aE QB=aE (aU s (-1)))) i;let fl:=Gi (λi=>decide (aE QB=aE (aU s (-1)))) i;let B:=X.to x;show(B.top,d.lw,d.vw,i,Jc,B.wl,Ja,Ja,λq H4 c hq=>?_);let f:=B.to c;show(f.top,S,t,s,q,d.lm,_,_,s.lags.eraseIdx i,UT,J,(d,f),e,hq,Nu i f.w,f.ml,f.m,λl P=>e.lags l (OV P),e.marks,λm ms H5 j hM=>?_);let n:=x.trans (c.trans j);let(ac,ae,af,N):=R.to n;show(N.top,abS hM N.gG Jg)
  .rw[ak h]at st;show(.inl (J,_,aq.of ((c.trans j) _ _ D)),(c.trans j) _ _ D,by rw[cP];lia,Y (.int (0+i)),J,bZ n ha,?_);rw[aB,st];simp
  rw[aj h,iu]at st;show(_,J,n,by rw[st];show (c.trans j) _ _ D)
 intro r H3 (u,rfl,x,D);haveI eN:((d.vw.9:Int)).6=s.lags.9:=by rw[lw];lia
 rw[eN]at D;let B:=X.to x;show (λb hb=>?_);let sb:az H3 (aA H3 b Jx):=aG hb;show(sb _ _ B.top,.inl (aq.of (sb _ _ B.ml)),_,J,Ja,Ja,pj (λi r L=>∃u,A3 (r=[Y Zm,Y wh,Y Uk,Y Jy,u,Y WO]) (az H3 L) (L b=Y (.lst (bW ((aQ i).filter λi=>decide Q8))))) (_,J,sb,aB) ?_ ?_)
 .intro i r H4 hi (u,rfl,c,E);haveI hi:i<s.marks.9:=by rw[<-lm];lia
  let st:=abU (λi=>decide Q8) i;let fl:=Gi (λi=>decide Q8) i;let f:=B.to c;show(f.top,f.top,d.lm,d.vm,i,Jc,f.ml,Ja,Ja,λq H5 j hq=>?_);let T5:=f.to j;show(S,t,s,d.lw,q,_,_,UJ,s.marks.eraseIdx i,J,(d,T5),e,T5.wl,T5.w,hq,Nu i T5.m,e.lags,λl P=>e.marks l (OV P),λm ms H6 n hM=>?_);let s8:=c.trans (j.trans n);let(ac,ae,af,N):=R.to (x.trans s8);show(N.top,abS hM N.gG Jg)
  .rw[ak h]at st;show(.inl (J,_,aq.of ((j.trans n) _ _ E)),(j.trans n) _ _ E,by rw[cP];lia,Y (.int (0+i)),J,bZ s8 hb,?_);rw[aB,st];simp
  rw[aj h,iu]at st;show(_,J,s8,by rw[st];show (j.trans n) _ _ E)
 intro r H4 (u,rfl,c,E);haveI eM:((d.vm.9:Int)).6=s.marks.9:=by rw[lm];lia
 rw[eM]at E;let l1:=Gi (λi=>decide (aE QB=aE (aU s (-1)))) Wr;let l2:=Gi (λi=>decide Q8) UU;let ab:=c _ _ D;show(.inl (aq.of ab),λz o=>(aB,(aG o) _ _ ab,by rw[cP];change 1+_<=_;lia,λw hw=>(aB,(aG hw) _ _ ((aG o) _ _ E),by rw[cP,cE];change 1+_+_<=_;lia,λy hy=>k y _ (F.trans (x.trans (c.trans ((aG o).trans ((aG hw).trans (aG hy)))))) (F.free (x.free (c.free ((aG o).free ((aG hw).free hy))))) ?_)));rw[aB];delta zc F6 bW VbdtCore.ints;simp;rfl
inductive Nv K A(vs:Ju) H(Q:VK):Prop|mk S p sc kn M np n i j gap(b:vs=[.ref p,.ref np,.int (de i),.int (de j),.int gap])(c:UP)(d:Qa)(e:iG K A S np n)(f:fM n.lo)(g:fM n.hi)(h:gap.5<=2^100)(k:0<=sc)(l:sc<2^2000)(m:i<=kn.9)(o:j<=kn.9)(q:∀a,az S a->dX K A S a p sc kn (yS kn sc n (gj kn M j i bp) i j gap)->Q .aW a)
def abV(a:Jn) H:cS Jj H (.ref A.gw) bp:=(_,J,a.qK H)
def aoC(a:Jn):aK g 4 137 (Nv Jj A):=by show aK.rd a 5 [1,0] (fc (aam a)<|mc a.iC.cl (wQ a) fz) (ay (cG<|c5 ZO "tighten" 4 YG Ji<|U JC<|U Jv<|U Zu aa)<|cG<|aN 5 (Mc Jj A)<|U Ji<|U Jl<|U Jv<|U JC ZY) ?_;intro vs H Q w (S,p,sc,kn,M,np,n,i,j,gap,rfl,c,T,d,e,f,h,l,m,hi,b,k);let(x,y,r,z,o):=id T;show(o.top,S,p,sc,kn,M,j,i,_,_,J,c,T,b,hi,abV a _,λB q C s=>(S,p,sc,kn,_,np,n,i,j,gap,J,q,s,d,e,f,h,l,m,hi,b,λt u v=>k t u v))
inductive abW K A(vs:Ju) H(Q:VK):Prop|mk S p sc kn M np n i j(b:vs=[.ref p,.ref np,.int (de i),.int (de j)])(c:UP)(d:Qa)(e:iG K A S np n)(f:fM n.lo)(g:fM n.hi)(h:0<=sc)(k:sc<2^2000)(l:i<=kn.9)(m:j<=kn.9)(o:∀a,az S a->dX K A S a p sc kn (gj kn (gj kn M i j (fq sc n 0)) j i (fq sc n 0))->Q .aW a)
def aoD(a:Jn):aK g 3 138 (abW Jj A):=by show aK.rd a 5 [1,9,0,0] (mc a.iC.cl (wQ a)<|fc (Mb a) fz) (ay (aP (aN 3 (wR Jj A fq)<|U Jl<|U Jf<|U Ub aa) UN)<|ay (cG<|c5 ZO "tighten" 4 YG Ji<|U Jv<|U JC ZY)<|cG<|c5 ZO "tighten" 4 YG Ji<|U JC<|U Jv ZY) ?_;intro vs H Q D (S,p,sc,kn,M,np,n,i,j,rfl,b,T,l,m,o,q,s,hi,c,k);let(E,F,r,L,t):=id T;show(t.top,np,n,0,sc,J,l.sm b,m,o,Je,q,s,λv N d e=>?_);let f:=T.to d;let(P,R,r1,X,u):=id f;show(u.top,S,p,sc,kn,M,i,j,v,_,J,b.trans d,f,hi,c,e,λH2 w x h=>?_);let(ab,ac,r2,ae,y):=id h;show(y.top,S,p,sc,kn,_,j,i,v,_,J,w,h,c,hi,e.to x,λz B K C=>k z B C)
inductive abX K A(vs:Ju) H(Q:VK):Prop|mk S b p sc kn M t s e k c(d:vs=[.ref p,.ref t,.int ((e:JD):Int),.int ((k:JD):Int),.int c])(f:UP)(g:Qa)(h:c9 K A b S t s)(i:J6)(j:0<=sc)(l:sc<2^2000)(m:kn.9=Jb)(n:e<Jb)(o:Wy)(q:0<=c)(r:c<=Jk)(u:∀a,az S a->dX K A S a p sc kn (tq s kn sc e k c M Jb)->Q .aW a)
def aoE(q:Jn):aK g 5 139 (abX Jj A):=by
 show aK.rd q 8 [0,8,3,8,0,4,0,4,3,0,0,4,1,0,4,0,4,1,0,4,2] (mc q.iC.cl (wQ q)<|fc (aoC q)<|fc (aoD q) fz) (ay (aP (ah Jq (aD A.bT Jl "nodes") JC) Ww)<|dc (jc Jj<|U (aD A.bT Jl "events") aa) (gC Jj 2<|cX (aC 6)<|cX (aC 7) gB)<|ay (a_ (aY<|ah iS (aD WX (Z 7) "node") JC) AD ba)<|a_ (aY<|ah iS (aD WX (Z 7) "run")<|aD A.gF Q6 "cuts") (cG<|c5 ZO "tighten" 4 YG Ji<|U Jv<|U W6<|U Zu aa)<|a_ (aY<|ah QO (aD WX (Z 7) "reading") Qi) (cG<|aN 5 (Nv Jj A)<|U Ji<|U Q6<|U W6<|U Jv<|U (ah Q4 Qi<|aD WX (Z 7) "reading") aa)<|a_ (aY<|ah Wq (aD WX (Z 7) "reading") Qi) (cG<|aN 5 (Nv Jj A)<|U Ji<|U Q6<|U Jv<|U W6<|U (ah Q4 (aD WX (Z 7) "reading") Qi) aa)<|cG<|aN 4 (abW Jj A)<|U Ji<|U Q6<|U W6 Qg) ?_;intro vs H Q hl (S,S0,p,sc,kn,M,t,s,e,k,c,rfl,v,T0,(d,T),so,D,E,am,he,hk,an,hc,kk);obtain⟨n,F⟩:∃n,s.7[k]?=Y n:=(_,cy hk);let(pn,ab,w):=eS T.n F;let rt:=so.rt n<|bM F;show(v _ _ Qm,aq.of<|v _ _ YY,dI (by rw[c8,ab];rfl),v _ _ Qm,d.le,_,J,aq.of<|v _ _ Y7,lh (λi B L=>E2 λN P=>A3 (B=[Y JS,Y Zm,Y<|.int e,Y<|.int k,Y<|.int c,Y<|.ref pn,N,P]) (az S L)<|dX Jj A S L p sc kn<|tq s kn sc e k c M i) (O,O,J,v,T0) (λi B L _ (_,_,_,s1,_)=>aq.of<|s1 _ _ Y7) ?_ ?_)
 .intro j y B C Tp hy (N,P,rfl,R,St) ac;let(z,X,pz,dz,rfl,r):=d7 T.e hy;let hj:=(cU.1 X).1;let ae:=nu X;let nT:az C (aA C Tp<|.tup [.int j,.ref pz]):=aG ac;let a:=R.trans nT;let u:=St.to nT;let st:=anv s kn sc e k c M j;let ao:=(so.ev z (bM X)).2.1;delta F7 at st;erw[ae,(uS F)]at st;show(a _ _ r,Jg)
  .let h:z.node≠k:=by
    intro e;subst e;simp at h
   rw[ak h]at st;show(_,_,J,a,by rw[st];show u)
  let h:z.node=k:=by
   lia
  rw[aj (λx=>x h)]at st;let(dn,nm,ap,ar,n1):=id (w.sm a);let af:(c-(z.11:Int)).5<=2^100:=by
   let e2:Jk<=(2:Nat)^100:=Je
   generalize (2:Nat)^100=ag at*
   lia
  let ai:((z.11:Int)-c).5<=2^100:=by
   let e2:Jk<=(2:Nat)^100:=Je
   generalize (2:Nat)^100=ag at*
   lia
  show(a _ _ r,n1,aT (λb=>?_) λb=>?_)
  .let b:z.10≠n.10:=by
    intro e;rw[e]at b;simp at b
   rw[ak b]at st;let(dp,kA,rr,rs,al):=id u;show(al.top,S,p,sc,kn,_,J5,Q7,_,_,by simp[de],a,u,Ja,Ja,abV q _,λH5 f K l=>(_,_,J,f,by rw[st];show l))
  let b:z.10=n.10:=by
   let:((z.10:Nat):Int)=((n.10:Nat):Int):=by exists b
   lia
  rw[aj (λx=>x b)]at st;show⟨a _ _ r,(aT (λm=>?_) λm=>?_)⟩
  .let m:(z.11:Int) <c:=cV m;rw[ak m]at st;show(a _ _ r,S,p,sc,kn,_,pn,n,Q7,J5,_,by simp[de],a,u,w,rt.1,rt.2.1,af,D,E,Ja,Ja,λH5 f l=>(_,_,J,f,by rw[st];show l))
  let m:¬(z.11:Int) <c:=λx=>m (cn x)
  rw[aj m]at st;show⟨a _ _ r,(aT (λo=>?_) λo=>?_)⟩
  .let o:c<(z.11:Int):=cV o;rw[ak o]at st;show(a _ _ r,S,p,sc,kn,_,pn,n,J5,Q7,_,by simp[de],a,u,w,rt.1,rt.2.1,ai,D,E,Ja,Ja,λH5 f l=>(_,_,J,f,by rw[st];show l))
  let o:¬c<(z.11:Int):=λx=>o (cn x)
  rw[aj o]at st;show(S,p,sc,kn,_,pn,n,Q7,J5,by simp[de],a,u,w,rt.1,rt.2.1,D,E,Ja,Ja,λH5 f l=>(_,_,J,f,by rw[st];show l))
 intro B C (N,P,rfl,R,St);rw[(b_ T.e)]at St;show kk C R St
def fh(a:Up)(H:Hp):Hp:=λb=>if b∈a then O else H b
def Gj a H:az (fh a H) H:=λb u e=>by delta fh at e;lia
def Nw(a:UP)(c:∀b∈d,S b=O):az S (fh d H):=λb u e=>by delta fh;rw[aj λh=>by rw[c b h]at e;cases e];show a b u e
inductive aoF K A(vs:Ju) H Q:Prop|mk S t s wh e k c(a:vs=[.ref t,.ref wh])(b:JO)(d:J6)(f:H wh=Y (.lst [.int ((e:JD):Int),.int ((k:JD):Int),.int ((c:JD):Int)]))(g:e<Jb)(h:Wy)(i:c<=Jk)(j:iD H (xf s e k c) Q)
def aoG(f:Jn):aK g 7 140 (aoF Jj A):=by
 show aK.rd f 3 [3,1,2,10,0,0,0,1,0,10] (kc (BV f)<|mc f.jf.cl (sV f)<|fc (aoE f)<|fc (oz f) fz) (ay (aP (aN 2 (mn Jj A)<|U Ji<|U Q0 aa) QQ)<|ay (a_ (tB<|c5 Z3 "contradicts" 1 YH Jv aa) ZH ba)<|ay (cG<|aN 5 (abX Jj A)<|U (aD Z3 Jv "steps")<|U Ji<|U Qo<|U JZ<|U JV aa)<|aH<|rZ (tB<|c5 Z3 "contradicts" 1 YH (fJ (yX Jj A)<|U (aD Z3 Jv "steps") aa) aa) Zh<|bx<|U Jh aa) ?_;intro vs H Q hl (S,t,s,wh,e,k,c,rfl,T,n,u,he,F,hc,a);let ae:=n.dr;let L:=WA;let(N,P):=FF n;delta xf at a;show(S,t,s, -1,J,T,n,Ja,Ja,λv p R o hv w y hp B=>?_);let j:=w.trans y;let(X,al,af,l):=id B;show(l.top,R,v,p,_,_,_,J,B,by rw[c6];lia,Jg)
 .rw[ak h]at a;show λz d=>a z _ (j.trans WB) (j.free d) aB
 rw[aj h]at a;let(dp,kA,r,m,St):=id l.st;let x:=Nw y St.fr;haveI vS:fh m o v=Y (.ins Z3 X<|aau p al):=by
  delta fh;rw[aj]
  .show l.top
  intro ab;let(i,hi):=kL ab;let(row,_,vs,C):=d7 St.gG.rows hi;rw[l.top]at C;cases C
 show(l.top,aq.of<|j _ _ u,J,aq.of<|j _ _ u,J,aq.of<|j _ _ u,J,fh m o,S,p,_,_,_,t,s,e,k,c,J,Gj m o,(dp,kA,r,m,St.top,x _ _ St.hk,St.gG,(λb hb=>by delta fh;rw[ak hb]),St.sq,St.len),T.to<|w.trans x,n,N,P,L,he,F,Ja,Ja,λH4 D ac=>(D _ _ vS,fh m o,p,_,_,_,J,ac,Ja,λv2 H5 ag s5 E=>?_));let(ai,am,an,V5):=id E;let q:=w.trans<|x.trans<|D.trans s5;show(V5.top,_,v2,p,_,_,_,J,E,Ja,Jg)
 .rw[ak h]at a;show λz d=>a z _ (q.trans WB) (q.free d) aB
 rw[aj h]at a;show λz d=>a z _ (q.trans WB) (q.free d) aB
inductive abY K A vs H(Q:VK):Prop|mk S t s v x e(b:vs=[.ref t,v,.int ((e:JD):Int)])(c:JO)(d:J6)(f:uR K A H v x)(g:WY<Jb)(h:Wo<=Jk)(i:e<Jb)(j:∀a,az H a->Q (.bl (u9 s x e)) a)
def aoH(a:Jn):aK g 7 141 (abY Jj A):=by
 show aK.rd a 4 [3,0,2,7,0,0,1,7,0,7,9,10] (fc (Mr a)<|mc a.jf.cl (Mp a)<|fc (uY a)<|fc (oz a) fz) (ay (aP (aN 2 (mn Jj A)<|U Ji Qg) Zx)<|ay (a_ (aY<|ah QO (aN 2 (qQ Jj A)<|U JC<|U (bx<|U (aD A.kr Jl "event") aa) aa) Jf) WJ ba)<|aH<|ah dR (aN 2 (FL Jj)<|U (c5 Z3 "bounds_between" 3 (FK Jj A) JC<|U (aD A.kr Jl "event") Qg)<|U (ah Qp (aD A.kr Jl "life")<|aD ZO WM "scale") aa)<|tC<|.int<|2) ?_;intro vs H Q X (S,t,s,vx,x,e,rfl,T,c,(px,ab,nm,rfl,d,ac),ae,D,he,k);let af:=c.dr;let ag:=c6 s e;delta u9 at k;show(S,t,s,e,J,T,c,Ja,Ja,λv p n H2 hv E u hp w=>?_);let f:=E.trans u;show(f _ _ d,λq b=>(n,v,p,_,_,_,q,[WY],J,u.trans<|aG b,w.to<|aG b,Ja,aq.of aB,?_,Jg))
 .intro y i;rw[fZ.1 i];lia
 .let h:dA s e [WY] <0:=WI;rw[ak h]at k;show k _<|f.trans<|aG b
 let h:¬dA s e [WY] <0:=Zj
 rw[aj h]at k;let B:=aG (o:=.lst [V.int WY]) b;let j:=f.trans B;let l:=w.to B;let(dx,al,ai,F):=id l;show(F.top,j _ _ d,n,v,p,_,_,_,QC,J5,by simp[de],l,Ja,Ja,λy H5 m i=>?_);let(am,an,ao,C):=l.to m;let(dp,kA,r,rs,L):=C.st;show((j.trans m) _ _ d,C.top,L.top,(yV D,FY c),y,_,_,_,J,i,λN P=>?_);let:=k N<|j.trans<|m.trans P;haveI R:decide (V.int (lH (iF<|aF (aE<|gO s (dU s e) []) J5 QC) (aF (aE<|gO s (dU s e) []) QC J5)<|Wo*((bQ s.7:Nat):Int))=V.int 2)=decide (lH (iF<|aF (aE<|aU s e) J5 QC) (aF (aE<|aU s e) QC J5) (Wo*(aM s:JH))=2):=by
  rw[nO,Hg,Hg];show(λh=>V.int.inj h,λh=>by rw[h])
 rwa [<-R]at this
inductive aoI K A(vs:Ju) H Q:Prop|mk S t s wh i x k(a:vs=[.ref t,.ref wh])(b:JO)(c:J6)(d:H wh=Y (.lst [.int ((i:JD):Int),.int ((k:JD):Int)]))(e:Qk[i]?=Y x)(f:Wy)(g:iD H (xg s x k) Q)
def aoJ(h:∀i,i<n->p i=au):(aQ n).find? p=O:=by ext
def aoK(a:j<n)(b:p j=I)(h:∀i,i<j->p i=au):(aQ n).find? p=Y j:=by ext
def aoL(B:Jn):aK g 8 142 (aoI Jj A):=by
 show aK.rd B 4 [3,8,0,4,0,0,0,8,0] (fc (aoH B) fz) (ay (dc (jc Jj<|U J3 aa) (gC Jj 2<|cX QQ<|cX Zx gB)<|a_ (jb (aY<|ah dR (aD WX JC "node") JZ)<|tB<|aN 3 (abY Jj A)<|U Ji<|U (ah Jq ZX Qo) Qg) (aH<|bx<|U Jh Qg) ba)<|aH Zh) ?_;intro vs H Q hl (S,t,s,R,i,x,k,rfl,(d,T),C,D,E,hk,c);let(X,ji,iE):=C.pc x<|bM E;let(vx,ab,P0):=eS T.p E;delta xg at c;show(Qm,d.le,_,J,aq.of Y7,lh (λj l F=>E2 λn o=>A3 (l=[Y Zm,Y<|.ref R,n,o]) (az H F) (∀e,e<j->(decide ((aI s e).node=k)&&u9 s x e)=au)) (O,O,J,QT,λe he=>absurd he Ja) (λi l F _ (_,_,_,s1,_)=>aq.of<|s1 _ _ Y7) ?_ ?_)
 .intro j y l p Tp hy (n,o,rfl,m,b) ac;let(z,L,pz,dz,rfl,ae):=d7 T.e hy;let N:=(cU.1 L).1;let P:=nu L;let nT:az p (aA p Tp<|.tup [.int j,.ref pz]):=aG ac;let a:=m.trans nT;let q:=T.to a;show(a _ _ ae,aq.of<|a _ _ D,J,Jg)
  .haveI h:z.node=k:=by
    lia
   show(q.top,aq.of<|a _ _ D,J,aq.of q.pl,dI ab,S,t,s,vx,x,j,J,(d,q),C,P0.to (λK K K e=>a _ _ e)<|cg a,X,iE,N,λH5 r=>aT (λu=>?_) λu=>?_)
   .rw[aoK N (by rw[P,h,u];simp) b]at c;show λw f=>c w _ ((a.trans r).trans<|aG f) ((a.trans r).free f) aB
   show(_,_,J,a.trans r,λe he=>?_);cases v:e=j
   .subst v;haveI:u9 s x e=au:=by exists u
    rw[this,PD]
   show b e Ja
  haveI h:¬z.node=k:=by
   intro e;subst e;simp at h
  show(_,_,J,a,λe he=>?_);cases v:e=j
  .subst v;rw[P,iK h,Hu]
  show b e Ja
 intro l p (n,o,rfl,m,b);rw[b_ T.e]at b;rw[aoJ b]at c;show λw f=>c w _ (m.trans<|aG f) (m.free f) aB
def aoM(E:Jn):bI g 1 "answer_told" ["told","wholes"] (abT Jj A B6):=by
 show bI.of (E.f 75) EJ akh (aki E) ?_;intro vs H Q X (S,t,s,F,rfl,(d,T),so,k);show(Qm,Qm,Qm,Qm,Qm,Qm,λa L=>?_);let h:=aG (o:=Z6) L;let q:=aB (H:=H) (a:=a) (o:=Z6);generalize aA H a Z6=r at h q⊢;show(a,J,(_,bR.of q),λD u=>ahL (λj v=>az r v/\v D=Y (.lst<|([d.ns.9,d.ve.9,d.vw.9,d.vm.9,d.vp.9,d.vl.9].take j).map λ(n:Nat)=>V.int n)) (aG u,aB) (λi v _ (N,_)=>bR.of<|N _ _ q) ?_ ?_)
 .intro i x e c (m,w);haveI key:∀b n l,x=.ref b->e b=Y (.lst l)->l.9=n->[d.ns.9,d.ve.9,d.vw.9,d.vm.9,d.vp.9,d.vl.9][i]?=Y n->i<6->aC 3 x (cD [Y Zm,Y F,Y Jy,O] [3]) e λz e=>cD z [3]=cD [Y Zm,Y F,Y Jy,O] [3]/\k9 z e λb B=>if b=I then (bA Qb Zo) z B λy C=>∃p,C D=Y (.lst p)/\p.9<cz/\(az r (aA C D<|.lst<|p++[y])/\aA C D (.lst<|p++[y]) D=Y (.lst<|([d.ns.9,d.ve.9,d.vw.9,d.vm.9,d.vp.9,d.vl.9].take JK).map λ(n:Nat)=>V.int n)) else (az r B/\B D=Y (.lst<|([d.ns.9,d.ve.9,d.vw.9,d.vm.9,d.vp.9,d.vl.9].take JK).map λ(n:Nat)=>V.int (n:JH))):=by
   intro b n l ex P R hi h6;subst ex;show(J,uV (.inl<|aq.of P,_,w,?_,bZ m u,?_))
   .rw[bz,oQ,cP];change min i 6<_
    lia
   rw[aB,take_snoc hi,R];simp
  let f:=(T.to h).to m;match i,c with
  |0,c=>show key d.ln _ _ (bt c).3 f.nl Jc J Ja
  |1,c=>show key d.le _ _ (bt c).3 f.el J J Ja
  |2,c=>show key d.lw _ _ (bt c).3 f.wl J J Ja
  |3,c=>show key d.lm _ _ (bt c).3 f.ml J J Ja
  |4,c=>show key d.lp _ _ (bt c).3 f.pl J J Ja
  |5,c=>show key d.ll _ _ (bt c).3 f.ll J J Ja
  |i+6,c=>simp at c
 intro e (m,w);apply k D e (h.trans m)<|h.free u;rw[w,b_ T.n,b_ T.e,b_ T.w,b_ T.m,b_ T.p,b_ T.l];rfl
inductive iq(s:bX):Nat->List Int->List Int->List Int->Prop|bounds{g:JH}{e f:JD}{row:Jw}(h1:Um)(h2:Jz)(he:e<Jb)(hf:f<Jb):iq s 5 [g,(e:JH),(f:JH)] row (y8 s g e f)|chain{g:JH}{e f:JD}{row:Jw}(h1:Um)(h2:Jz)(he:e<Jb)(hf:f<Jb):iq s 6 [g,(e:JH),(f:JH)] row (y9 s g e f)|shows{g:JH}{row:Jw}(h1:Um)(h2:Jz):iq s 7 [g] row (wX s g row)|order{g:JH}{e f:JD}{row:Jw}(h1:Um)(h2:Jz)(he:e<Jb)(hf:f<Jb):iq s 8 [g,(e:JH),(f:JH)] row (y_ s g e f)|clash{g:JH}{row:Jw}(h1:Um)(h2:Jz):iq s 9 [g] row (wY s g)|liars{row:Jw}:iq s 10 [] row (wZ s)|life{g:JH}{i f:JD}{x:js}{row:Jw}(h1:Um)(h2:Jz)(hx:Qk[i]?=Y x)(hf:f<Jb):iq s 11 [g,(i:JH),(f:JH)] row (w6 s g x f)|age{i k c:JD}{x:js}{row:Jw}(hx:Qk[i]?=Y x)(hk:Wy)(hc:c<=Jk):iq s 12 [(i:JH),(k:JH),(c:JH)] row (u7 s x k c)|over{i k:JD}{x:js}{row:Jw}(hx:Qk[i]?=Y x)(hk:Wy):iq s 13 [(i:JH),(k:JH)] row (qV s x k)|living{i k:JD}{x:js}{row:Jw}(hx:Qk[i]?=Y x)(hk:Wy):iq s 14 [(i:JH),(k:JH)] row (qW s x k)|world{g:JH}{row:Jw}(h1:Um)(h2:Jz):iq s 15 [g] row (w9 s g)|pinned{g:JH}{e f:JD}{b:bU}(h1:Um)(h2:Jz)(he:e<Jb)(hf:f<Jb)(hb:∀c∈b,c<=255)(hl:b.9<=2000):iq s 16 [g,(e:JH),(f:JH)] Qj (w_ s g e f b)|clock{g:JH}{e:JD}{row:Jw}(h1:Um)(h2:Jz)(he:e<Jb):iq s 17 [g,(e:JH)] row (xa s g e)|past{e:JD}{row:Jw}(he:e<Jb):iq s 18 [(e:JH)] row (B5 s e)|needless{row:Jw}:iq s 19 [] row (xb s)|could{e k c:JD}{row:Jw}(he:e<Jb)(hk:Wy)(hc:c<=Jk):iq s 20 [(e:JH),(k:JH),(c:JH)] row (xf s e k c)|learned{i k:JD}{x:js}{row:Jw}(hx:Qk[i]?=Y x)(hk:Wy):iq s 21 [(i:JH),(k:JH)] row (xg s x k)|told{row:Jw}:iq s 22 [] row (B6 s)
abbrev aoN(a:JH)(b rw:ax):List QD:=[(aZ "number",(.int a)),(aZ "wholes",(.ref b)),(aZ "row",(.ref rw))]
structure zi(A:Ad)(H:Hp)(c wh rw:ax)(nb:JD)(ws row:Jw):Prop where
 top:∃dx,H c=Y (.ins A.fK dx<|aoN nb wh rw)
 wh:H wh=Y (.lst<|bJ ws)
 rw:H rw=Y (.lst<|bJ row)
def zi.to{a rw}(T:zi A H c a rw b d row)(s:az H e):zi A e c a rw b d row:=by let((f,g),h,i):=T;show((f,s _ _ g),s _ _ h,s _ _ i)
inductive Gk K A T lo hi(vs:Ju) H Q:Prop|mk S t s c wh rw nb ws row a(b:vs=[.ref t,.ref c])(d:qS T H)(e:JO)(f:J6)(g:zi A H c wh rw nb ws row)(h:iq s nb ws row a)(i:lo<=nb)(j:nb<hi)(k:iD H a Q)
def aoO(b:bU):bJ Qj=cO b:=(lB b).3
abbrev abZ(g:G)(A:Ad):=aH<|qF g 7 (ah JN (tC<|.ref A.Kz)<|ah Q4 QF<|tC<|.int<|5)<|U Ji<|U Z5<|U (aD A.fK Jl "row") aa
def aoP(d:Jn)(F:Uc):aK g 8 172 (Gk Jj A Tb' 5 12):=by
 show aK.rd d 2 [1,0,0,0,0] fz (abZ g A) ?_;intro vs H Q hl (S,t,s,c,e,rw,m,ws,row,ab,rfl,n,T,h,((dx,l),j,o),ask,h5,ac,k);let(p,f1,f2,r,u,v,w,y,z,B,C,D,E,L,N):=d.T7;let go:∀{f:ax}{x:Str}{q:Sq},jw [V.ref p,.ref f1,.ref f2,.ref r,.ref u,.ref v,.ref w] (m-5)=Y J7->qC g 7 f ["told","wholes","row"] q->q [.ref t,.ref e,.ref rw] H Q->abZ g A Yy (stN 2 [V.ref t,V.ref c]) H:=by
  intro f x q P R X;show(l,y H,P,f,_,q,J,R,l,l,J,X)
 cases ask with|bounds a b he i=>show go (x:="answer_bounds") J ((amI d).at z) (S,t,s,e,_,_,_,_,J,T,h,j,a,b,he,i,k)|chain a b he i=>show go (x:="answer_chain") J ((amJ d).at B) (S,t,s,e,_,_,_,_,J,T,h,j,a,b,he,i,k)|shows a b=>show go (x:="answer_shows") J (((amR d).mono Jc).at C) (S,t,s,e,rw,_,_,J,T,h,j,o,a,b,k)|order a b he i=>show go (x:="answer_order") J ((amM d).at D) (S,t,s,e,_,_,_,_,J,T,h,j,a,b,he,i,k)|clash a b=>show go (x:="answer_clash") J ((amS d).at E) (S,t,s,e,_,_,J,T,h,j,a,b,k)|liars=>show go (x:="answer_liars") J ((amV d F).at L) (S,t,s,_,_,J,n,T,h,k)|life a b hx i=>show go (x:="answer_life") J ((amX d).at N) (S,t,s,e,_,_,_,_,_,J,T,h,j,a,b,hx,i,k)|_=>lia
def aoQ(b:Jn):aK g 8 198 (Gk Jj A Tb' 15 18):=by
 show aK.rd b 2 [1,0,0,0,0] fz (aH<|qF g 7 (ah JN (tC<|.ref A.KC)<|ah Q4 QF<|tC<|.int<|15)<|U Ji<|U Z5<|U (aD A.fK Jl "row") aa) ?_;intro vs H Q r (S,t,s,c,f,rw,u,v,row,w,rfl,x,T,h,((y,a),i,l),ask,z,B,k);let(m,f1,f2,j,n,o,p):=b.T9;cases ask with
 |world d e=>show(a,j H,J,m,_,_,J,(anf b).at n,a,a,J,S,t,s,f,_,_,J,T,h,i,d,e,k)
 |pinned d e he q C D=>
  rw[aoO]at l;show(a,j H,J,f1,_,_,J,(ano b).at o,a,a,J,S,t,s,f,rw,_,_,_,_,J,T,h,i,l,Ja,d,e,he,q,k)
 |clock d e he=>show(a,j H,J,f2,_,_,J,(anu b).at p,a,a,J,S,t,s,f,_,_,_,J,T,h,i,d,e,he,k)
 |_=>lia
def aoR(b:Jn):aK g 9 146 (Gk Jj A Tb' 18 23):=by show aK.rd b 2 [1,0,0,0] fz (aH<|qF g 8 (ah JN (tC<|.ref A.Ky)<|ah Q4 QF<|tC<|.int<|18)<|U Ji<|U Z5 aa) ?_;intro vs H Q w (S,t,s,c,f,rw,x,y,row,z,rfl,B,T,d,((C,a),h,D),ask,E,F,k);let(j,f1,f2,l,m,e,n,o,p,q,r):=b.TZ;cases ask with|past he=>show(a,e H,J,j,_,_,J,((aot b).mono Jc).at n,a,J,S,t,s,f,_,J,T,d,h,he,k)|needless=>show(a,e H,J,f1,_,_,J,((aoB b).mono Je).at o,a,J,S,t,s,_,J,T,d,k)|could he i u=>show(a,e H,J,f2,_,_,J,((aoG b).mono Je).at p,a,J,S,t,s,f,_,_,_,J,T,d,h,he,i,u,k)|learned v i=>show(a,e H,J,l,_,_,J,(aoL b).at q,a,J,S,t,s,f,_,_,_,J,T,d,h,v,i,k)|told=>show(a,e H,J,m,_,_,J,((aoM b).mono Jc).at r,a,J,S,t,s,_,J,T,d,k)|_=>lia
def bK(a:JD):List Nat:=([[],[],[],[],[],[103,101,102],[103,101,102],[103],[103,101,102],[103],[],[103,112,102],[112,105,99],[112,105],[112,105],[103],[103,101,102],[103,101],[101],[],[101,105,99],[112,105],[]]:List ZR).getD a []
def dY(a:JD):Nat:=([0,1,1,1,0,0,0,2,0,0,0,0,0,0,0,0,1,0,0,0,0,0,0]:List Nat).getD a 0
def ab0(h:ka p=Y (n,(k))):∃a:Nat,p=a/\a<23/\n=(bK a).9/\k=(if dY a=0 then 0 else 1):=by
 let key:∀a:Nat,a<23->ka a=Y ((bK a).9,(if dY a=0 then 0 else 1)):=Je
 let c:¬(0<=p/\p<23)->ka p=O:=by
  intro e;delta ka;rw[aj Ja,aj Ja,aj Ja,aj Ja,aj Ja,aj Ja,aj Ja,aj Ja,aj Ja,aj Ja,aj Ja,aj Ja,aj Ja,aj Ja,aj Ja,aj Ja,aj Ja,aj Ja,aj Ja,aj Ja,aj Ja,aj Ja,aj Ja]
 cases d:0<=p/\p<23
 .obtain⟨m,rfl⟩:∃m:Nat,p=(m:JH):=(p.6,Ja);let b:m<23:=by lia
  rw[key m b]at h;cases h;show(m,J,b,J,J)
 rw[c d]at h;cases h
abbrev qX:=Nat×List Int×List Int
def gP(c:List Jw):qX:=match c with
 |[p::a]=>(p.6,a,([]))
 |[p::a,r]=>(p.6,a,(r))
 |b=>(0,[],([]))
def Ca(c:JD):Int×Int:=if c=103 then (-1,(19)) else if c=101 then (0,(19)) else if c=102 then (0,(19)) else if c=112 then (0,(9)) else if c=105 then (0,(5)) else (0,(Jk))
def oF c w:=decide<|(Ca c).1<=w/\w<=(Ca c).2
def nB(s:bX) c w:=if c=112 then decide (w<(s.parcels.9:Int)) else if c=105 then decide (w<(s.nodes.9:Int)) else (decide (c=99)||decide (w<(s.events.9:Int)))
def bV s(x:qX):=
 if (((bK x.1).zip x.2.1).any λy=> !oF y.1 y.2)=I then -3
 else if dY x.1=1/\(x.2.2.any λc=>decide (c<0)||decide (255<c))=I then -1
 else if (((bK x.1).zip x.2.1).any λy=> !nB s y.1 y.2)=I then -5 else 0
abbrev fO(l:ZR):Str:=⟨l.toArray⟩
def zj a:=if dY a=0 then aZ "" else if dY a=1 then aZ "text" else aZ "points"
def ls2:aZ "g"=fO [103]:=by rfl
def ls7:aZ "e"=fO [101]:=by rfl
def aoS:∀a<23,Bg[a]?=Y (fO<|bK a,(zj a)):=by decide +kernel
def ab1(c:Jn):∃l:List ax,TupAt Jj A.yu (l.map Qv)/\∀b,b<23->∃a,(l.map Qv)[b]?=Y Jy/\TupAt Jj a [.str<|fO Yz,.str<|zj b]:=by let(l,d,h):=c.TU;show(l,d,λb f=>?_);let(a,e):=h b _<|aoS b f;ext
abbrev ab2(A:Ad):Sq:=U8
def aoT(b:Jn):dP g 1 "Call" A.fK ["self","number","wholes","row"] (ab2 A):=by
 show dP.rd b b.KI.at_ 4 [0,0,0] fz (ay (cJ A.fK Ji Jl "number")<|ay (cJ A.fK Ji Jv "wholes")<|cJ A.fK Ji JC "row") λvs H Q h x c a d f=>?_
 let(e,k):=h;let(v0,v1,i,rfl):=A0 e;show QI;rw[aB];rfl
def Ny c:=c=103\/c=101\/c=102\/c=112\/c=105\/c=99
def aoU:∀a,a<23->∀c∈bK a,Ny c:=by delta Ny;decide
inductive ab3(vs:Ju) H(Q:VK):Prop|mk c w(a:vs=[.str (fO [c]),.int w])(b:Ny c)(d:Q (.bl (oF c w)) H)
def lf:aZ "f"=fO [102]:=by rfl
def lp:aZ "p"=fO [112]:=by rfl
def li:aZ "i"=fO [105]:=by rfl
def lc:aZ "c"=fO [99]:=by rfl
def zk{l:List (Str×ax)}(h:l.lookup k=Y a):(l.map λx=>(x.1,(V.ref x.2))).lookup k=Y Jy:=by
 induction l with
 |nil=>cases h
 |cons x l b=>
  rw[hY,p9];rw[p9]at h;induction e:k==x.1<;>ext
def aoV(b:Jn):bI g 1 "is_in_range" ["letter","whole"] ab3:=by
 let(l,m,B,(n,g1,g2),(o,d,p),(q,f1,f2),(ap,e,r),(s,f,t),u,i,v):=b.TV;show bI.of (b.f 1) VU ajU (ajV b m) ?_;intro vs H Q C (c,w,rfl,y,k);obtain⟨a,z,j⟩:∃a,(l.map λx=>(x.1,V.ref x.2)).lookup (fO [c])=Y Jy/\TupAt Jj a [.int (Ca c).1,.int (Ca c).2]:=by
  rcases y with rfl|rfl|rfl|rfl|rfl|rfl
  .show(n,zk (by rw[ls2]at g1;show g1),g2)
  .show(o,zk (by rw[ls7]at d;show d),p)
  .show(q,zk (by rw[lf]at f1;show f1),f2)
  .show(ap,zk (by rw[lp]at e;show e),r)
  .show(s,zk (by rw[li]at f;show f),t)
  show(u,zk (by rw[lc]at i;show i),v)
 delta oF at k;show(_,_,J,J,z,j H,J,Jg)
 .let h:(Ca c).1<=w:=WI;show(j H,J,?_);ext
 lia
inductive Nz K A(vs:Ju) H(Q:VK):Prop|mk S t s c w(a:vs=[.ref t,.str (fO [c]),.int w])(b:JO)(d:Q (.bl (nB s c w)) H)
def zm:decide (V.str (fO [a])=V.str (fO [b]))=decide (a=b):=Jc
abbrev ab4(g:G)(A:Ad):=aH<|vU (ah dR Jl<|tC<|.str "c")<|ah QO Jv<|bA Qb<|U J3 aa
abbrev ab5(g:G)(A:Ad):=ay (a_ (aY<|ah dR Jl<|tC<|.str "i") (aH<|ah QO Jv<|bA Qb<|U JU aa) ba)<|ab4 g A
abbrev ab6(g:G)(A:Ad):=ay (a_ (aY<|ah dR Jl<|tC<|.str "p") (aH<|ah QO Jv<|bA Qb<|U ZX aa) ba)<|ab5 g A
def aoW(a:Jn):aK g 1 16 (Nz Jj A):=by
 show aK.rd a 3 [0,0,90,8,0,0,90,8,0,0,90,8] fz (ab6 g A) ?_;intro vs H Q b (S,t,s,c,w,rfl,(d,T),k);delta nB at k;erw[ab6,ab4,ab5,lp,li,lc];show aT J4 λh=>?_
 .rw[zm]at h;rw[ak WI,<- (b_ T.p)]at k;show(Qm,.inl<|aq.of T.pl,k)
 rw[zm]at h;rw[aj λx=>h<|cn x]at k;show aT J4 λh=>?_
 .rw[zm]at h;rw[ak WI,<- (b_ T.n),<- (bz ..)]at k;show(Qm,.inl<|aq.of YY,k)
 rw[zm]at h;rw[aj λx=>h<|cn x,<- (b_ T.e)]at k;show aT J4 λh=>?_
 .rw[zm]at h;rwa [h,auX]at k
 rw[zm]at h;haveI h:decide (c=99)=au:=by exists h
 rw[h]at k;show(Qm,.inl<|aq.of Y7,k)
def ab7{K}{o:TS}{D:jU}(Pv:Nat->L2.St->Hp->Prop)(t:Pv 0 a H)(u:∀i a H,i<=min WT d.9->Pv i a H->aq K H b d)
  (v:∀i c y a H T,z.cps.toList[i]?=Y c->d[i]?=Y y->Pv i a H->H T=O->o {D with nx:=Pv JK,ct:=Pv JK,bk:=D.nx} ((a.set p<|Y<|.str<|fO [c]).set q<|Y y) (aA H T<|.tup [.str<|fO [c],y])) (hd:∀a H,Pv (min WT d.9) a H->D.nx a H):
  ∃f:Nat->Nat->L2.St->Hp->Prop,(∃m,f 0 m a H)/\∀i m a H,f i m a H->
   ((AY K z b).stop i H/\D.nx a H)\/((AY K z b).go i H/\∃N:L2.St->Hp->Prop,(∀g e,N g e->∃r,r<m/\f JK r g e)/\∀x e,(AY K z b).jW i H x e->gC K 2 U4 x a e λw A=>o {D with nx:=N,ct:=N,bk:=D.nx} w A):=by
 show(λi m a H=>m=min WT d.9-i/\i<=min WT d.9/\Pv i a H,(min WT d.9,Ja,eX _,t),?_);intro i m a H (rfl,hi,j);let k:=u i a H hi j;cases h:i<min WT d.9
 .right;obtain⟨c,l⟩:∃c,z.cps.toList[i]?=Y c:=(_,cy JE);obtain⟨y,n⟩:∃y,d[i]?=Y y:=(_,cy JE);show((d,c,y,k,l,n),Pv JK,λg e B=>(_,JE,J,JE,B),?_);intro x e (T,F,L,rfl,C,rfl,s,E);rw[l]at s;cases s;let:=E d k;rw[n]at this;cases this;show EE aB<|v i c y a H T l n j C
 left;let:i=min WT d.9:=Ja
 show((d,k,JE),hd a H<|this▸j)
inductive EO K A(vs:Ju) H(Q:VK):Prop|mk S t s c wh rw x(b:vs=[.ref t,.ref c])(d:JO)(e:zi A H c wh rw x.1 x.2.1 x.2.2)(f:x.1<23)(g:∀a,az H a->Q (.int (bV s x)) a)
def zip_get{c d:Type}{l:List c}{m}{i:JD}{a}{b:d}(e:l[i]?=Y a)(f:m[i]?=Y b):(l.zip m)[i]?=Y (a,(b)):=by rw[aso];show(e,f)
def ab8{c d:Type}{l:List c}{m}{p}(h:∀(i:Nat) a (b:d),l[i]?=Y a->m[i]?=Y b->p (a,(b))=au):(l.zip m).any p=au:=by rw[atE];intro(a,b) e;let(i,hi):=kL e;rw[aso]at hi;rw[h i a b hi.1 hi.2];simp
def aoX(ab:Jn):aK g 2 17 (EO Jj A):=by
 show aK.rd ab 6 [1,1,0,5,0,1,0,1,1,0,0,0,0,0,5,0,0] (fc (aoW ab)<|fc (aoV ab) fz) (ay (aP (ah JN (ah JN (tC<|.ref A.yu) QF) Jf) QQ)<|ay (dc (AZ Jj<|U Jv<|U Z5 aa) Ql<|a_ (jV<|tB<|aN 2 ab3<|U JC ZY) (aH<|tC<|.int<|-3) ba)<|ay (a_ (aY<|ah dR (ah JN (ah JN (tC<|.ref A.yu) QF) Jh)<|tC<|.str "text") (dc (gU Jj<|aD A.fK Jl "row") Ww<|a_ (fS (aY<|ah QO Q6 Jf)<|aY<|ah Wq Q6<|tC<|.int 255) (aH Q0) ba) ba)<|ay (dc (AZ Jj<|U Jv<|U Z5 aa) Ql<|a_ (jV<|tB<|aN 3 (Nz Jj A)<|U Ji<|U JC ZY) WV ba)<|aH Jf) ?_;intro vs H Q hl (S,t,s,c,wh,rw,(b,C,row),rfl,T,((dx,N),hw,hr),af,k);ext;let(l,hS,hs):=ab1 ab;let(a,ha,ag):=hs b af;delta bV at k;show(N,hS H,dI ha,ag H,J,N,_,wh,_,J,aq.of hw,ab7 (λi d B=>E3 λm n p=>A3 (d=[Y Zm,Y Za,Y (.str (fO Yz)),m,n,p]) (az H B) (∀j e w,j<i->Yz[j]?=Y e->C[j]?=Y w->oF e w=I)) (O,O,O,J,QT,λj e w h=>absurd h JE) (λi d B _ (_,_,_,_,P,_)=>aq.of (P _ _ hw)) ?_ ?_)
 .intro i e y d H2 Tp he D (m,n,p,rfl,E,r) ae;let he:Yz[i]?=Y e:=by exists he
  let(w,R,rfl):=B2 D;let nT:=aG (o:=.tup [.str (fO [e]),.int w]) ae;let u:=E.trans nT;show(e,w,J,aoU b af e (bM he),?_);cases X:oF e w with
  |false=>
   rw[ak (lT.2 ((e,(w)),bM (zip_get he R),by rw[X];rfl))]at k;show k _ u
  |true=>
   show(_,_,_,J,u,λj e' w' hj q f=>?_);cases ej:j=i
   .subst ej;rw[he]at q;rw[R]at f;cases q;cases f;show X
   show r j e' w' JE q f
 intro d H2 (m,n,p,rfl,E,r);let ai:(((bK b).zip C).any λy=> !oF y.1 y.2)=au:=ab8 λi e w q f=>by
  let i1:=(cU.1 q).1;let i2:=(cU.1 f).1;let al:(fO Yz).cps.toList.9=(bK b).9:=Jc
  let am:(bJ C).9=C.9:=Jc
  rw[r i e w JE q f];rfl
 rw[aj (by rw[ai];simp)]at k;let rest:∀d F,(∃m n p,d=[Y Zm,Y Za,Y (.str (fO Yz)),m,n,p])->az H F->(∀B,az H B->Q (.int (if (((bK b).zip C).any λy=> !nB s y.1 y.2)=I then -5 else 0)) B)->(ay (dc (AZ Jj (U Jv (U Z5 aa))) (gC Jj 2 (cX Zx (cX UN gB))) (a_ (jV (tB (aN 3 (Nz Jj A) (U Ji (U JC ZY))))) (aH (tC (.int (-5)))) ba)) (aH (tC (.int 0)))) Yy d F:=by
  intro d F (m,n,p,rfl) u kk;show(u _ _ N,_,wh,_,J,aq.of (u _ _ hw),ab7 (λi d B=>E3 λm n p=>A3 (d=[Y Zm,Y Za,Y (.str (fO Yz)),m,n,p]) (az H B) (∀j e w,j<i->Yz[j]?=Y e->C[j]?=Y w->nB s e w=I)) (_,_,_,J,u,λj e w h=>absurd h JE) (λi d B _ (_,_,_,_,P,_)=>aq.of (P _ _ hw)) ?_ ?_)
  .intro i e y d H4 Tp he D (m,n,p,rfl,s4,r) ae;let he:Yz[i]?=Y e:=by exists he
   let(w,R,rfl):=B2 D;let nT:=aG (o:=.tup [.str (fO [e]),.int w]) ae;let s5:=s4.trans nT;show(S,t,s,e,w,J,T.to s5,?_);cases X:nB s e w with
   |false=>
    rw[ak (lT.2 ((e,(w)),bM (zip_get he R),by rw[X];rfl))]at kk;show kk _ s5
   |true=>
    show(_,_,_,J,s5,λj e' w' hj q f=>?_);cases ej:j=i
    .subst ej;rw[he]at q;rw[R]at f;cases q;cases f;show X
    show r j e' w' JE q f
  intro d H4 (m,n,p,rfl,s4,r);let an:(((bK b).zip C).any λy=> !nB s y.1 y.2)=au:=ab8 λi e w q f=>by
   let i1:=(cU.1 q).1;let i2:=(cU.1 f).1;let al:(fO Yz).cps.toList.9=(bK b).9:=Jc
   let am:(bJ C).9=C.9:=Jc
   rw[r i e w JE q f];rfl
  rw[aj (by rw[an];simp)]at kk;show kk _ s4
 show⟨E _ _ N,(hS H2),(dI ha),(ag H2),J,Jg⟩
 .let ac:dY b=1:=by
   let h:=WI;delta zj at h;cases e0:dY b=0
   .rw[ak e0]at h;show absurd h (by decide +kernel)
   rw[aj e0]at h;cases e1:dY b=1
   .show e1
   rw[aj e1]at h;show absurd h (by decide +kernel)
  show(E _ _ N,rw,J,(_,aq.of (E _ _ hr)),k7 (λi d B=>E3 λm n p=>A3 (d=[Y Zm,Y Za,Y (.str (fO Yz)),m,n,p]) (az H B) (∀y∈row.take i,0<=y/\y<=255)) (_,_,_,J,E,Jc) (λi d B _ (_,_,_,_,P,_)=>aq.of (P _ _ hr)) ?_ ?_)
  .intro i v d F hv (m,n,p,rfl,u,r);let(y,D,rfl):=B2 hv;show Jg
   .rw[ak (ac,lT.2 (y,bM D,by rw[h];rfl))]at k;show (k _ u)
   let h:¬y<0:=λz=>h (cn z)
   show (aT (λf=>?_) λf=>?_)
   .rw[ak (ac,lT.2 (y,bM D,by rw[f,Bool.or_true]))]at k;show k _ u
   let f:¬255<y:=λz=>f (cn z)
   show(_,_,_,J,u,λz L=>?_);rw[take_snoc D]at L;rcases dC.1 L with L|L
   .show r z L
   rw[fZ.1 L];omega
  intro d F (m,n,p,rfl,u,r);rw[show (bJ row).9=row.9 by simp,ir]at r;rw[aj]at k
  .show rest _ F (_,_,_,J) u k
  intro(_,ao);let(y,D,h):=lT.1 ao;let:=r y D;simp at h;omega
 let ac:¬dY b=1:=by
  intro e;apply h;delta zj;rw[aj JE,ak e];simp
 rw[aj λx=>ac x.1]at k;show rest _ H2 (_,_,_,J) E k
inductive oG(A:Ad)(H:Hp)(c:ax)(x:qX):Prop|mk(wh:_)(rw:_)(a:zi A H c wh rw x.1 x.2.1 x.2.2):oG A H c x
theorem oG.to(h:oG A H c x)(s:WE):oG A a c x:=by let(b,rw,h):=h;show(b,rw,h.to s)
def ab9{j:JD}(b:i<=j)(a:j<=xs.9):h_ xs (Y i) (Y j)=(xs.drop i).take (j-i):=by delta h_;rw[Gh (i:=i) Ja,Gh a]
def aca cs i n:((bJ cs).drop i).take n=bJ ((cs.drop i).take n):=Jc
def aoY{r:Jw}{p:JH}{c:List Jw}{t:Jw}(h:xS ka (p::r)=Y (c,(t))):∃a:Nat,p=(a:JH)/\a<23/\(bK a).9<=r.9/\
  ((dY a=0/\t=r.drop (bK a).9/\gP c=(a,r.take (bK a).9,([])))\/
   (dY a≠0/\∃(n:Nat) (q:Jw),r.drop (bK a).9=(n:JH)::q/\n<=q.9/\t=q.drop n/\gP c=(a,r.take (bK a).9,(q.take n)))):=by
 cases e:ka p with
 |none=>erw[xS,e]at h;cases h
 |some x=>
  let(n,k):=x;erw[xS,e]at h;let(a,rfl,l,rfl,rfl):=ab0 e;cases j:r.9<(bK a).9
  .rw[ak j]at h;cases h
  rw[aj j]at h;show(a,J,l,JE,?_);cases b:dY a=0
  .erw[ak b,Dq]at h;let h:=bt h;let f:=(qe h).1;let g:=(qe h).2;show .inl (b,g.3,?_);rw[<-f];change ((a:JH).6,_,(_))=_
   rw[ed]
  show .inr (b,?_);cases i:r.drop (bK a).9 with
  |nil=>erw[aj b,i,Dq,HG]at h;cases h
  |cons z q=>
   cases d:0<=z/\z.6<=q.9
   .erw[aj b,i,Dq,HG,ak d]at h;let h:=bt h;let f:=(qe h).1;let g:=(qe h).2;show(z.6,q,?_,d.2,g.3,?_)
    .rw[CV d.1]
    rw[<-f];change ((a:JH).6,_,(_))=_
    rw[ed]
   erw[aj b,i,Dq,HG,aj d]at h;cases h
def mB(H a:Hp):Hp:=λb=>if H b=O then a b else O
structure RCI(A:Ad)(H a:Hp)(cs:Jw)(ps:List<|List Jw)(fd:ax)(pl:JD):Prop where
 sm:az H a
 ex:∃(cl:List ax) (b:List qX) (fu:JD) (rest:List (List Jw)),a fd=Y (.lst<|cl.map Qv)/\bw (oG A<|fh [fd]<|mB H a) cl b/\(∀x∈b,x.1<23)/\cl.9<=pl/\nU ka fu (cs.drop pl)=Y rest/\b++rest.map gP=ps.map gP
 le:pl<=cs.9
def aoZ:fh [fd] (mB H0<|aA H fd o)=fh [fd] (mB H0 H):=by
 funext b;delta fh mB;cases h:b∈[fd]
 .rw[ak h,ak h]
 rw[aj h,aj h,aJ<|by exists h]
def NA(s:WE):az (fh [fd]<|mB H0 H) (fh [fd]<|mB H0 a):=λb u e=>by
 delta fh mB at e⊢;split at e
 .cases e
 rename_i h;rw[aj h];split at e
 .rename_i c;rw[ak c];show s b u e
 cases e
def NB(a:b≠fd)(c:H0 b=O)(h:H b=Y u):fh [fd] (mB H0 H) b=Y u:=by delta fh mB;ext
inductive ER K A(vs:Ju) H(Q:VK):Prop|mk a cs f ps(c:ZC)(d:aq K H a (bJ cs))(e:(∀b,az H b->aq K b a (bJ cs)))(g:cs.9<=16000)(h:nU ka f cs=Y ps)(i:∀p (cl:List ax) b,az H b->H p=O->b p=Y (.lst (cl.map Qv))->bw (oG A (mB H b)) cl (ps.map gP)->(∀x∈ps.map gP,x.1<23)->Q JS b)
def ao0(ab:Jn):aK g 3 14 (ER Jj A):=by
 show aK.rd ab 8 [0,90,0,1,0,0,91,1,0,1,0,0,0,90,0] (kc (aoT ab) fz) (ay (aP Z1 Wv)<|ay (aP Jf QQ)<|ay (r6 (aY<|ah QO Jv JJ)<|ay (aP (ah Jq Ji Jv) Zx)<|ay (aP (ah JN (tC<|.ref A.yu) JC) UN)<|ay (aP (ah QN Jv Jh) Ww)<|ay (aP (ah QN Q6<|bA S8<|U (ah JN Qi Jf) aa) QQ)<|ay (aP (k8 (jZ Jj) Ji (iA Q6)<|iA Jv)<|aC 6)<|ay (aP Z1<|aC 7)<|ay (a_ (aY<|ah iS (ah JN Qi Jh)<|tC<|.str "") (ay (aP (ah QN Jv Jh) Ww)<|ay (aP (ah QN Q6<|ah Jq Ji Jv) QQ)<|aP (k8 (jZ Jj) Ji (iA Q6)<|iA Jv)<|aC 7) ba)<|cG<|ff Jj "list" gb Jl<|U (fJ (ab2 A)<|U JC<|U W6 W8) aa)<|aH Jl) ?_;intro vs H Q hl (a,cs,f,ps,rfl,ha,has,ca,a7,k);let(l,hS,hs):=ab1 ab;show λfd ac=>?_;let lV:(bJ cs).9=cs.9:=Jc
 apply ye (λL H'=>E6 λpl N P r R S=>L=[Y Jy,Y (.ref fd),Y (.int (pl:JD)),N,P,r,R,S]/\RCI A H H' cs ps fd pl) (λL K=>match L with|[_,_,Y (.int pl),_,_,_,_,_]=>cs.9-pl.6|K=>0) (0,O,O,O,O,O,J,(aG ac),([],[],f,ps,aB,.nil,Jc,JR,a7,J),eX _);intro L e (pl,N,P,r,R,S,rfl,u,(cl,dn,B,rest,T,P1,hb,cc,d,ae),hpl);show⟨.inl (has e u),Jg⟩
 .let h:(pl:JH) <((bJ cs).9:Nat):=WI;let af:pl<cs.9:=by omega
  obtain⟨p,hp⟩:∃p,cs[pl]?=Y p:=(_,cy af);let a8:cs.drop pl=p::cs.drop (pl+1):=by
   rw[aez af];let:=cy af;rw[hp]at this;rw[bt this]
  rw[a8]at d;cases B with
  |zero=>delta nU at d;cases d
  |succ B=>
   delta nU at d;cases ag:xS ka (p::cs.drop (pl+1)) with
   |none=>rw[ag]at d;cases d
   |some ct=>
    let(c,tl):=ct;rw[ag]at d;simp only at d;cases ai:nU ka B tl with
    |none=>rw[ai]at d;cases d
    |some a9=>
     rw[ai]at d;let d:=bt d;subst d;let(b,rfl,al,be,a1):=aoY ag;rw[Hh]at be;let(sa,bi,a2):=hs b al;let bk:(bJ cs)[pl]?=Y (.int b):=by delta bJ;rw[c8,hp];rfl
     let am:(fO Yz).9=(bK b).9:=by change (bK b).toArray.12=_;simp
     let l3:(bK b).9<=3:=by
      let:∀b,b<23->(bK b).9<=3:=Je
      show this b al
     show((has e u),(dI bk),(hS e),(dI bi),(a2 e),J,_,J,by rw[cP];omega,has e u,λv an=>?_);let ep:(pl:JH)+1+(((fO Yz).9:Nat):Int)=((pl+1+(bK b).9:Nat):Int):=by rw[am];omega
     let bl:h_ (bJ cs) (Y ((pl:JH)+1)) (Y ((pl:JH)+1+(((fO Yz).9:Nat):Int)))=bJ ((cs.drop (pl+1)).take (bK b).9):=by
      rw[ep,show ((pl:JH)+1)=((pl+1:Nat):Int) by omega,ab9 JE JE,aca,show pl+1+(bK b).9-(pl+1)=(bK b).9 by omega]
     rw[bl];let bm:v≠fd:=(dH T an).3;let C:=aG (o:=.lst (bJ ((cs.drop (pl+1)).take (bK b).9))) an;let s2:=u.trans C;let a3:=aB (H:=e) (a:=v) (o:=.lst (bJ ((cs.drop (pl+1)).take (bK b).9)));generalize aA e v (.lst (bJ ((cs.drop (pl+1)).take (bK b).9)))=H2 at s2 C a3⊢;show (λX ao=>?_);let ap:X≠fd:=(dH (C _ _ T) ao).3;let D:=aG (o:=Jx) ao;let w:=s2.trans D;let a4:=aB (H:=H2) (a:=X) (o:=Jx);let ar:=D _ _ a3;let e3:=(C.trans D) _ _ T;let P3:=dk (λK K x=>oG.to x (NA (fd:=fd) (C.trans D))) P1;generalize aA H2 X Jx=H3 at w D a4 ar e3 P3⊢;let fin:∀(s:Hp) (rw:ax) (row:Jw) (m:JD) (r:Option V),az H s->s v=Y (.lst (bJ ((cs.drop (pl+1)).take (bK b).9)))->rw≠fd->H rw=O->s rw=Y (.lst (bJ row))->s fd=Y (.lst (cl.map Qv))->bw (oG A (fh [fd] (mB H s))) cl dn->gP c=(b,(cs.drop (pl+1)).take (bK b).9,(row))->tl=cs.drop m->pl<m->m<=cs.9->cG (ff Jj "list" gb Jl (U (fJ U8 (U JC (U W6 W8))) aa)) {nx:=λa5 H'=>(E6 λ(pl:Nat) (N:Option V) (P:Option V) (r:Option V) (R:Option V) (S:Option V)=>a5=[Y Jy,Y (.ref fd),Y (.int (pl:JD)),N,P,r,R,S]/\RCI A H H' cs ps fd pl)/\(match a5 with|[_,_,Y (.int pl),_,_,_,_,_]=>cs.9-pl.6|K=>0) <cs.9-((pl:JD):Int).6,rt:=Q} [Y Jy,Y (.ref fd),Y (.int (m:JD)),Y (.int (b:JD)),Y (.ref sa),r,Y Uk,Y (.ref rw)] s:=by
      intro s rw row m r s4 bn ap bs bv e4 P4 ec et cd b0;show(.inl (J,_,aq.of e4),J,λy dx H5 hy E ey=>?_);let e5:=E _ _ e4;let b1:y≠fd:=eK ey e5 (by intro z;cases z);show(e5,by rw[bz,cP];omega,(m,_,_,_,_,_,J,bZ (s4.trans E) ac,(cl++[y],dn++[gP c],B,a9,by rw[aB];simp,?_,?_,?_,?_,?_),b0),?_)
      .rw[aoZ];apply ot (dk (λK K x=>oG.to x (NA E)) P4);rw[ec];show(v,rw,(dx,NB b1 (s4.free hy) ey),NB bm (u.free an) (E _ _ bn),NB ap bs (E _ _ bv))
      .intro x F;rcases dC.1 F with F|F
       .show hb x F
       rw[fZ.1 F,ec];show al
      .rw[cE];change cl.9+1<=m
       omega
      .rw[<-et];show ai
      .rw[ae0];show ae
      change cs.9-((m:JD):Int).6<_
      omega
     show⟨(a2 H3),J,Jg⟩
     .let as:dY b≠0:=by
       intro t;delta zj at h;rw[ak t]at h;simp at h
      rcases a1 with⟨t,_⟩|⟨_,n,q,hq,ce,ht,av⟩
      .show absurd t as
      rw[PB]at hq;let ch:pl+1+(bK b).9<cs.9:=by
       let:=e8 t_ hq;rw[Hh]at this;simp at this;omega
      let b2:cs[pl+1+(bK b).9]?=Y (n:JH):=by
       let:=O9 (xs:=cs) (i:=pl+1+(bK b).9) (j:=0);rw[hq]at this;exists this.3
      let aw:q=cs.drop (pl+1+(bK b).9+1):=by
       let:=e8 List.tail hq;rw[List.tail_drop]at this;exists this.3
      let b3:(bJ cs)[pl+1+(bK b).9]?=Y (.int (n:JH)):=by delta bJ;rw[c8,b2];rfl
      let lq:q.9=cs.9-(pl+1+(bK b).9+1):=by rw[aw,Hh]
      let b4:((pl:JD):Int)+1+(((fO Yz).9:Nat):Int)+1=((pl+1+(bK b).9+1:Nat):Int):=by rw[am];omega
      let a6:((pl:JD):Int)+1+(((fO Yz).9:Nat):Int)+1+(n:JH)=((pl+1+(bK b).9+1+n:Nat):Int):=by rw[am];omega
      show((has H3 w),(show jw (bJ cs) _=Y (.int (n:JH)) by rw[ep];show dI b3),has H3 w,λrw a0=>?_);let b5:h_ (bJ cs) (Y (((pl:JD):Int)+1+(((fO Yz).9:Nat):Int)+1)) (Y (((pl:JD):Int)+1+(((fO Yz).9:Nat):Int)+1+(n:JH)))=bJ (q.take n):=by
       rw[a6,b4,ab9 JE JE,aca,aw,show pl+1+(bK b).9+1+n-(pl+1+(bK b).9+1)=n by omega]
      rw[b5];let n4:=aG (o:=.lst (bJ (q.take n))) a0;let:=fin _ rw (q.take n) (pl+1+(bK b).9+1+n) (Y (.int (((pl:JD):Int)+1+(((fO Yz).9:Nat):Int)+1))) (w.trans n4) (n4 _ _ ar) (dH e3 a0).3 (w.free a0) aB (n4 _ _ e3) (dk (λK K x=>oG.to x (NA (fd:=fd) n4)) P3) av (by rw[ht,aw,PB]) JE JE;rw[<-a6]at this;show this
     let as:dY b=0:=by
      apply OT;intro t;apply h;delta zj;rw[aj t];split
      .decide +kernel
      decide +kernel
     rcases a1 with⟨_,ht,av⟩|⟨t,_⟩
     .let:=fin H3 X [] (pl+1+(bK b).9) (Y (.int (((pl:JD):Int)+1))) w ar ap (s2.free ao) a4 e3 P3 av (by rw[ht,PB]) JE JE;rw[<-ep]at this;show this
     show absurd as t
 let h:¬(pl:JH) <((bJ cs).9:Nat):=λz=>h (cn z)
 let b6:pl=cs.9:=JE
 subst b6;rw[Hj]at d;let b7:rest=[]:=by
  cases B<;>(delta nU at d;show (bt d).3)
 subst b7;simp at ae;subst ae;show (k fd cl e u ac T (dk (λK K x=>oG.to x (Gj [fd] (mB H e))) P1) hb)
structure Is(x:xY)(n:JH)(d:JD):Prop where
 pos:0<Yh
 Gm:dN x.num.5 Yh=1
 eq:Yw*(d:JH)=n*(x.den:JH)
def Gn{c:JH} d(h:a*c=b*c):=Int.eq_of_mul_eq_mul_right (Int.ne_of_gt d) h
def d8(hd:0<d):Is (cK n d) n d:=by
 delta cK;rw[aj Ja];let c:0<dN n.5 d:=asC _ hd;let(b,e):=atY n.5 d;obtain⟨a,f⟩:((dN n.5 d:Nat):Int) ∣ n:=Int.ofNat_dvd_left.2<|auj n.5 d;haveI g:n / ((dN n.5 d:Nat):Int)=a:=by
  conv=>lhs;arg 1;rw[f]
  show G9 a Ja
 haveI h:(n / ((dN n.5 d:Nat):Int)).5=n.5 / dN n.5 d:=by
  rw[g];haveI:n.5=dN n.5 d*a.5:=by
   conv=>lhs;rw[f]
   rw[lU,lQ]
  conv=>rhs;arg 1;rw[this]
  show (asM _ c).3
 show(Nat.div_pos (Nat.le_of_dvd hd<|atY _ _) c,?_,?_)
 .change dN (n / _).5 _=1
  rw[h];show Nat.gcd_div_gcd_div_gcd_of_pos_right hd
 change (n / _)*d=n*((d / dN n.5 d:Nat):Int)
 haveI i:d / dN n.5 d=b:=by
  conv=>lhs;arg 1;rw[e]
  show asM b c
 rw[i];haveI j:d=(dN n.5 d:Nat)*(b:JH):=by
  conv=>lhs;rw[e]
  rfl
 grind
def Is.uniq(hd:0<d)(i:UQ)(j:Is y n d):x=y:=by
 let(q,k):=i;let(r,l):=j;let(a,b):=x;let(f,e):=y;simp only at*
 haveI h:a*e=f*b:=Gn (c:=d) Ja (by grind);haveI g:a.5*e=f.5*b:=by
  let:=e8 Int.natAbs h;rwa [lU,lU,lQ,lQ]at this
 haveI m:b ∣ e:=by
  let:b ∣ a.5*e:=g▸auk b f.5;show ar9 (asD k) this
 haveI o:e ∣ b:=by
  let:e ∣ f.5*b:=g▸auk e a.5;show ar9 (asD l) this
 let p:=Nat.dvd_antisymm m o;subst p;let:a=f:=Gn Ja h;rw[this]
def j6(hd:0<d)(a:UQ):=a.uniq hd<|d8 hd
def Is.scale{k:JD}(a:0<k)(h:UQ):Is x (n*k) (d*k):=(h.pos,h.Gm,by
 let:=h.eq
 grind)
def acb{k:JD}(hd:0<d)(a:0<k):cK (n*k) (d*k)=cK n d:=((d8 hd).scale a).uniq (iN hd a) (d8<|iN hd a) |>.symm
def Is.self(a:0<Yh)(b:dN x.num.5 Yh=1):Is x Yw x.den:=(a,b,J)
def Is.of{e:JD}(h:UQ)(hd:0<d)(b:n*e=m*d):Is x m e:=(h.pos,h.Gm,by
 let:=h.eq
 let a:(0:Int) <d:=by lia
 show Gn a<|by grind)
def Is.add(hd:0<d)(a:UQ)(b:Is y m d):Is (lZ x y) (n+m) d:=by let c:=iN a.pos b.pos;apply (d8 c).of c;let:=a.eq;let:=b.eq;grind
def Is.neg(a:UQ):Is (nS x) (-n) d:=(a.pos,by
 change dN (-Yw).5 Yh=1
 rw[PF];show a.Gm,by
 let:=a.eq
 change -Yw*d= -n*Yh
 grind)
def Is.sub(hd:0<d)(a:UQ)(b:Is y m d):Is (kT x y) (n-m) d:=by let:=a.add hd b.neg;assumption
def Is.mul(hd:0<d)(he:0<e)(a:UQ)(b:Is y m e):Is (oV x y) (n*m) (d*e):=by let c:=iN a.pos b.pos;apply (d8 c).of c;let:=a.eq;let:=b.eq;grind
def mC z{d:JD}:Is (dZ z) (z*d) d:=(Dr,atX _,by change z*d=z*d*1;simp)
def acd z:Is (dZ z) z 1:=(Dr,atX _,J)
def Cb:Is iL 0 d:=(Dr,Je,by change 0*_=0*_;simp)
def Is.less(hd:0<d)(a:UQ)(b:Is y m d):mR x y=decide (n<m):=by
 let g:=a.eq;let i:=b.eq;let c:(0:Int) <d:=Ja
 haveI:Yw*y.den<y.num*Yh↔n<m:=by
  haveI q:0<Yh*(y.den:JH):=Ds (by let:=a.pos;lia) (by let:=b.pos;lia);haveI e:Yw*y.den*d=n*(Yh*y.den):=by grind
  haveI f:y.num*Yh*d=m*(Yh*y.den):=by grind
  constructor
  .intro h;let:=asm h c;ext
  intro h;let:=asm h q;rw[<-e,<-f]at this;show Int.lt_of_mul_lt_mul_right this Jc
 show afA.2 this
def Is.atMost(hd:0<d)(c:UQ)(e:Is y m d):C6 x y=decide (n<=m):=by
 let h:=Is.less hd e c;let h:=afA.1 h;show afA.2 (λa=>by
  apply Du.1;intro b;show absurd (h.2 b)<|Du.2 a,λa=>by
  apply Du.1;intro b;show absurd (h.1 b)<|Du.2 a)
def Is.inj(hd:0<d)(a:UQ)(b:Is y m d):x=y↔n=m:=by
 constructor
 .intro e;subst e;show Gn (by let:=a.pos;lia)<|a.eq.symm.trans b.eq
 intro e;subst e;show a.uniq hd b
def Is.beq(hd:0<d)(a:UQ)(b:Is y m d):(x==y)=decide (n=m):=by let:=a.inj hd b;rwa [nO,vM,Hg]
def Is.least(hd:0<d)(a:UQ)(b:Is y m d):Is (ath x y) (min n m) d:=by delta ath;rw[b.less hd a];lia
def Is.most(hd:0<d)(a:UQ)(b:Is y m d):Is (ae9 x y) (max n m) d:=by
 delta ae9;rw[a.less hd b];cases h:n<m
 .rw[ak<|cn h,aur<|ja h];show b
 rw[aj<|by ext,auG Ja];show a
def Is.div{x y:xY}{n m:JH}{d e:JD}(hd:0<d)(he:0<e)(b:0<m)(c:UQ)(a:Is y m e):Is (vJ x y) (n*e) (d*m.6):=by
 haveI f:(0:Int) <y.den:=by let:=a.pos;lia
 let g:(0:Int) <e:=Ja
 let h:=a.eq;haveI i:0<y.num:=by
  haveI:0<y.num*(e:JH):=by rw[h];show Ds b f
  show Int.pos_of_mul_pos_left this g
 haveI hi:Is (atO y) (e:JH) m.6:=by
  delta atO;rw[aj Ja,aj Ja];show(by change 0<y.num.5;lia,?_,?_)
  .change dN ((y.den:JH)).5 y.num.5=1
   rw[lQ,afF];show a.Gm
  change (y.den:JH)*((m.6:Nat):Int)=(e:JH)*((y.num.5:Nat):Int)
  rw[CV<|ja b,Int.natAbs_of_nonneg<|ja i];grind
 show c.mul hd Ja hi
def gk x:bG O x=x:=by cases x<;>simp[bG,cA]
def fX x:bG x O=x:=by rfl
def xm x:bG x x=x:=by delta bG;split<;>rfl
def kS(a:Int×Bool):=2*a.1+if a.2=I then 0 else 1
def ao1(h:kS a=kS b):a=b:=by let(n,o):=a;let(m,p):=b;delta kS at h;cases o<;>cases p<;>simp at h⊢<;>lia
def ao2 a b:cA (Y a) (Y b)=decide (kS a<kS b):=by let(n,o):=a;let(m,p):=b;delta kS;cases o<;>cases p<;>simp[cA]<;>lia
def qY a b:bG (Y a) (Y b)=if kS b<kS a then Y b else Y a:=by delta bG;rw[ao2];simp
def nE x y:bG x y=bG y x:=by
 cases x with
 |none=>rw[gk,fX]
 |some a=>cases y with
  |none=>rw[gk,fX]
  |some b=>
   rw[qY,qY];rcases Int.lt_trichotomy (kS a) (kS b) with h|h|h
   .rw[ak h,aj<|au8 h]
   .rw[ao1 h]
   rw[ak h,aj<|au8 h]
def gH x y z:bG (bG x y) z=bG x (bG y z):=by
 cases x with
 |none=>rw[gk,gk]
 |some a=>cases y with
  |none=>rw[fX,gk]
  |some b=>cases z with
   |none=>rw[fX,fX]
   |some c=>
    rw[qY a b,qY b c];cases d:kS b<kS a
    .cases e:kS c<kS b
     .rw[ak d,qY,ak e,qY,ak<|Int.lt_trans e d]
     rw[ak d,qY,aj e,qY,ak d]
    cases e:kS c<kS b
    .rw[aj d,ak e]
    rw[aj d,aj e,qY,qY,aj d,aj λh=>e<|Int.lt_of_lt_of_le h<|Du.1 d]
def tl(l:List SL):SL:=l.foldl bG O
def ace l:∀a,l.foldl bG a=bG a (tl l):=by
 induction l with
 |nil=>intro a;show (fX a).3
 |cons x l b=>
  intro a;change l.foldl bG (bG a x)=bG a (l.foldl bG<|bG O x)
  rw[b,b<|bG O x,gk,gH]
def lJ x l:tl (x::l)=bG x (tl l):=by
 change l.foldl bG (bG O x)=_
 rw[ace,gk]
def NC l m:tl (l++m)=bG (tl l) (tl m):=by delta tl;rw[zR,ace];rfl
def tE{l:List SL}(h:∀x∈l,x=O):tl l=O:=by
 induction l with
 |nil=>rfl
 |cons x l a=>
  rw[lJ,h x dM,gk,a λy b=>h y<|df _ b]
def acf{b:Type}{l:List b}{g:b->SL}{x}(a:x∈l)(h:∀y∈l,y≠x->g y=O):tl (l.map g)=g x:=by
 induction l with
 |nil=>cases a
 |cons y l d=>
  rw[hY,lJ];cases c:x∈l
  .rw[d c λz f=>h z<|df _ f];cases e:y=x
   .rw[e,xm]
   rw[h y dM e,gk]
  let:x=y:=by
   cases a with|head=>rfl|tail i a=>show absurd a c
  subst this;rw[tE,fX];grind
def ao3{a:Type}(l:UI) f:tl (l.flatMap f)=tl (l.map λx=>tl<|f x):=by induction l with|nil=>rfl|cons x l b=>rw[atD,hY,NC,lJ,b]
section
variable {sc:Nat}
def zo(c:Yi) x y:Pr (bE sc x) (bE sc y)=cA x y:=by
 rcases x with _|⟨a,o⟩
 .rfl
 rcases y with _|⟨b,p⟩
 .rfl
 change (mR _ _||(_==_&&_))=_
 rw[(d8 c).less c<|d8 c,(d8 c).beq c<|d8 c];rfl
def hJ(a:Yi) x y:jR (bE sc x) (bE sc y)=bE sc (bG x y):=by delta jR bG;rw[zo a];split<;>rfl
def Cc(c:Yi) x y:oY (bE sc x) (bE sc y)=bE sc (bh x y):=by
 rcases x with _|⟨a,o⟩
 .rfl
 rcases y with _|⟨b,p⟩
 .rfl
 change Y (jr (lZ _ _) _)=Y U9
 rw[j6 c<|(d8 c).add c<|d8 c]
def ND(b:Yi) x:t7 (bE sc x)=bE sc (iF x):=by
 rcases x with _|⟨a,o⟩
 .rfl
 change Y (jr (nS _) _)=Y U9
 rw[j6 b (d8 b).neg,rQ]
def NF(c:Yi)(h:bE sc x=bE sc y):x=y:=by
 rcases x with _|⟨a,o⟩<;>rcases y with _|⟨b,p⟩
 .rfl
 .cases h
 .cases h
 let h:=bt h;injection h with d e
 let d:cK a sc=cK b sc:=d;let e:o=p:=e;rw[((d8 c).inj c<|d8 c).1 d,e]
def lL(a:Yi):bE sc bp=qc:=by
 change Y U9=Y U9
 rw[<-j6 a Cb]
def acg(a:Yi) z:bE sc (Y (z*sc,(au)))=rH (dZ z):=by
 change Y U9=Y U9
 rw[<-j6 a (mC z)]
def Cd(b:Yi) l:tX (l.map<|bE sc)=bE sc (tl l):=by
 haveI:∀(l:List SL) a,(l.map<|bE sc).foldl jR (bE sc a)=bE sc (l.foldl bG a):=by
  intro l;induction l with
  |nil=>intro a;rfl
  |cons x l c=>
   intro a;rw[hY,C8,C8,hJ b,c]
 show this l O
def ao4{x:xY}(a:0<Yw)(b:0<Yh)(d:dN x.num.5 Yh=1)(f:Yi)(hd:Yw ∣ (sc:JH))(z:JH):Is (vJ (dZ z) x) (z*Yh*((sc:JH) / Yw)) sc:=by
 let(k,c):=hd;let hi:=Is.div Dr b a (acd z)<|Is.self b d;show hi.of (iN Dr Ja) ?_;haveI e:(sc:JH) / Yw=k:=by rw[c];show G9 k Ja
 rw[e,Nat.one_mul,CV<|ja a];rw[c];grind
def ach(b:0<Yw)(c:0<Yh)(d:dN x.num.5 Yh=1)(a:Yi)(hd:Yw ∣ (sc:JH)) z:bE sc (Y (z*Yh*(sc / Yw),(I)))=afk (vJ (dZ z) x):=by
 change Y U9=Y U9
 rw[<-j6 a (ao4 b c d a hd z)]
end
def NG(a:u<n)(b:v<n):gI (Pt n f) u v=f u v:=by delta gI Pt;ext
def TM(sc n:JD)(t:PN)(M:JY):Prop:=∀u v,u<n->v<n->gI t u v=bE sc Ul
def ao5(e:Yi){M}(a:QX)(h:Wi)(d:k<n):TM sc n (Ho n t k) (fF M k):=by intro u v b c;delta Ho;rw[NG b c,yY a.2 (by rw[a.1];show d) (by rw[a.1];show b) (by rw[a.1];show c),h u v b c,h u k b d,h k v d c,Cc e,hJ e]
def Gp{M}(a:QX)(b:k<n):bO n (fF M k):=(by rw[yH];show a.1,LC a.2 (by rw[a.1];show b))
theorem aci(c:Yi){M}(d:QX)(h:Wi):∀k,k<=n->TM sc n ((aQ k).foldl (Ho n) t) ((aQ k).foldl fF M)/\bO n ((aQ k).foldl fF M)
 |0,f=>(h,d)
 |k+1,e=>by
  let(a,b):=aci c d h k Ja;rw[j3,j3];show(ao5 c b a Ja,Gp b Ja)
def acj(b:Yi){M}(a:QX)(h:Wi):TM sc n ((aQ n).foldl (Ho n) t) JI:=by delta aE;rw[a.1];show (aci b a h n<|bf n).1
def Ce{M}(a:QX):bO n JI:=(by rw[sS];show a.1,Mn a.2)
def ack(b:Yi){M}(c:QX)(h:Wi):atL n t=bN M:=by
 delta atL bN;rw[c.1,nO,lT,lT];constructor
 .intro(u,a,e);show(u,a,?_);let:=cC.1 a;rwa [h u u this this,<-lL b,zo b]at e
 intro(u,a,e);show(u,a,?_);let:=cC.1 a;rwa [h u u this this,<-lL b,zo b]
abbrev Ct:=Nat×Nat×SL
def runC kn(cs:List Ct) M:=cs.foldl (λM c=>gj kn M c.1 c.2.1 c.2.2) M
def tF u v(c:Ct):=if c.1=u/\c.2.1=v then c.2.2 else O
def dh(cs:List Ct) u v:=tl<|cs.map<|tF u v
def j7 n(cs:List Ct):=∀c∈cs,c.1<n/\c.2.1<n
def ao6{M}(a:QX)(hi:i<n)(c:j<n):aF (gj kn M i j l) u v=if (kP kn i&&kP kn j)=I/\u=i/\v=j then bG Ul l else aF M u v:=by
 delta gj;cases b:(kP kn i&&kP kn j)=I
 .rw[ak b];haveI d:(M.getD i []).9=n:=by rw[a.2 _<|getD_mem (by rw[a.1];show hi)];show a.1
  rw[Mv (by rw[a.1];show hi) (by rw[d];show c)];ext
 rw[aj b,aj λx=>b x.1]
def vf cs:∀{M},bO n M->j7 n cs->bO n (runC kn cs M)/\aF (runC kn cs M) u v=if Wa=I then bG Ul (dh cs u v) else aF M u v:=by
 induction cs with
 |nil=>
  intro M b _;show(b,?_);change aF M u v=if _ then bG Ul O else _
  rw[fX];split<;>rfl
 |cons c cs g=>
  intro M b f;let(h,i):=f c dM;let(j,k):=g b.jH λd hd=>f d<|df _ hd
  show(j,?_);change aF (runC kn cs<|gj kn M c.1 c.2.1 c.2.2) u v=_
  rw[k,ao6 b h i];delta dh;rw[hY,lJ];cases a:Wa=I
  .rw[ak a,ak a];delta tF;cases e:c.1=u/\c.2.1=v
   .rw[ak e,ak (by rw[e.1,e.2];show a,e.1.3,e.2.3),gH]
   rw[aj e,aj λx=>e (x.2.1.3,x.2.2.3),gk]
  rw[aj a,aj a,aj];lia
def Gq kn a b M:runC kn (a++b) M=runC kn b (runC kn a M):=zR
def lN a b u v:dh (a++b) u v=bG (dh a u v) (dh b u v):=by delta dh;rw[eV,NC]
def oH{a:Type}(l:UI) f u v:dh (l.flatMap f) u v=tl (l.map λx=>dh (f x) u v):=by delta dh;rw[List.map_flatMap,ao3]
def Cf{a:Type} kn(l:UI) f:∀M,runC kn (l.flatMap f) M=l.foldl (λM x=>runC kn (f x) M) M:=by induction l with|nil=>intro M;rfl|cons x l b=>intro M;rw[atD,Gq,b];rfl
def jM(s:bX)(sc:JH)(deaf:ZR)(b a:JD):List Ct:=
 let x:=aI s a
 let y:=aI s b
 if Ua≠y.node then [] else
  (b+1,a+1,(bp))::(if x.10=y.10/\deaf.contains Ua=au then [(a+1,b+1,(fq sc (aS s Ua)<|(y.11:Int)-(x.11:Int))),(b+1,a+1,(g9 sc (aS s Ua)<|(y.11:Int)-(x.11:Int)))] else [])
def kG s sc deaf:=(aQ Jb).flatMap λb=>(aQ b).flatMap λa=>jM s sc deaf b a
def oI(sc:JH)(i j a:JD)(hi:Uw):List Ct:=(match hi with
 |some h=>[(i,j,(Y ((h:JH)*sc,(au))))]
 |none=>[])++[(j,i,(Y (0-(a:JH)*sc,(au))))]
def nF sc(ls:List Q_):=ls.flatMap λl=>oI sc (l.src+1) (l.dst+1) l.lo l.hi
def tG sc(ms:List PZ):=ms.flatMap λm=>oI sc 0 (m.ev+1) m.lo m.hi
def ao7 s kn sc deaf b M a:pM s kn sc deaf b M a=runC kn (jM s sc deaf b a) M:=by
 delta pM jM;simp only;split
 .rfl
 split<;>rfl
def Cg{c d:Type}{f g}(h:∀a b,f a b=g a b)(l:List d)(a:c):l.foldl f a=l.foldl g a:=by induction l generalizing a<;>ext
def ao8 s kn sc deaf M:wU s kn sc deaf M=runC kn (kG s sc deaf) M:=by delta wU kG;rw[Cf];show Cg (λM b=>?_) _ _;rw[Cf];show Cg (λM a=>ao7 s kn sc deaf b M a) _ _
def acm kn sc M i j a hi:yU kn sc M i j a hi=runC kn (oI sc i j a hi) M:=by cases hi<;>rfl
def ao9 kn sc ls M:qP kn sc ls M=runC kn (nF sc ls) M:=by delta qP nF;rw[Cf];show Cg (λM l=>acm kn sc M _ _ _ _) _ _
def apa kn sc ls M:sQ kn sc ls M=runC kn (tG sc ls) M:=by delta sQ tG;rw[Cf];show Cg (λM l=>acm kn sc M _ _ _ _) _ _
def jl s deaf:=kG s (bQ s.7:Nat) deaf++(nF (bQ s.7:Nat) UJ++tG (bQ s.7:Nat) UT)
def Ci s kn deaf:gO s kn deaf=runC kn (jl s deaf) (uW YM):=by delta gO jl;rw[Gq,Gq,ao8,ao9,apa]
def Cj(d:u<n)(e:v<n):aF (uW n) u v=if u=v then bp else O:=by
 haveI:∀k,k<=n->bO n ((aQ k).foldl Zq Wg)/\aF ((aQ k).foldl Zq Wg) u v=if u=v/\u<k then bp else O:=by
  intro k;induction k with
  |zero=>
   show λg=>(yO n 0,?_)
   ext;change aF Wg u v=O
   delta aF;ext
  |succ k c=>
   intro f;let(a,b):=c Ja;show(yO n QU,?_);rw[j3,Mv (by rw[a.1];lia) (by rw[a.2 _<|getD_mem (by rw[a.1];lia),a.1];lia),b];lia
 delta uW;ext
def qZ u v:dh [] u v=O:=J
def hU c cs u v:dh (c::cs) u v=bG (tF u v c) (dh cs u v):=by delta dh;rw[hY,lJ]
def nG(h:¬(c.1=u/\c.2.1=v)):tF u v c=O:=aj h
def zp:tF u v (u,v,(l))=l:=ak (J,J)
def NH(c:¬(u=b+1/\v=a+1))(d:¬(u=a+1/\v=b+1)):dh (jM s sc deaf b a) u v=O:=by
 delta jM;simp only;split
 .rfl
 rw[hU,nG λh=>c (h.1.3,h.2.3),gk];split
 .rw[hU,hU,nG λh=>d (h.1.3,h.2.3),nG λh=>c (h.1.3,h.2.3),qZ,gk,gk]
 rfl
def vg{s:bX}{sc:JH}{deaf:ZR}{i j:JD}(hi:i<Jb)(d:j<Jb)(h:i<j)(u v:JD)(g:(u=i+1/\v=j+1)\/(u=j+1/\v=i+1)):dh (kG s sc deaf) u v=dh (jM s sc deaf j i) u v:=by
 delta kG;rw[oH,acf (x:=j)<|cC.2 d,oH,acf (x:=i)<|cC.2 h]
 .intro a c e;let:=cC.1 c;show NH Ja Ja
 intro b k e;rw[oH];apply tE;intro x f;let(a,c,rfl):=eJ.1 f;let:=cC.1 c;show NH Ja Ja
def tH(h:u=0\/v=0\/u=v):dh (kG s sc deaf) u v=O:=by delta kG;rw[oH];apply tE;intro x c;let(b,e,rfl):=eJ.1 c;rw[oH];apply tE;intro x c;let(a,d,rfl):=eJ.1 c;let:=cC.1 d;show NH Ja Ja
structure kH(s:bX):Prop where
 n6:Jt<=6
 rt:∀n∈s.7,fM n.lo/\fM n.hi/\mR n.hi n.lo=au
 ev:∀e∈s.8,e.node<Jt
 wd:∀l∈UJ,l.src<Jb/\l.dst<Jb/\(aI s l.src).node≠(aI s l.dst).node
 mo:∀m∈UT,m.ev<Jb
def aV.w(a:J6):kH s:=YN
instance {s:bX}:Coe J6 (kH s):=⟨aV.w⟩
def kH.sc(a:kH s):=(L9 a.n6 λn b=>((a.rt n b).1,(a.rt n b).2.1)).1
def apb:∀k ns,ns.9=k->∀n∈ns,n.lo.num.6 ∣ bQ ns/\n.hi.num.6 ∣ bQ ns:=by
 intro k;induction k with
 |zero=>ext
 |succ k e=>
  intro ns h n c;obtain⟨l,x,rfl⟩:∃l x,ns=l++[x]:=(ns.dropLast,ns.getLast<|by grind,(G5 _).3);rw[L8];rcases dC.1 c with c|c
  .let(a,b):=e l (by ext) n c;let d:bQ l ∣ o7 (o7 (bQ l) x.lo.num.6) x.hi.num.6:=PQ (ae5 _ _)<|ae5 _ _;show(PQ a d,PQ b d)
  rw[fZ.1 c];show(PQ (atZ _ _)<|ae5 _ _,atZ _ _)
def Gr(d:kH s)(hi:i<Jt):(aS s i).lo.num ∣ ((bQ s.7:Nat):Int)/\(aS s i).hi.num ∣ ((bQ s.7:Nat):Int):=by
 let c:=oB hi;let(a,b):=apb _ s.7 J _ c;let(r1,e,_):=d.rt _ c;constructor
 .rw[<- (CV<|ja r1.1)];show asQ.2 a
 rw[<- (CV<|ja e.1)];show asQ.2 b
def acn(a:kH s)(hi:i<Jt) gap:bE Zf (fq (bQ s.7:Nat) (aS s i) gap)=afk (vJ (dZ<|gap+1) (aS s i).lo):=by let(r1,b):=a.rt _<|oB hi;show ach r1.1 r1.2.2.1 r1.2.2.2.2 a.sc (Gr a hi).1 _
def NI(a:kH s)(hi:i<Jt) gap:bE Zf (g9 (bQ s.7:Nat) (aS s i) gap)=afk (vJ (dZ<|1-gap) (aS s i).hi):=by let(r1,b,_):=a.rt _<|oB hi;show ach b.1 b.2.2.1 b.2.2.2.2 a.sc (Gr a hi).2 _
def apc:cA x bp=decide (∃a,x=Y a/\(a.1<0\/(a.1=0/\a.2=I))):=by
 rcases x with _|⟨a,o⟩
 .rfl
 rw[nO];simp[cA,bp]
def aco(c:kH s)(hi:i<Jb)(m:j<Jb):jR (if i=j then qc else O) (C3 s Qy i j)=bE Zf (bG (if i=j then bp else O)<|dh (kG s (bQ s.7:Nat) deaf) JK Q7):=by
 let d:=c.sc;let f:=c.ev _<|qR hi;rcases ae2 i j with h|h|h
 .rw[vg hi m h _ _<|.inl (J,J),aj Ja,aj Ja,gk];haveI g:∀x,jR O x=x:=λx=>by cases x<;>rfl
  rw[g];delta C3 jM;simp only;cases b:(aI s i).node=(aI s j).node
  .let k:¬((aI s i).node≠(aI s j).node):=λx=>x b
   let n:¬j<=i:=Ja
   rw[aj k,aj k,aj n,hU,nG (by simp;lia),gk];cases he:(aI s i).10=(aI s j).10/\deaf.contains (aI s i).node=au
   .haveI o:¬((aI s i).10≠(aI s j).10\/deaf.contains (aI s i).node=I):=by
     rintro (a|a)
     .show a he.1
     rw[he.2]at a;cases a
    rw[ak he,aj o,ak h,hU,hU,qZ,zp,nG (by simp;lia),gk,fX,acn c f,g,show ((aI s j).11:Int)-(aI s i).11+1=((aI s j).11:Int)+1-(aI s i).11 by lia]
   rw[aj he,ak]
   .rfl
   cases a:(aI s i).10=(aI s j).10
   .show .inr (by cases e:deaf.contains (aI s i).node with|true=>rfl|false=>show absurd (a,e) he)
   show .inl a
  rw[ak b,ak b];rfl
 .subst h;rw[tH<|.inr<|.inr J,ak J,ak J,fX];delta C3;simp only;rw[aj λx=>x J,ak JR];haveI q:jR qc qc=qc:=by decide
  split
  .rw[q,lL d]
  rw[aj<|oU _];let r:((aI s i).11:Int)+1-(aI s i).11=1-0:=Ja
  rw[r,<-NI c f 0,<-lL d,hJ d,hJ d,<-gH,xm];delta bG;rw[aj];rw[apc];intro h;let(a,l,u):=WI;delta g9 at l;let l:=bt l;subst l;let(_,p,_):=c.rt _<|oB f;haveI v:0<(1-0:Int)*((aS s (aI s i).node).hi.den:Int)*(((bQ s.7:Nat):Int) / (aS s (aI s i).node).hi.num):=by
   show Ds (by let:=p.2.2.1;lia)<|Int.ediv_pos_of_pos_of_dvd Ja (ja p.1)<|(Gr c f).2
  lia
 rw[vg m hi h _ _<|.inr (J,J),aj Ja,aj Ja,gk];haveI g:∀x,jR O x=x:=λx=>by cases x<;>rfl
 rw[g];delta C3 jM;simp only;cases b:(aI s i).node=(aI s j).node
 .let k:¬((aI s i).node≠(aI s j).node):=λx=>x b
  let t:¬((aI s j).node≠(aI s i).node):=λx=>x b.3
  let n:j<=i:=Ja
  rw[aj k,aj t,ak n,hU,zp];cases he:(aI s j).10=(aI s i).10/\deaf.contains (aI s j).node=au
  .haveI o:¬((aI s i).10≠(aI s j).10\/deaf.contains (aI s i).node=I):=by
    rintro (a|a)
    .show a he.1.3
    rw[b,he.2]at a;cases a
   rw[ak he,aj o,aj Ja,hU,hU,qZ,nG (by simp;lia),zp,gk,fX,<-hJ d,lL d,NI c<|c.ev _<|qR m,b,show 1-(((aI s i).11:Int)-(aI s j).11)=((aI s j).11:Int)+1-(aI s i).11 by lia]
  rw[aj he,ak,qZ,fX,lL d];cases a:(aI s i).10=(aI s j).10
  .show .inr (by cases e:deaf.contains (aI s i).node with|true=>rfl|false=>show absurd (a.3,by rw[<-b];show e) he)
  show .inl a
 rw[ak b,ak λx=>b x.3];rfl
def xn{c}[Decidable c] x y:bE sc (if c then x else y)=if c then bE sc x else bE sc y:=by split<;>rfl
def acp{sc:JD}(a:Yi){i j b:JD}{hi:Uw}{u v:JD}:bE sc (dh (oI sc i j b hi) u v)=jR (if i=u/\j=v then (match hi with
 |none=>O
 |some h=>rH<|dZ (h:JH)) else O) (if i=v/\j=u then rH (dZ<|-(b:JH)) else O):=by
 delta oI;rw[lN,<-hJ a];congr 1
 .cases hi with
  |none=>rw[qZ];split<;>rfl
  |some h=>
   rw[hU,qZ,fX];delta tF;rw[xn,acg a];rfl
 rw[hU,qZ,fX];delta tF;rw[xn,rQ,<-Int.neg_mul,acg a];erw[And.comm];rfl
def acq(a:Yi) ls i j:bE sc (dh (nF sc ls) JK Q7)=tX (ls.map λl=>Pu l i j):=by
 delta nF;rw[oH,<-Cd a,kg];congr 1;show mK λl b=>?_
 change bE sc (dh (oI sc (l.src+1) (l.dst+1) l.lo l.hi) JK Q7)=_
 rw[acp a];delta Pu;simp;cases l.hi<;>rfl
def acr{sc:JD} ls(h:u=0\/v=0):dh (nF sc ls) u v=O:=by delta nF;rw[oH];apply tE;intro x a;let(l,_,rfl):=eJ.1 a;delta oI;rw[lN];cases l.hi with|none=>rw[hU,nG (by simp;lia)];rfl|some h=>rw[hU,hU,nG (by simp;lia),nG (by simp;lia)];rfl
def NJ(a:Yi) ms u v:bE sc (dh (tG sc ms) u v)=tX (ms.map λm=>att m u v):=by
 delta tG;rw[oH,<-Cd a,kg];congr 1;show mK λm d=>?_
 change bE sc (dh (oI sc 0 (m.ev+1) m.lo m.hi) u v)=_
 rw[acp a];delta att;let b:(0=u/\m.ev+1=v)↔(u=0/\v=m.ev+1):=Ja
 let c:(0=v/\m.ev+1=u)↔(u=m.ev+1/\v=0):=Ja
 ext;cases m.hi<;>rfl
def zr:kP kn u= !(decide (u≠0)&& !oX Qy (u-1)):=by cases u with|zero=>simp[kP]|succ u=>simp[kP,oX]
def pY(sc:JD)(cs:List Ct)(more:List<|Nat×Nat×xO):Prop:=∀u v,bE sc (dh cs u v)=tX ((more.filter λx=>x.1==u&&x.2.1==v).map λx=>Y x.2.2)
def tI sc:pY sc [] []:=λa a=>rfl
def NK(d:j7 n a)(e:j7 n b):j7 n (a++b):=λc f=>(dC.1 f).elim (d c)<|e c
def Ck{b:Type}{l:List b}{f}(h:∀x∈l,j7 n<|f x):j7 n (l.flatMap f):=λc a=>by let(x,d,a):=C4.1 a;show h x d c a
def Gs(b:i<n)(d:j<n):j7 n (oI sc i j e hi):=by
 intro c a;delta oI at a;cases hi with
 |none=>rw[aum,fZ]at a;subst a;show(d,b)
 |some h=>
  rcases dC.1 a with a|a
  .rw[fZ]at a;subst a;show(b,d)
  rw[fZ]at a;subst a;show(d,b)
def apd s sc deaf:j7 QL (kG s sc deaf):=by
 show Ck λb e=>Ck λa f=>?_
 let e:=cC.1 e;let f:=cC.1 f;intro c d;delta jM at d;simp only at d;split at d
 .cases d
 split at d
 .simp at d;rcases d with rfl|rfl|rfl<;>constructor<;>simp only<;>lia
 simp at d;subst d;constructor<;>simp only<;>lia
def zt(c:kH s) deaf:j7 QL (jl s deaf):=by
 show NK (apd _ _ _)<|NK (Ck λl d=>?_)<|Ck λm e=>?_
 .let(a,b,_):=c.wd l d;show Gs Ja Ja
 let a:=c.mo m e;show Gs Ja Ja
def NL(m:kH s)(o:kn.9=Jb)(p:j7 QL cs)(q:pY Zf cs more):∀u v,u<Jb+1->v<Jb+1->Di s Qy u v=bE Zf (aF (runC kn cs UW) u v):=by
 intro u v B C;let f:=m.sc;rw[Ci,<-Gq,(vf (jl s deaf++cs) (by rw[o];show yZ _)<|NK (zt m deaf) p).2,Cj Ja Ja];delta Di;simp only;cases g:Wa=I
 .rw[ak g,aj]
  .rw[lN,<-q u v,<-gH];delta jl;rw[lN,lN,<-gH,<-gH,<-hJ f,<-hJ f,<-hJ f,NJ f];haveI r:∀a b c d:Aa,(∃t w y z,a=bE Zf t/\b=bE Zf w/\c=bE Zf y/\d=bE Zf z)->jR a (jR b<|jR c d)=jR (jR (jR a b) c) d:=by
    intro a b c d (a,b,c,d,rfl,rfl,rfl,rfl);rw[hJ f,hJ f,hJ f,hJ f,hJ f,hJ f,gH,gH]
   haveI key:jR (if u=v then qc else O) (if u=0\/v=0 then O else C3 s Qy (u-1) (v-1))=bE Zf (bG (if u=v then bp else O)<|dh (kG s (bQ s.7:Nat) deaf) u v)/\(if u=0\/v=0 then O else tX (s.lags.map λl=>Pu l (u-1)<|v-1))=bE Zf (dh (nF (bQ s.7:Nat) UJ) u v):=by
    cases k:u=0\/v=0
    .rw[ak k,ak k,acr _ k,tH Ja,fX,xn,lL f];show(?_,J);split<;>rfl
    rw[aj k,aj k];obtain⟨i,rfl⟩:∃i,u=i+1:=(u-1,Ja);obtain⟨j,rfl⟩:∃j,v=j+1:=(v-1,Ja);let:=aco m (kn:=kn) (deaf:=deaf) (more:=more) (i:=i) (j:=j) Ja Ja;simp;show(this,(acq f _ _ _).3)
   rw[key.1,key.2];show r _ _ _ _ (_,_,_,_,J,J,(NJ f _ _ _).3,J)
  rw[zr,zr]at g;erw[jo,atF,as1,at0]at g;rintro (⟨a,b⟩|⟨a,b⟩)
  .rcases g.1 with h|h
   .show h a
   rw[b]at h;cases h
  rcases g.2 with h|h
  .show h a
  rw[b]at h;cases h
 rw[aj g,ak,xn,lL f]
 .rfl
 rw[zr,zr]at g;erw[jo,atF,as1,at0]at g;cases h:u≠0/\oX Qy (u-1)=au
 .show .inl h
 show .inr<|OT λA=>g (?_,?_)
 .cases e:u=0
  .show .inl λx=>x e
  show .inr (by cases n:oX Qy (u-1) with|true=>rfl|false=>show absurd (e,n) h)
 cases e:v=0
 .show .inl λx=>x e
 show .inr (by cases n:oX Qy (v-1) with|true=>rfl|false=>show absurd (e,n) A)
def mS s kn deaf cs:=runC kn cs UW
def acs(a:kn.9=Jb)(b:j7 QL cs):bO QL (mS s kn deaf cs):=(vf (u:=0) (v:=0) cs (by rw[<-a];show FO s kn deaf) b).1
def acu(c:kH s)(d:kn.9=Jb)(e:j7 QL cs)(f:pY Zf cs more):TM Zf QL (PM s Qy) (mS s kn deaf cs):=by
 intro u v a b;change gI (Pt _ _) u v=_
 delta Hx;rw[NG a b];show NL c d e f u v a b
def Gu(a:kH s)(b:kn.9=Jb)(c:j7 QL cs)(d:pY Zf cs more):TM Zf QL (hV s Qy) (aE<|mS s kn deaf cs):=acj a.sc (acs b c)<|acu a b c d
def Gv(a:kH s)(b:kn.9=Jb)(c:j7 QL cs)(d:pY Zf cs more):xM s Qy=if bN (aE<|mS s kn deaf cs)=I then O else Y (hV s Qy):=by delta xM;simp only;rw[show Hx s=s.events.9+1 from J,ack a.sc (Ce<|acs b c)<|Gu a b c d]
def acv s kn deaf:mS s kn deaf []=gO s kn deaf:=J
abbrev dB(s:bX)(g:JH):rR:=(dU s g,[],[])
def cT(s:bX)(r:kW QH):bX×List Int:=match r with
 |.ok r=>r
 |.error e=>(s,([e]))
def Cm s:oW s=dB s (-1):=by rfl
def vh(a:Um)(b:g<Jb):lX s g=.ok ZU:=by
 delta lX;cases h:g<0
 .let:g= -1:=by lia
  subst this;rfl
 rw[aj h,ak Ja];change qh ({oW s with known:=iU s g.6}:rR)=_
 delta dB dU oW;rw[aj Ja]
def mD(a:J6) g:TM Qe QL (hV s ZU) ZM:=Gu a (cs:=[]) (c6 s g) (λb h=>nomatch h)<|tI _
def acw(a:J6) g:TM Qe QL (PM s ZU) J0:=acu a (cs:=[]) (c6 s g) (λb h=>nomatch h)<|tI _
def ape(a:J6) g(b:u<Jb+1)(c:v<Jb+1):Di s ZU u v=bE Qe (aF J0 u v):=NL a (cs:=[]) (c6 s g) (λd h=>nomatch h) (tI _) u v b c
def Gw(a:J6) g:xM s ZU=if bN ZM=I then O else Y (hV s ZU):=Gv a (cs:=[]) (c6 s g) (λb h=>nomatch h)<|tI _
def xo(a:J6) g:tZ s ZU=if bN ZM=I then .error (-8) else .ok (hV s ZU):=by delta tZ;rw[Gw a];lia
def ck(b:a<=n)(c:n<=hi):cZ n a hi=.ok n.6:=by delta cZ O3;ext
def vi(h:e<Jb):mQ s e=.ok e:=ak h
def Gx w e:Dc w e=if oX w e=I then .ok () else .error (-6):=J
def Gy s g e:oX ZU e=kP ZP J5:=J
def NM g e f:dA s g [e,f]=if kP ZP J5=au\/kP ZP WZ=au then -6 else if bN ZM=I then -8 else 0:=by delta dA mq;rcases rE (kP (cM s g) (e+1)) with b|b<;>rcases rE (kP (cM s g) (f+1)) with a|a<;>simp[a]
def acx g e:dA s g [e]=if kP ZP J5=au then -6 else if bN ZM=I then -8 else 0:=by delta dA mq;rcases rE (kP (cM s g) (e+1)) with a|a<;>simp[a]
def apf{s:bX}(d:J6){g:JH}{e f:JD}(a:Um)(h:Jz)(he:e<Jb)(i:f<Jb):xN s g (e:JH) (f:JH)=if kP ZP J5=au\/kP ZP WZ=au then .error (-6) else .ok (dB s g,e,(f)):=by let j:=d.dr;delta xN;rw[ck a (by change g<=19;lia),ck (n:=(e:JH)) Ja (by change (e:JH)<=19;lia),ck (n:=(f:JH)) Ja (by change (f:JH)<=19;lia)];erw[ed,ue,dQ];rw[vh a h];erw[vi he,vi i,Gx,Gy];rcases rE (kP (cM s g) (e+1)) with b|b<;>rcases rE (kP (cM s g) (f+1)) with c|c<;>simp[b,c,Pure.pure,Except.pure]
def NN{s:bX}(c:J6){g:JH}{e f:JD}(h:Um)(i:Jz)(he:e<Jb)(j:f<Jb){F:rR×Nat×Nat->PN->kW QH}{d:Jw}(k:cT s (F (dB s g,e,(f))<|hV s ZU)=(s,(d))):cT s ((xN s g (e:JH) (f:JH)).bind λx=>(tZ s x.1).bind<|F x)=(s,(if dA s g [e,f] <0 then [dA s g [e,f]] else d)):=by
 rw[apf c h i he j,NM];cases a:kP ZP J5=au\/kP ZP WZ=au
 .rw[ak a,ak a];rfl
 rw[aj a,aj a];change cT s ((tZ s ZU).bind<|F (dB s g,e,(f)))=_
 rw[xo c];cases b:bN ZM=I
 .rw[ak b,ak b];rfl
 rw[aj b,aj b];show k
def apg(a:J6)(b:Um)(c:Jz)(he:e<Jb)(d:f<Jb):cT s (cq s<|.bounds g e f)=(s,(y8 s g e f)):=by
 apply NN a b c he d;change (s,(_))=(s,(_))
 dsimp only;rw[mD a g _ _ Ja Ja,mD a g _ _ Ja Ja,ND (fV a).1]
def aph(b:Yi) x y:(((if Pr qc (bE sc x)=I then 1 else 0)+(if aft iL (bE sc x)=I/\aft iL (bE sc y)=I then 2 else 0)+(if Pr qc (bE sc y)=I then 4 else 0):Nat):Int)=u5 x y:=by
 haveI c:∀x:SL,aft iL (bE sc x)= !cA x bp:=by
  intro x;rcases x with _|⟨a,o⟩
  .rfl
  change (mR _ _||(_==_&& !o))=_
  rw[Is.less b Cb<|d8 b,Is.beq b Cb<|d8 b];erw[cA,bp];cases o<;>simp<;>lia
 delta u5;rw[c,c,<-lL b,zo b,zo b];cases cA bp x<;>cases cA bp y<;>cases cA x bp<;>cases cA y bp<;>rfl
def api(a:J6)(b:Um)(c:Jz)(he:e<Jb)(d:f<Jb):cT s (cq s<|.order g e f)=(s,(y_ s g e f)):=by
 apply NN a b c he d;change (s,(_))=(s,(_))
 delta Vbdtah.orderOf;simp only;rw[mD a g _ _ Ja Ja,mD a g _ _ Ja Ja,aph (fV a).1]
def NO(c:Yi) up d life:((Dg (bE sc up) (bE sc d) life:Nat):Int)=lH (iF d) up (life*sc):=by
 delta Dg lH;simp only;haveI e:(bE sc d).any (λb=>C6 (dZ life)<|nS b.v)=((iF d).any λa=>decide<|(life:JH)*sc<=a.1):=by
  rcases d with _|⟨a,o⟩
  .rfl
  change C6 _ (nS _)=decide _
  rw[Is.atMost c (mC _) (d8 c).neg,rQ]
 haveI f:(bE sc up).any (λb=>mR b.v (dZ life)||(b.v==dZ life&&b.isOpen))=cA up (Y (life*sc,(au))):=by
  rcases up with _|⟨a,o⟩
  .rfl
  change (mR _ _||(_==_&&o))=_
  rw[Is.less c (d8 c)<|mC _,Is.beq c (d8 c)<|mC _];simp[cA]
 rw[e,f];split
 .rfl
 split<;>rfl
def apj(a:J6){i:JD}(e:Um)(j:Jz)(c:Qk[i]?=Y x)(k:f<Jb):cT s (cq s<|.life g i f)=(s,(w6 s g x f)):=by
 let o:=a.dr;let q:=a.oy;let hi:=(cU.1 c).1;let(he,_):=a.pc x<|bM c;haveI l:kQ s i=.ok x:=by delta kQ;rw[c]
 let n:cq s (.life g i f)=((cZ g (-1) oZ).bind λr=>(cZ i 0 9).bind λp=>(cZ f 0 oZ).bind λf=>(lX s g).bind λw=>(kQ s p).bind λp=>(mQ s f).bind λf=>(Dc w p.ev).bind λr=>(Dc w f).bind λr=>(tZ s w).bind λm=>.ok (s,([(Dg (gI m (p.ev+1) WZ) (gI m WZ<|p.ev+1) p.life:Int)]))):=J;rw[n,ck e (by change g<=19;lia),ck Ja Ja,ck Ja (by change (f:JH)<=19;lia),vh e j];erw[dQ,ed,l,vi k,Gx,Gy];delta w6;rw[NM];rcases rE (kP (cM s g) (x.ev+1)) with b|b
 .rcases rE (kP (cM s g) (f+1)) with d|d
  .erw[b,d,xo a];cases h:bN ZM=I
   .simp[h,cT]
   erw[h];change (s,(_))=(s,(_))
   rw[mD a g _ _ Ja Ja,mD a g _ _ Ja Ja,NO (fV a).1];simp
  simp[b,d,cT]
 simp[b,cT]
def add_zero x:bh bp x=x:=by
 rcases x with _|⟨a,o⟩
 .rfl
 simp[bh,bp]
def vj x:bh x bp=x:=by
 rcases x with _|⟨a,o⟩
 .rfl
 simp[bh,bp]
def vk x y z:bh (bh x y) z=bh x (bh y z):=by rcases x with _|⟨a,o⟩<;>rcases y with _|⟨b,p⟩<;>rcases z with _|⟨c,q⟩<;>simp[bh,Int.add_assoc,Bool.or_assoc]
def c7(M:JY):List Nat->SL|u::v::l=>bh Ul<|c7 M<|v::l|[a]=>bp|[]=>O
theorem acy(a:J6) g:∀l:List Nat,(∀u∈l,u<Jb+1)->aut s ZU l=bE Qe (c7 J0 l)
 |[],c=>rfl
 |[c],d=>(lL (fV a).1).3
 |u::v::l,h=>by
  change oY _ _=bE _ (bh _ _)
  rw[ape a g (h u Jc)<|h v Jc,acy a g (v::l) λx b=>h x<|df _ b,Cc (fV a).1]
def apk{b:Type} f(a:b) n:(aQ<|n+1).foldl f a=(aQ n).foldl (λx i=>f x JK) (f a 0):=by rw[asN,C8,List.foldl_map]
theorem acz M:∀row (p:Int) a,(aQ<|(p::row).9-1).foldl (λl i=>bh l<|aF M ((p::row).getD i 0+1).6 ((p::row).getD JK 0+1).6) a=bh a (c7 M<|(p::row).map λp=>(p+1).6)
 |[],p,a=>(vj a).3
 |q::row,p,a=>by
  change (aQ<|row.9+1).foldl _ _=_
  rw[apk];let:=acz M row q<|bh a<|aF M (p+1).6 (q+1).6;change (aQ row.9).foldl (λl i=>bh l<|aF M ((q::row).getD i 0+1).6 ((q::row).getD JK 0+1).6) (bh a<|aF M (p+1).6 (q+1).6)=_
  rw[show row.9=(q::row).9-1 from J,this,vk];rfl
def apl M(h:1<=row.9):za M row=c7 M (row.map λp=>(p+1).6):=by
 cases row with
 |nil=>cases h
 |cons p row=>
  delta za;rw[acz,add_zero]
theorem acA:∀l,ae3 s ZU l=if (l.all λx=>x== -1||(decide (0<=x/\x<((cM s g).9:Int))&&kP ZP (x+1).6))=I then .ok (l.map λp=>(p+1).6) else .error (-4)
 |[]=>rfl
 |p::l=>by
  delta ae3;rw[acA l,afw,c6 s g];cases h:p< -1\/Jb<=p
  .rw[ak h,aj];lia
  rw[aj h];cases a:p= -1
  .subst a;rw[aj Ja];erw[avr,auX,PK];split<;>rfl
  let b:0<=p:=Ja
  let e:(p+1).6=p.6+1:=Ja
  haveI c:oX ZU p.6=kP ZP (p+1).6:=by rw[e];rfl
  rw[c];haveI d:(p== -1)=au:=by exists a
  rw[d,cn (b,Ja),auO,PK];cases kP ZP (p+1).6 with
  |false=>rw[ak (b,J)];simp
  |true=>
   rw[aj Jc,PK];split<;>rfl
def apm(c:J6)(d:Um)(e:Jz):cT s (cq s<|.shows g row)=(s,(wX s g row)):=by
 let j:=c.dr;let f:cq s (.shows g row)=((cZ g (-1) oZ).bind λl=>(lX s g).bind λw=>(PX (decide<|1<=row.9/\row.9<=auv)<|-4).bind λl=>(ae3 s w row).bind λps=>.ok (s,(0::p_ (aut s w ps)))):=J;rw[f,ck d (by change g<=19;lia),vh d e];delta wX sZ PX;erw[dQ,show auv=40 from J];cases a:1<=row.9/\row.9<=40
 .rw[cn a,ak J,PK];erw[acA];cases b:(row.all λx=>x== -1||decide (0<=x/\x<((cM s g).9:Int))&&kP ZP (x+1).6)=I
  .erw[b,qj,cT];rw[acy c g,apl _ a.1];intro u h;let(p,i,rfl):=eJ.1 h;let k:=c6 s g;let:=mL.1 b p i;lia
  erw[b];rfl
 rw[iK a];rfl
def jm(n:JD)(M:JY):Prop:=∀u,u<n->aF M u u=bp
def acB(h:∀c∈cs,¬(c.1=u/\c.2.1=v)):dh cs u v=O:=by apply tE;intro x a;let(c,b,rfl):=eJ.1 a;show nG<|h c b
def acC(h:i≠j) u:dh (oI sc i j b hi) u u=O:=by
 apply acB;intro c a;delta oI at a;cases hi with
 |none=>rw[aum,fZ]at a;subst a;simp only;lia
 |some h=>
  rcases dC.1 a with a|a
  .rw[fZ]at a;subst a;simp only;lia
  rw[fZ]at a;subst a;simp only;lia
def Cn(b:J6)(d:kn.9=Jb) deaf:jm QL UW:=by
 intro u h;rw[Ci,(vf (jl s deaf) (by rw[d];show yZ _)<|zt b deaf).2,Cj Ja Ja,ak J];haveI e:dh (jl s deaf) u u=O:=by
  delta jl;rw[lN,lN,tH<|.inr<|.inr J];haveI f:dh (nF (bQ s.7:Nat) UJ) u u=O:=by
   delta nF;rw[oH];apply tE;intro x a;let(l,c,rfl):=eJ.1 a;show acC (λe=>(b.wd l c).2.2.1 ?_) u;lia
  haveI g:dh (tG (bQ s.7:Nat) UT) u u=O:=by
   delta tG;rw[oH];apply tE;intro x a;let(l,c,rfl):=eJ.1 a;show acC Ja u
  rw[f,g];rfl
 rw[e];split<;>rfl
def acD(h:x∈l):bG x (tl l)=tl l:=by
 induction l with
 |nil=>cases h
 |cons y l a=>
  rw[lJ];cases h with|head=>rw[<-gH,xm]|tail b h=>rw[<-gH,nE x y,gH,a h]
def zu x y:bG x y=x\/bG x y=y:=by delta bG;split<;>simp
def Gz:tl l=O\/tl l∈l:=by
 induction l with
 |nil=>show .inl J
 |cons y l a=>
  rw[lJ];rcases zu y (tl l) with h|h
  .rw[h];show .inr dM
  rw[h];grind
section
variable {n:Nat} {M:List (List SL)}
def apn(a:QX)(b:p<n):(M.getD p []).9=n:=by rw[a.2 _<|getD_mem (by rw[a.1];show b)];show a.1
def acE(a:QX)(c:g<n)(b:p<n):bq M g 0 p=if p=g then bp else O:=by
 change (BZ M.9 g).getD p O=_
 delta BZ;rw[a.1];cases e:p=g
 .ext
 rw[Mt e,aj e,jO,OX,ak b];rfl
def acF(a:QX){g p:JD}(b:p<n)(k:JD):bq M g QU p=tl ((aQ n).map λq=>bh Wh Yb):=by
 delta bq;change (wV M<|mr M g k).getD p O=_
 delta wV;rw[fG (x:=FQ (M.getD p [])<|mr M g k) (by rw[c8,cy (by rw[a.1];show b),jO,cy (by rw[a.1];show b)];rfl)];delta FQ tl;congr 1;let c:=apn a b;let lc:(mr M g k).9=n:=by rw[FT];show a.1
 apply Hi
 .rw[G_,c,lc];simp
 intro i d e;erw[List.getElem_zipWith,List.getElem_map,List.getElem_range];erw[G_,c,lc,Nat.min_self]at d;delta aF;rw[jO (l:=M.getD p []),cy (by rw[c];show d),jO (l:=mr M g k),cy (by rw[lc];show d)];rfl
def NQ(c:QX)(b:jm n M){g p:JD}(a:p<n)(k:JD):bq M g QU p=bG YF (tl<|(aQ n).map λq=>if q=p then O else bh Wh Yb):=by
 rw[acF c a];haveI:∀l:List Nat,p∈l->tl (l.map λq=>bh Wh Yb)=bG YF (tl<|l.map λq=>if q=p then O else bh Wh Yb):=by
  intro l d;haveI e:∀l:List Nat,bG YF (tl<|l.map λq=>bh Wh Yb)=bG YF (tl<|l.map λq=>if q=p then O else bh Wh Yb):=by
   intro l;induction l with
   |nil=>rfl
   |cons x l f=>
    rw[hY,hY,lJ,lJ,<-gH,nE _<|bh _ _,gH,f];cases e:x=p
    .subst e;rw[ak J,gk,b x a,add_zero,<-gH,xm]
    rw[aj e,<-gH,nE<|bh _ _,gH]
  rw[<-e];symm;apply acD;show eJ.2 (p,d,?_);rw[b p a,add_zero]
 show this _<|cC.2 a
def GA(sc n:JD)(M:JY)(g k:JD)(d:Array Aa):Prop:=∀p,p<n->d.getD p O=bE sc YF
def apo(b:Yi)(c:QX)(d:g<n):GA sc n M g 0 ((aQ n).map λp=>if p=g then qc else O).toArray:=by intro p a;rw[acE c d a,xn,lL b];simp[a];rfl
def apq(c:Yi)(f:QX)(i:jm n M)(j:Wi)(h:GA sc n M g k d):GA sc n M g QU (Hq n t d):=by
 intro p a;rw[NQ f i a,<-hJ c,<-Cd c,<-h p a];delta Hq;rw[kg];haveI e:((aQ n).map λq=>if q=p then O else oY (gI t p q) (d.getD q O))=(aQ n).map (bE sc∘λq=>if q=p then O else bh Wh Yb):=by
  show mK λq b=>?_
  let b:=cC.1 b;change _=bE sc (if q=p then O else _)
  rw[xn,<-Cc c,j p q a b,h q b];rfl
 rw[<-e];simp[a]
theorem Co(a:Yi)(b:QX)(c:jm n M)(d:Wi)(f:g<n):∀k,GA sc n M g k ((nR n t g k).getLastD #[])/\∃l,(nR n t g k).reverse=(nR n t g k).getLastD #[]::l/\(k=0->l=[])/\(∀j,k=j+1->l=(nR n t g j).reverse)
 |0=>(apo a b f,[],J,λa=>rfl,λj h=>by lia)
 |k+1=>by
  let(h,_):=Co a b c d f k;haveI e:(nR n t g QU).getLastD #[]=Hq n t ((nR n t g k).getLastD #[]):=by
   change (nR n t g k++[Hq n t<|(nR n t g k).getLastD #[]]).getLastD #[]=_
   simp
  show(by rw[e];show apq a b c d h,(nR n t g k).reverse,?_,λh=>by lia,λj i=>by rw[show j=k by lia]);rw[e];change (nR n t g k++[Hq n t<|(nR n t g k).getLastD #[]]).reverse=_
  rw[atc];rfl
def bL x y:=bG x y=x
def bL.refl x:bL x x:=xm x
def bL.trans(a:bL x y)(b:bL y z):bL x z:=by delta bL at*;rw[<-a,gH,b]
def bL.antisymm(a:bL x y)(b:bL y x):x=y:=by delta bL at*;rw[<-a,nE,b]
def GB x y:bL (bG x y) x:=by delta bL;rw[nE<|bG x y,<-gH,xm]
def GC x y:bL (bG x y) y:=by delta bL;rw[gH,xm]
def Cp(h:x∈l):bL (tl l) x:=by delta bL;rw[nE];show acD h
def tJ:bL x y↔cA y x=au:=by
 delta bL bG;constructor
 .intro h;cases e:cA y x with
  |false=>rfl
  |true=>
   rw[ak e]at h;subst h;rcases y with _|⟨a,o⟩
   .cases e
   cases o<;>simp[cA]at e
 lia
def acG(e:bL x y)(d:cA y z=I):cA x z=I:=by
 rw[tJ]at e;rcases x with _|⟨a,o⟩<;>rcases y with _|⟨b,p⟩<;>rcases z with _|⟨c,q⟩
 .show d
 .show d
 .cases e
 .cases e
 .cases d
 .cases d
 .rfl
 cases o<;>cases p<;>cases q<;>simp[cA]at*<;>lia
def lO(e:bL x y)(f:bL z w):bL (bh x z) (bh y w):=by
 rw[tJ]at*
 rcases x with _|⟨a,o⟩<;>rcases y with _|⟨b,p⟩<;>rcases z with _|⟨c,q⟩<;>rcases w with _|⟨d,r⟩<;>simp_all [bh,cA]
 cases o<;>cases p<;>cases q<;>cases r<;>ext<;>lia
def apr(a:QX)(b:jm n M)(c:p<n) k:bL (bq M g QU p) YF:=by rw[NQ a b c];show GB _ _
theorem NR(a:QX)(b:jm n M)(c:p<n):∀k,j<=k->bL YF (bq M g j p)
 |0,h=>by rw[show j=0 by lia];show bL.refl _
 |k+1,h=>by
  cases e:j=k+1
  .rw[e];show bL.refl _
  show (apr a b c k).trans<|NR a b c k Ja
def GD(h:(aQ m).find? f=Y k):f k=I/\k<m/\∀j,j<k->f j=au:=by ext
def acH(a:f k=I)(b:k<m)(c:∀j,j<k->f j=au):(aQ m).find? f=Y k:=by ext
theorem GF:∀{l:List Nat},(∀x∈l,f x=g x)->l.find? f=l.find? g
 |[],b=>rfl
 |x::l,h=>by
  rw[afb,afb,h x dM,GF λy a=>h y<|df _ a]
def GG C p a:g_ C p a<=a:=by delta g_;cases h:(aQ<|a+1).find? λf=>decide (C f p=C a p) with|none=>show bf _|some k=>let:=(GD h).2.1;simp;lia
def aps(h:C QU p=C k p):g_ C p QU=g_ C p k:=by
 delta g_;haveI e:(aQ QU).find? (λf=>decide<|C f p=C k p)≠O:=by grind
 let(j,d):=ase.1 e;rw[d];let(a,b,c):=GD d;rw[acH (k:=j) (by rw[h];show a) Ja (λi hi=>by rw[h];show c i hi)];rfl
def apt(h:C QU p≠C k p)(mono:∀j i,i<=j->bL (C j p) (C i p)):g_ C p QU=k+1:=by
 delta g_;rw[acH (k:=QU) Jc Ja]
 .rfl
 intro j b;show iK λe=>h ?_
 let a:=mono k j Ja;rw[e]at a;show (mono QU k Ja).antisymm a
theorem acI C:∀(a b p f:Nat),f<=a->f<=b->j4 M C a p f=j4 M C b p f
 |0,0,g,i,j,k=>rfl
 |0,b+1,p,f,h,g=>by
  let:f=0:=Ja
  subst this;rfl
 |a+1,0,p,f,g,h=>by
  let:f=0:=Ja
  subst this;rfl
 |a+1,b+1,p,f,c,d=>by
  change (if f=0 then [] else fg M C p f::j4 M C a Uz (g_ C Uz<|f-1))=if f=0 then [] else fg M C p f::j4 M C b Uz (g_ C Uz<|f-1)
  cases e:f=0
  .rw[ak e,ak e]
  rw[aj e,aj e,acI C a b]
  .let:=GG C Uz<|f-1;lia
  let:=GG C Uz<|f-1;lia
def apu(h:C QU p=C k p):jj M C p QU=jj M C p k:=by
 delta jj;rw[aps h,acI C QU k]
 .let:=GG C p k;lia
 show GG C p k
def apv(h:C QU p≠C k p)(mono:∀j i,i<=j->bL (C j p) (C i p)):jj M C p QU=p::jj M C (fg M C p QU) k:=by delta jj;rw[apt h mono];rfl
def apw(f:QX)(i:jm n M)(j:p<n)(h:bq M g QU p≠bq M g k p):∃q,q<n/\(aQ n).find? (λq=>decide<|q≠p/\bh Wh Yb=bq M g QU p)=Y q:=by
 cases d:(aQ n).find? (λq=>decide<|q≠p/\bh Wh Yb=bq M g QU p) with
 |some q=>show(q,(GD d).2.1,J)
 |none=>
  exfalso;let e:=NQ f i (g:=g) j k;rcases zu (bq M g k p) (tl ((aQ n).map λq=>if q=p then O else bh (aF M p q) (bq M g k q))) with a|a
  .rw[a]at e;show h e
  rw[a]at e;rcases Gz with c|c
  .rw[c]at e a;rw[fX]at a;rw[a]at h;show h e
  let(q,l,b):=eJ.1 c;cases eq:q=p
  .rw[ak eq]at b;rw[<-b]at e a;rw[fX]at a;rw[a]at h;show h e
  rw[aj eq]at b;show (zP.1 d) q l<|cn (eq,by rw[b,e])
theorem NS(c:Yi)(d:QX)(l:jm n M)(m:Wi)(s:g<n):∀(k p:Nat),p<n->auH n t (nR n t g k).reverse p=jj M (bq M g) p k
 |0,p,H=>rfl
 |k+1,p,f=>by
  let(y,E,z,_,f1):=Co c d l m s QU;let(v,F,A,_):=Co c d l m s k;let u:=NS c d l m s k;rw[z,f1 k J];rw[A]at u⊢;delta auH;rw[y p f,v p f];cases e:bq M g QU p=bq M g k p
  .rw[ak<|by rw[e],u p f,apu e]
  rw[aj λx=>e<|NF c x,apv e λj i h=>NR d l f j h];let(q,B,w):=apw d l f e;haveI C:(aQ n).find? (λq=>decide (q≠p)&&oY (gI t p q) (((nR n t g k).getLastD #[]).getD q O)==bE sc (bq M g QU p))=Y q:=by
   rw[<-w];apply GF;intro r o;let o:=cC.1 o;rw[m p r f o,v r o,Cc c,nO];erw[jo,oN,vM];constructor
   .intro(a,b);show(a,NF c b)
   intro(a,b);show(a,by rw[b])
  rw[C];haveI D:fg M (bq M g) p QU=q:=by
   delta fg;rw[d.1,atA,w];rfl
  rw[D];change p::_=p::_
  rw[u q B]
end
def apx(b:J6)(k:Um)(l:Jz)(he:e<Jb)(m:f<Jb):cT s (cq s<|.chain g e f)=(s,(y9 s g e f)):=by
 apply NN b k l he m;let h:=(fV b).1;let d:=sX s g;let i:=Cn b (c6 s g) [];let j:=acw b g;let(n,_):=Co h d i j (g:=WZ) Ja QL;haveI o:auu s ZU J5 WZ=if bq J0 WZ QL J5=O then O else Y (jj J0 (bq J0 WZ) J5 QL):=by
  delta auu;simp only;rw[show Hx s=s.events.9+1 from J,n J5 Ja,NS h d i j Ja _ _ Ja];haveI:bE Qe (bq J0 WZ QL J5)=O↔bq J0 WZ QL J5=O:=by
   cases bq J0 WZ QL J5 with|none=>simp[bE]|some a=>simp[bE]
  erw[this]
 rw[o];delta wW;rw[d.1];cases c:bq J0 WZ QL J5=O
 .rw[ak c,ak c];rfl
 rw[aj c,aj c];rfl
section
variable {n:Nat} {M:List (List SL)}
theorem j8:∀a x c,c7 M (a++x::c)=bh (c7 M<|a++[x]) (c7 M<|x::c)
 |[],x,c=>by change _=bh bp _;rw[add_zero];rfl
 |[y],x,c=>by change bh _ _=bh (bh _ bp) _;rw[vj]
 |y::z::a,x,c=>by
  change bh (aF M y z) (c7 M<|z::a++x::c)=bh (bh (aF M y z)<|c7 M<|z::a++[x]) _
  rw[j8 (z::a) x c,vk]
structure Wk(n:JD)(l:ZR)(u v:JD):Prop where
 hd:l.head?=Y u
 lt:l.getLast?=Y v
 pt:∀x∈l,x<n
def Wk.last(w:Wk n l u v):∃a,l=a++[v]:=by let:=w.lt;rwa [asn]at this
def Wk.first(w:Wk n l u v):∃c,l=u::c:=by let:=Y9;cases l<;>ext
def mF{l:ZR}(h:l≠[]):(a++l).getLast?=l.getLast?:=by ext;induction e:l.getLast?<;>ext
def Wk.join(b:Wk n (a++[k]) u k)(d:Wk n (k::c) k v):Wk n (a++k::c) u v:=by
 show(?_,?_,?_)
 .let:=b.hd;cases a with|nil=>show this|cons y a=>show this
 .let:=d.lt;rwa [mF Jc]
 intro x e;rcases dC.1 e with h|h
 .show b.pt x<|nL _ h
 show d.pt x h
def Cq(n:JD)(M D:JY):Prop:=∀u v,u<n->v<n->aF D u v≠O->∃l,Wk n l u v/\2<=l.9/\c7 M l=aF D u v
def apy:Cq n M M:=by
 show λu v a b h=>([u,v],(J,J,by ext),JR,?_)
 change bh Ul bp=_
 rw[vj]
def apz(d:bO n D)(f:k<n)(h:Cq n M D):Cq n M (fF D k):=by
 intro u v g i b;rw[yY d.2 (by rw[d.1];show f) (by rw[d.1];show g) (by rw[d.1];show i)]at b⊢;rcases zu (aF D u v) (bh (aF D u k) (aF D k v)) with e|e
 .rw[e]at b⊢;show h u v g i b
 rw[e]at b⊢;let(q,j,m,o):=h u k g f (λx=>b (by rw[x];rfl));let(r,l,s,p):=h k v f i (λx=>b (by rw[x];cases aF D u k<;>rfl));let(a,rfl):=j.last;let(c,rfl):=l.first;show(a++k::c,j.join l,?_,?_)
 .rw[cE]at m⊢;lia
 rw[j8,o,p]
def acJ(c:QX):Cq n M JI:=by
 delta aE;rw[c.1];haveI:∀k,k<=n->Cq n M ((aQ k).foldl fF M)/\bO n ((aQ k).foldl fF M):=by
  intro k;induction k with
  |zero=>intro _;show(apy,c)
  |succ k d=>
   intro e;let(a,b):=d Ja;rw[j3];show(apz b Ja a,Gp b Ja)
 ext
def acK(h:cA (bh x y) bp=I):cA x bp=I\/cA y bp=I:=by
 rcases x with _|⟨a,o⟩<;>rcases y with _|⟨b,p⟩
 .cases h
 .cases h
 .cases h
 cases o<;>cases p<;>simp[bh,cA,bp]at h⊢<;>lia
def NT x y:bh x y=bh y x:=by rcases x with _|⟨a,o⟩<;>rcases y with _|⟨b,p⟩<;>simp[bh,Int.add_comm,Bool.or_comm]
theorem NU:∀{n}{l:List Nat},l.Nodup->(∀x∈l,x<n)->l.9<=n
 |0,l,f,h=>by
  cases l with|nil=>show bf _|cons x l=>show absurd (h x dM) Ja
 |n+1,l,hd,h=>by
  cases b:n∈l
  .haveI c:(l.erase n).9<=n:=NU (hd.erase n) λx a=>by
    let:=(List.Nodup.mem_erase_iff hd).1 a;let:=h x this.2;lia
   ext
  let:=NU (n:=n) hd λx a=>by
   let d:=h x a;let:x≠n:=λe=>b<|e▸a
   lia
  lia
def NV{l:ZR}(h:¬l.Nodup):∃a x b c,l=a++x::W2:=by
 induction l with
 |nil=>show absurd xK h
 |cons y l f=>
  cases d:y∈l
  .let(b,c,e):=atr d;show([],y,b,c,by rw[e];rfl)
  let:¬l.Nodup:=λhd=>h<|mM.2 (d,hd)
  let(a,x,b,c,e):=f this;show(y::a,x,b,c,by rw[e];rfl)
theorem acL(b:QX)(d:jm n M){g:JD}(c:g<n):∀(l:List Nat) (k p:JD),Wk n l p g->l.9<=k+1->bL YF (c7 M l)
 |[],r,s,w,t=>by let:=Y9;cases this
 |[x],k,p,w,h=>by
  let a:=Y9;let e:=w.lt;simp at a e;subst a;subst e;let:=NR b d (g:=x) c (j:=0) k Ja;rw[acE b c c,ak J]at this;show this
 |x::y::l,0,p,w,h=>by simp at h
 |x::y::l,k+1,p,w,h=>by
  let a:=Y9;simp at a;subst a;haveI f:Wk n (y::l) y g:=(J,by let:=w.lt;rw[CS]at this;show this,λz i=>w.pt z<|df _ i);let m:=w.pt x dM;let o:=f.pt y dM;haveI q:=acL b d c (y::l) k y f (by simp at h⊢;lia);rw[acF b m];show bL.trans (Cp (x:=bh (aF M x y)<|bq M g k y)<|eJ.2 (y,cC.2 o,J)) ?_;show lO YO q
theorem NW(j:QX)(g:jm n M):∀m l v,l.9<=m->Wk n l v v->2<=l.9->cA (c7 M l) bp=I->∃v q,v<n/\q<n/\q≠v/\cA (bh (aF M v q)<|bq M v (n-1) q) bp=I
 |0,l,v,h,D,p,E=>by lia
 |m+1,l,v,s,w,p,f=>by
  let(t,rfl):=w.first;cases t with
  |nil=>simp at p
  |cons q r=>
   let k:=w.pt v dM;let o:Wk n (q::r) q v:=(J,by let:=w.lt;rw[CS]at this;show this,λz A=>w.pt z<|df _ A);cases hd:(q::r).Nodup
   .let C:=NU hd o.pt;cases e:q=v
    .subst e;cases r with
     |nil=>
      let:c7 M [q,q]=bp:=by
       change bh (aF M q q) bp=_
       rw[g q k];rfl
      rw[this]at f;cases f
     |cons z r=>
      exfalso;let:q∈z::r:=aeK o.lt;ext
    show(v,q,k,w.pt q<|df _ dM,e,acG (lO YO<|acL j g k (q::r) (n-1) q o Ja) f)
   let(a,x,b,c,e):=NV hd;let i:v::q::r=(v::a)++x::W2:=by rw[e];rfl
   let B:c7 M (v::q::r)=bh (c7 M<|x::b++[x]) (c7 M<|(v::a)++x::c):=by
    rw[i,j8<|v::a,show x::W2=(x::b)++x::c from J,j8<|x::b,j8 (v::a) x c,<-vk,NT<|c7 M<|v::a++[x],vk]
   rw[B]at f;let u:∀y∈(v::a)++x::W2,y<n:=by rw[<-i];show w.pt
   let len:(v::q::r).9=a.9+b.9+c.9+3:=by rw[i];simp;lia
   rcases acK f with h|h
   .show NW j g m (x::b++[x]) x ?_ (J,mF Jc,?_) Jc h
    .simp at s len⊢;lia
    intro y d;apply u;simp at d⊢;rcases d with rfl|d|rfl
    .simp
    .simp[d]
    simp
   show NW j g m ((v::a)++x::c) v ?_ (J,?_,?_) (by simp;lia) h
   .simp at s len⊢;lia
   .let:=w.lt;rw[i,mF Jc,show x::W2=(x::b)++x::c from J,mF Jc]at this;rwa [mF Jc]
   intro y d;apply u;simp at d⊢;rcases d with rfl|d|rfl|d
   .simp
   .simp[d]
   .simp
   simp[d]
def apA(c:QX)(d:jm n M)(h:bN JI=I):∃v q,v<n/\q<n/\q≠v/\cA (bh (aF M v q)<|bq M v (n-1) q) bp=I:=by let(u,a,b):=lT.1 h;rw[sS,c.1]at a;let a:=cC.1 a;let(l,w,f,e):=acJ c u u a a (λe=>by rw[e]at b;cases b);rw[<-e]at b;show NW c d l.9 l u JR w f b
theorem NX(f:b->Option c):∀l:List b,Hf f l=l.findSome? f
 |[]=>rfl
 |a::l=>by
  delta Hf;rw[Hb,NX f l];cases f a<;>rfl
def apB(a:Yi)(c:QX)(g:jm n M)(d:Wi)(f:v<n) k:Pm n t k v=(u0 M k v).map λq=>v::(jj M (bq M v) q k).dropLast:=by
 let(h,_):=Co a c g d f k;delta Pm u0;simp only;rw[c.1];haveI e:(aQ n).find? (λq=>decide (q≠v)&&Pr (oY (gI t v q)<|((nR n t v k).getLastD #[]).getD q O) qc)=(aQ n).find? (λq=>decide (q≠v)&&cA (bh (aF M v q)<|bq M v k q) bp):=by
  apply GF;intro q b;let b:=cC.1 b;rw[d v q f b,h q b,Cc a,<-lL a,zo a]
 rw[e];cases i:(aQ n).find? (λq=>decide (q≠v)&&cA (bh (aF M v q)<|bq M v k q) bp) with
 |none=>rfl
 |some q=>
  change Y _=Y _
  rw[NS a c g d f k q<|(GD i).2.1];rfl
theorem NY{a b:Type}{f g:a->Option b}:∀{l:List a},(∀x∈l,f x=g x)->l.findSome? f=l.findSome? g
 |[],d=>rfl
 |x::l,h=>by
  rw[Hb,Hb,h x dM,NY λy c=>h y<|df _ c]
theorem acM{a b c:Type} f(g:b->c):∀l:List a,(l.findSome? f).map g=l.findSome? λx=>(f x).map g
 |[]=>rfl
 |x::l=>by
  rw[Hb,Hb];cases f x with|none=>show acM f g l|some y=>rfl
def apC(b:Yi)(a:QX)(c:jm n M)(d:Wi) k:Hf (λv=>Pm n t k v) (aQ n)=pQ M k:=by rw[NX];delta pQ sW;rw[acM,a.1];apply NY;intro v e;rw[apB b a c d (cC.1 e) k];cases u0 M k v<;>rfl
def apD(c:Yi)(a:QX)(b:jm n M)(d:Wi)(s:1<=n)(f:bN JI=I):∃r,Hf (λk=>Hf (λv=>Pm n t QU v)<|aQ n) (aQ n)=Y r/\pS M=r:=by
 rw[NX,NY λk w=>apC c a b d QU];delta pS;rw[a.1];let(v,q,g,h,j,l):=apA a b f;let u:2<=n:=Ja
 haveI m:pQ M (n-1)≠O:=by
  delta pQ sW;intro e;rw[aeC,G7]at e;let:=e v (by rw[a.1];show cC.2 g);rw[aeC]at this;let:=zP.1 this q (by rw[a.1];show cC.2 h);apply this;rw[l,cn j];rfl
 haveI o:(aQ<|n-1).findSome? (λi=>pQ M JK)≠O:=by
  intro e;rw[G7]at e;let:=e (n-2)<|cC.2 Ja;rw[show n-2+1=n-1 by lia]at this;show m this
 let(r,p):=ase.1 o;ext;conv=>lhs;rw[show n=(n-1)+1 by lia]
 rw[oR,asZ,p];rfl
end
def apE(a:J6)(c:Um)(d:Jz):cT s (cq s<|.clash g)=(s,(wY s g)):=by
 let h:=a.dr;let e:cq s (.clash g)=((cZ g (-1) oZ).bind λk=>(lX s g).bind λw=>if (xM s w).isSome=I then .ok (s,([0])) else match auI s w with
   |none=>.ok (s,([0]))
   |some l=>.ok (s,((l.9:Int)::tY l))):=J
 rw[e,ck c (by change g<=19;lia),vh c d];erw[dQ];rw[Gw a];delta wY;cases b:bN ZM=I
 .let(r,f,i):=apD (fV a).1 (sX s g) (Cn a (c6 s g) []) (acw a g) Ja b;let j:auI s ZU=Y r:=f;ext;rfl
 rw[aj b,aj b];rfl
def apF(a:J6):cT s (cq s .liars)=(s,(wZ s)):=by
 let b:cq s .liars=match afs s with
  |none=>.error<|-8
  |some l=>.ok (s,(l.9::VbdtCore.ints l)):=J
 haveI c:afs s=(qf Jt).find? λl=> !s_ s l:=by
  delta afs;congr 1;funext l;haveI:({oW s with deaf:=l}:rR)=(dU s<|-1,l,[]):=by rfl
  rw[this,Gv a (cs:=[]) WA (λd h=>nomatch h)<|tI _];delta s_;rw[acv];cases bN (aE<|gO s (dU s<|-1) l)<;>rfl
 rw[b,c];delta wZ;cases (qf Jt).find? λl=> !s_ s l<;>rfl
def Cr(b:Yi)(c:0<k) x:bE (sc*k) (uL k x)=bE sc x:=by
 rcases x with _|⟨a,o⟩
 .rfl
 change Y U9=Y U9
 rw[acb b c]
def apG{k:JD}{M}(a:QX)(b:u<n)(e:v<n):aF (jG k M) u v=uL k Ul:=by delta aF jG;obtain⟨row,c⟩:∃row,M[u]?=Y row:=(_,cy (by rw[a.1];show b));let d:=a.2 row<|bM c;rw[a.1]at d;ext
def acN{M}(a:QX):bO n (jG k M):=by show(by delta jG;rw[bz];show a.1,?_);intro r b;delta jG at b⊢;let(x,c,rfl):=eJ.1 b;rw[bz,bz,a.2 x c]
def apH(g:J6)(m:kn.9=Jb)(n:u<Jb+1)(o:v<Jb+1):∃a b c,∀more,Di s Qy u v=if Wa=I then jR (bE Zf a) (jR (bE Zf b)<|jR (bE Zf c)<|tX<|(more.filter λx=>x.1==u&&x.2.1==v).map λx=>Y x.2.2) else (if u=v then qc else O):=by
 let f:=(fV g).1;show(bG (if u=v then bp else O)<|dh (kG s (bQ s.7:Nat) deaf) u v,dh (nF (bQ s.7:Nat) UJ) u v,dh (tG (bQ s.7:Nat) UT) u v,λmore=>?_);let k:Wa=I↔¬((u≠0/\oX Qy (u-1)=au)\/(v≠0/\oX Qy (v-1)=au)):=by
  rw[zr,zr];cases oX Qy (u-1)<;>cases oX Qy (v-1)<;>simp<;>lia
 delta Di;simp only;cases e:Wa=I
 .rw[ak e,aj<|k.1 e];let key:jR (if u=v then qc else O) (if u=0\/v=0 then O else C3 s Qy (u-1) (v-1))=bE Zf (bG (if u=v then bp else O)<|dh (kG s (bQ s.7:Nat) deaf) u v)/\(if u=0\/v=0 then O else tX (s.lags.map λl=>Pu l (u-1)<|v-1))=bE Zf (dh (nF (bQ s.7:Nat) UJ) u v):=by
   cases d:u=0\/v=0
   .rw[ak d,ak d,acr _ d,tH Ja,fX,xn,lL f];show(?_,J);split<;>rfl
   rw[aj d,aj d];obtain⟨i,rfl⟩:∃i,u=i+1:=(u-1,Ja);obtain⟨j,rfl⟩:∃j,v=j+1:=(v-1,Ja);let:=aco (s:=s) g (kn:=kn) (deaf:=deaf) (more:=more) (i:=i) (j:=j) Ja Ja;simp;show(this,(acq f _ _ _).3)
  rw[key.1,key.2,NJ f]
 rw[aj e,ak<|awi.1 λh=>e<|k.2 h]
def apI{s:bX}(m:J6){kn:List Bool}{deaf:ZR}{more:List (Nat×Nat×xO)}{cs:List Ct}{k:JD}(f:0<k)(n:kn.9=Jb)(p:j7 QL cs)(q:pY (bQ s.7*k) cs more):TM (bQ s.7*k) QL (PM s Qy) (runC kn cs<|jG k UW):=by
 intro u v i j;let g:=(fV m).1;let d:0<bQ s.7*k:=iN g f;change gI (Pt _ _) u v=_
 delta Hx;rw[NG i j];haveI o:bO QL UW:=by rw[<-n];show FO s kn deaf
 rw[(vf (u:=u) (v:=v) cs (acN o) p).2,apG o i j];let e:=NL m (kn:=kn) (deaf:=deaf) (cs:=[]) n (λt h=>nomatch h) (tI _) u v i j;let e:Di s (kn,deaf,[]) u v=bE Zf (aF UW u v):=e;let(a,b,c,h):=apH m (deaf:=deaf) n i j;rw[h]at e;rw[h];cases l:Wa=I
 .rw[ak l]at e⊢;rw[ak l,<-q u v,<-hJ d,Cr g f,<-e];let r:tX ((([]:List<|Nat×Nat×xO).filter λx=>x.1==u&&x.2.1==v).map λx=>Y x.2.2)=bE (bQ s.7*k) O:=J;rw[r,<-Cr g f a,<-Cr g f b,<-Cr g f c,hJ d,hJ d,hJ d,hJ d,hJ d,hJ d,hJ d,fX,gH,gH]
 rw[aj l]at e⊢;rw[aj l,Cr g f,<-e]
def acO(b:Yi):∀{cs:List Ct}{more:List (Nat×Nat×xO)},cs.map (λc=>(c.1,c.2.1,(bE sc c.2.2)))=more.map (λx=>(x.1,x.2.1,(Y x.2.2)))->pY sc cs more:=by
 intro cs more h u v;haveI d:(more.filter λx=>x.1==u&&x.2.1==v).map (λx=>(Y x.2.2:Aa))=((more.map λx=>(x.1,x.2.1,((Y x.2.2:Aa)))).filter λx=>x.1==u&&x.2.1==v).map λx=>x.2.2:=by
  rw[auo,kg];rfl
 rw[d,<-h,auo,kg];haveI e:∀l:List Ct,dh l u v=tl ((l.filter λc=>c.1==u&&c.2.1==v).map λc=>c.2.2):=by
  intro l;induction l with
  |nil=>rfl
  |cons c l f=>
   rw[hU,f,C5];delta tF;cases a:c.1=u/\c.2.1=v
   .rw[ak a,ak<|by ext,hY,lJ]
   rw[aj a,aj<|by simpa using a,gk]
 rw[e,<-Cd b,kg];rfl
def mxO(a:Option Int)(x:JH):=match a with
 |none=>Y x
 |some y=>Y<|max y x
def mnO(a:Option Int)(x:JH):=match a with
 |none=>Y x
 |some y=>Y<|min y x
def NZ a(l:Jw):=l.foldl mxO a
def N0 a(l:Jw):=l.foldl mnO a
def apJ l:∀y,NZ (Y y) l=Y (l.foldl max y):=by induction l with|nil=>intro y;rfl|cons x l a=>intro y;show a<|max y x
def apK l:∀y,N0 (Y y) l=Y (l.foldl min y):=by induction l with|nil=>intro y;rfl|cons x l a=>intro y;show a<|min y x
def apL l:NZ O l=if l=[] then O else Y (ip l):=by cases l with|nil=>rfl|cons x l=>rw[aj Jc];show apJ l x
def apM l:N0 O l=if l=[] then O else Y (jI l):=by cases l with|nil=>rfl|cons x l=>rw[aj Jc];show apK l x
abbrev Cs(x:Aa):=x.map λb=>b.v
def apN(d:0<c):∀(L:List SL) e a,Cs e=a.map (λz=>cK z c)->Cs ((L.map<|bE c).foldl (λa x=>match a,x with
 |none,n=>x
 |n,O=>a
 |some b,Y y=>if mR b.v y.v=I\/(b.v=y.v/\y.isOpen=I) then Y y else Y b) e)=(NZ a<|L.filterMap λl=>l.map λp=>p.1).map λz=>cK z c:=by
 intro L;induction L with
 |nil=>intro e a h;show h
 |cons l L g=>
  intro e a h;rw[O4];rcases l with _|⟨z,o⟩
  .show g _ _ ?_;cases e<;>show h
  erw[zW];apply g _ _;rcases e with _|b
  .rcases a with _|y
   .rfl
   cases h
  rcases a with _|y
  .cases h
  let k:b.v=cK y c:=bt h;change Cs (if mR b.v (cK z c)=I\/(b.v=cK z c/\o=I) then _ else Y b)=Y (cK (max y z) c)
  let i:=h;rw[k,(d8 d).less d<|d8 d];cases f:y<z
  .rw[ak<|.inl<|cn f,aur<|ja f];rfl
  cases j:y=z
  .subst j;rw[Int.max_self];split
   .rfl
   show i
  haveI m:¬(decide (y<z)=I\/(cK y c=cK z c/\o=I)):=by
   rintro (a|a)
   .show f<|cV a
   show j<|((d8 d).inj d<|d8 d).1 a.1
  rw[aj m,auG Ja];show i
def apO(g:0<i):∀(L:List SL) c a,c.map (λp=>p.1)=a->(L.foldl bG c).map (λp=>p.1)=N0 a (L.filterMap λl=>l.map λp=>p.1):=by
 intro L;induction L with
 |nil=>intro c a h;show h
 |cons l L d=>
  intro c a h;simp;rcases l with _|⟨z,o⟩
  .show d _ _ ?_;assumption
  simp;apply d _ _;rcases c with _|⟨b,p⟩
  .subst h;rfl
  subst h;change (bG (Y (b,(p)))<|Y (z,(o))).map (λp=>p.1)=Y (min b z)
  delta bG;cases e:z<b
  .rw[ak<|by simp[cA,e],Int.min_eq_right Ja];rfl
  cases f:z=b
  .subst f;rw[Int.min_self];generalize cA (Y (z,(o))) (Y (z,(p)))=B;cases B<;>rfl
  rw[aj (by simp[cA];lia),Int.min_eq_left Ja];rfl
section
variable {sc n:Nat} {F:List (List SL)} {t:PN}
abbrev fW a(ms:Jw):=ms.map λz=>cK z a
def mG(a:Yi):0<b8 sc:=iN a Jc
def apP:((b8 sc:JD):Int)=sc*HV:=by rfl
def acP(a:Yi) z:cK z sc=cK (z*HV) JW:=by let:=acb (n:=z) a (k:=ZG) Jc;rw[<-this];rfl
def GH(F:JY)(ms:Jw)(e:JD):List SL:=(aQ ms.9).map λi=>(aF F J5 i).map λa=>(ms.getD i 0-a.1*HV,(a.2))
def zw(F:JY)(ms:Jw)(e:JD):List SL:=(aQ ms.9).map λi=>(aF F i J5).map λa=>(ms.getD i 0+a.1*HV,(a.2))
def acQ{a:Type}(l:UI) d{c:Type}(f:a×Nat->c):l.zipIdx.map f=(aQ l.9).map λi=>f (l.getD i d,(i)):=by
 apply Hi
 .simp
 intro i b e;simp at b;simp[b]
def apQ(b:Yi)(c:TM sc n t F) ms(d:ms.9<n):((fW JW ms).zipIdx.map λx=>oY (rH x.1)<|t7<|gI t (fW JW ms).9 x.2)=(GH F ms<|ms.9-1).map (bE JW)\/ms=[]:=by
 cases he:ms=[]
 .show .inr he
 show .inl ?_;rw[acQ _<|iL];delta GH;rw[kg,bz];show mK λi hi=>?_
 let hi:=cC.1 hi;change oY (rH<|(fW JW ms).getD i iL) (t7<|gI t ms.9 i)=bE JW ((aF F (ms.9-1+1) i).map _)
 rw[show ms.9-1+1=ms.9 by lia,c _ _ d Ja];haveI e:(fW JW ms).getD i iL=cK (ms.getD i 0) JW:=by
  rw[fG];rw[c8,jO,cy hi];rfl
 rw[e];rcases aF F ms.9 i with _|⟨a,o⟩
 .rfl
 change Y (jr (lZ _<|nS<|cK a sc) _)=Y U9
 rw[acP b,j6 (mG b)<|(d8<|mG b).add (mG b) (d8<|mG b).neg];rfl
def apR(b:Yi)(c:TM sc n t F) ms(d:ms.9<n):((fW JW ms).zipIdx.map λx=>oY (rH x.1)<|gI t x.2 (fW JW ms).9)=(zw F ms<|ms.9-1).map (bE JW)\/ms=[]:=by
 cases he:ms=[]
 .show .inr he
 show .inl ?_;rw[acQ _<|iL];delta zw;rw[kg,bz];show mK λi hi=>?_
 let hi:=cC.1 hi;change oY (rH<|(fW JW ms).getD i iL) (gI t i ms.9)=bE JW ((aF F i<|ms.9-1+1).map _)
 rw[show ms.9-1+1=ms.9 by lia,c _ _ Ja d];haveI e:(fW JW ms).getD i iL=cK (ms.getD i 0) JW:=by
  rw[fG];rw[c8,jO,cy hi];rfl
 rw[e];rcases aF F i ms.9 with _|⟨a,o⟩
 .rfl
 change Y (jr (lZ _<|cK a sc) _)=Y U9
 rw[acP b,j6 (mG b)<|(d8<|mG b).add (mG b)<|d8<|mG b];erw[auO]
def apS F ms e:((GH F ms e).filterMap λl=>l.map λp=>p.1)=jJ F ms e ms.9:=by
 delta GH jJ;rw[atq];congr 1;funext i;change ((aF F J5 i).map _).map _=_
 rw[atW];rfl
def apT F ms e:((zw F ms e).filterMap λl=>l.map λp=>p.1)=jK F ms e ms.9:=by
 delta zw jK;rw[atq];congr 1;funext i;change ((aF F i J5).map _).map _=_
 rw[atW];rfl
def apU(m:Yi)(g:Cs j=(if f=[] then O else Y (ip f)).map λz=>cK z JW)(h:Cs hi=(if ls=[] then O else Y (jI ls)).map λz=>cK z JW)(o:f≠[]->ls≠[]->(ip f+jI ls) % 2=0):afl j hi=cK (w8 f ls Zz) JW:=by
 let c:=mG m;haveI one:Is afn Zz JW:=by
  let:=mC 1 (d:=JW);rwa [apP,Int.one_mul]at this
 delta w8;cases he:f=[]
 .cases i:ls=[]
  .rw[ak he]at g;rw[ak i]at h;rcases j with _|a
   .rcases hi with _|b
    .rw[ak (he,i)];show j6 c Cb
    cases h
   cases g
  rw[ak he]at g;rw[aj i]at h;rcases j with _|a
  .rcases hi with _|b
   .cases h
   let k:b.v=cK (jI ls) JW:=bt h;ext;change kT b.v afn=_
   rw[k];show j6 c<|(d8 c).sub c one
  cases g
 cases i:ls=[]
 .rw[aj he]at g;rw[ak i]at h;rcases j with _|a
  .cases g
  rcases hi with _|b
  .let l:a.v=cK (ip f) JW:=bt g;ext;change lZ a.v afn=_
   rw[l];show j6 c<|(d8 c).add c one
  cases h
 rw[aj he]at g;rw[aj i]at h;rcases j with _|a
 .cases g
 rcases hi with _|b
 .cases h
 let l:a.v=cK (ip f) JW:=bt g;let k:b.v=cK (jI ls) JW:=bt h;ext;change vJ (lZ a.v b.v) (dZ 2)=_
 rw[l,k];let:=Is.div c Dr Jc ((d8 c).add c<|d8 c) (acd 2) (n:=ip f+jI ls);show j6 c<|this.of (iN c Je) ?_;let e:(ip f+jI ls)=2*((ip f+jI ls) / 2):=Ja
 simp;generalize (ip f+jI ls) / 2=q at*
 rw[e];grind
end
section
variable {sc n:Nat} {F:List (List SL)} {t:PN}
def Cu(h:l≠[]):ip l∈l:=by
 cases l with
 |nil=>show absurd J h
 |cons x l=>
  let:∀l (x:Int),l.foldl max x∈x::l:=by
   intro l;induction l<;>grind
  show this l x
def N1(h:l≠[]):jI l∈l:=by
 cases l with
 |nil=>show absurd J h
 |cons x l=>
  haveI:∀l (x:Int),l.foldl min x∈x::l:=by
   intro l;induction l<;>grind
  show this l x
def Cv(d:JH)(ms:Jw):Prop:=∀z∈ms,d ∣ z
def acR(h:Cv d ms) i:d ∣ ms.getD i 0:=by ext;cases e:ms[i]? with|none=>show Int.dvd_zero d|some z=>show h z<|bM e
def acS(hd:(2*d) ∣ HV)(h:Cv (2*d) ms) e:(jJ F ms e ms.9≠[]->jK F ms e ms.9≠[]->(ip (jJ F ms e ms.9)+jI (jK F ms e ms.9)) % 2=0)/\d ∣ pT F ms Zz e:=by
 let f:Cv (2*d) (jJ F ms e ms.9):=by
  intro z g;let(i,_,hi):=xE.1 g;let(a,_,rfl):=tS.1 hi;show avh (acR h i)<|Dj hd Jc
 let j:Cv (2*d) (jK F ms e ms.9):=by
  intro z g;let(i,_,hi):=xE.1 g;let(a,_,rfl):=tS.1 hi;show Rc (acR h i)<|Dj hd Jc
 let m:(2*d) ∣ sc*HV:=Dj hd Jc;let o:d ∣ 2*d:=Jc
 show(λa b=>?_,?_)
 .let:=Rc (f _<|Cu a)<|j _<|N1 b;let(k,l):=this;rw[l,PR];show Int.mul_emod_right 2 _
 delta pT w8;split
 .ext
 rename_i p;split
 .rename_i c;let he:=λx=>p (x,c)
  show Dj o<|Rc (f _<|Cu he) m
 rename_i c;split
 .show Dj o<|avh (j _<|N1 c) m
 rename_i he;let(k,l):=Rc (f _<|Cu he)<|j _<|N1 c;rw[l,PR,G9 _ Je];ext
def apV(a:Yi)(b:TM sc n t F)(he:ms.9=e+1)(h:e+1<n)(f:jJ F ms e ms.9≠[]->jK F ms e ms.9≠[]->(ip (jJ F ms e ms.9)+jI (jK F ms e ms.9)) % 2=0):afl (atJ<|(fW JW ms).zipIdx.map λx=>oY (rH x.1)<|t7<|gI t (fW JW ms).9 x.2) (tX<|(fW JW ms).zipIdx.map λx=>oY (rH x.1)<|gI t x.2 (fW JW ms).9)=cK (pT F ms Zz e) JW:=by
 haveI c:ms≠[]:=by grind
 let d:ms.9<n:=Ja
 let g:ms.9-1=e:=Ja
 rw[(apQ a b ms d).resolve_right c,(apR a b ms d).resolve_right c,g];show apU a ?_ ?_ f
 .rw[<-apL,<-apS];show apN (mG a) _ O O J
 rw[<-apM,<-apT,Cd<|mG a];let:=apO (mG a) (zw F ms e) O O J;rw[<-this];delta tl;cases (zw F ms e).foldl bG O<;>rfl
def wK(F:JY)(u:JH)(k:JD):List Int:=(aQ k).foldl (λms e=>ms++[pT F ms u e]) [0]
def N2 F u k:wK F u QU=wK F u k++[pT F (wK F u k) u k]:=j3 _ _ _
theorem N3 F u:∀k,(wK F u k).9=k+1|0=>rfl|k+1=>by rw[N2,cE,N3 F u k];rfl
def N5(h:a<=b):((2:Int)^a) ∣ 2^b:=by rw[show b=a+(b-a) by lia,Int.pow_add];ext
theorem acT F:∀k,k<=20->Cv (2^(20-k)) Y3
 |0,f=>by
  intro z a;let:z=0:=fZ.1 a;ext
 |k+1,d=>by
  let b:=acT F k Ja;let e:(2:Int)^(20-k)=2*2^(20-QU):=by
   rw[show 20-k=(20-QU)+1 by lia,au6,au7]
  let c:(2*2^(20-QU)) ∣ HV:=by
   rw[<-e,show HV=2^20 from J];show N5 Ja
  rw[N2];intro z a;rcases dC.1 a with h|h
  .show Dj (N5 Ja)<|b z h
  rw[fZ.1 h];show (acS c (by rw[<-e];show b) k).2
theorem acU(a:Yi)(b:TM sc n t F)(d:n<=21):∀(f k:Nat),k+f+1<=n->Hy t f (fW JW Y3)=fW JW (wK F Zz<|k+f)
 |0,k,j=>rfl
 |f+1,k,h=>by
  change Hy t f (fW JW Y3++[afl (atJ<|(fW JW Y3).zipIdx.map λx=>oY (rH x.1)<|t7<|gI t (fW JW Y3).9 x.2)<|tX<|(fW JW Y3).zipIdx.map λx=>oY (rH x.1)<|gI t x.2 (fW JW Y3).9])=_
  haveI e:(2:Int)^(20-k)=2*2^(20-QU):=by
   rw[show 20-k=(20-QU)+1 by lia,au6,au7]
  haveI g:(2*2^(20-QU)) ∣ HV:=by
   rw[<-e,show HV=2^20 from J];show N5 Ja
  let c:=acT (sc:=sc) F k Ja;rw[e]at c;rw[apV a b (N3 _ _ _) Ja (acS (sc:=sc) g c k).1];haveI i:fW JW Y3++[cK (pT F Y3 Zz k) JW]=fW JW (wK F Zz QU):=by
   rw[N2];simp
  rw[i,acU a b d f QU Ja,show k+1+f=k+WZ by lia]
def acV(a:Yi)(b:TM sc (m+1) t F)(d:m<=20):(Hy t m [iL]).drop 1=(fW JW<|iH F Zz m).drop 1:=by
 let:=acU a b Ja m 0 Ja;haveI c:fW JW (wK F Zz 0)=[iL]:=by
  change [cK 0 JW]=_
  rw[<-j6 (mG a) Cb]
 rw[c,xP]at this;rw[this];rfl
def acW{e}(h:e+1<ms.9):((fW JW ms).drop 1).getD e iL=cK (ms.getD J5 0) JW:=by ext
end
def acX F u m:(iH F u m).9=m+1:=N3 F u m
def acY(a:w.known.9=Jb):Pk s w ((fW JW<|iH F Zz Jb).drop 1)=mv w.known (iH F Zz Jb) JW s.events.9:=by
 delta Pk mv;rw[List.flatMap_def];congr 1;show mK λe he=>?_
 let he:=cC.1 he;rw[acW (by rw[acX];lia)];rfl
def apW g:dA s g []=if bN ZM=I then -8 else 0:=by rfl
def acZ(a:J6) g:z_ s ZU=if bN ZM=I then O else Y ((fW (b8 Qe)<|iH ZM ((aM s:JH)*HV) Jb).drop 1):=by
 delta z_;rw[Gw a];cases b:bN ZM=I
 .rw[ak b,ak b];rfl
 rw[aj b,aj b];change Y ((Hy (hV s ZU) Jb [iL]).drop 1)=Y _
 rw[acV (fV a).1 (mD a g) a.dr]
def apX(b:J6)(c:Um)(e:Jz):cT s (cq s<|.world g)=(s,(w9 s g)):=by
 let i:=b.dr;let d:=c6 s g;let f:cq s (.world g)=((cZ g (-1) oZ).bind λj=>(lX s g).bind λw=>match z_ s w with
   |none=>.error (-8)
   |some h=>.ok (s,(0::Pk s w h))):=J
 rw[f,ck c (by change g<=19;lia),vh c e];erw[dQ];rw[acZ b];delta w9;rw[apW];cases a:bN ZM=I
 .rw[ak a,ak a];rfl
 rw[aj a,aj a];change (s,(0::_))=(s,(0::_))
 delta u6;rw[d,acY d]
def apY(h:J6)(n:Um)(B:Jz)(he:e<Jb)(C:f<Jb)(D:zT t=Y b)(E:xH b=(jh b).map λx=>ZV)(F:∀x,jh b=Y x->0<x.2/\dN x.1.5 x.2=1):cT s (cq s<|.pinned g e f t)=(s,(w_ s g e f b)):=by
 let ab:=h.dr;let o:=(fV h).1;let j:=c6 s g;let H:cq s (.pinned g e f t)=((cZ g (-1) oZ).bind λK=>(cZ e 0 oZ).bind λe=>(cZ f 0 oZ).bind λf=>(gQ t).bind λt=>(lX s g).bind λw=>(mQ s e).bind λe=>(mQ s f).bind λf=>(Dc w e).bind λK=>(Dc w f).bind λK=>(at1 t).bind λx=>(tZ s w).bind λK=>match z_ s (afj w J5 WZ x) with
   |none=>.ok (s,([0]))
   |some L=>.ok (s,(1::Pk s w L))):=J
 haveI N:gQ t=.ok b:=by delta gQ;rw[D]
 rw[H,ck n (by change g<=19;lia),ck Ja (by change (e:JH)<=19;lia),ck Ja (by change (f:JH)<=19;lia),vh n B,N];erw[dQ,ed,vi he,vi C,Gx,Gy];delta w_ at1;rw[E,NM];rcases rE (kP (cM s g) (e+1)) with i|i
 .rcases rE (kP (cM s g) (f+1)) with l|l
  .erw[i,l];cases m:jh b with
   |none=>
    haveI:¬((if bN ZM=I then -8 else 0)= -6):=by split<;>decide
    simp[cT,this]
   |some x=>
    let(xd,P):=F x m;erw[zW,xo h];cases p:bN ZM=I
    .simp[p,cT]
    erw[p];let d:0<aM s*x.2:=iN o xd;haveI q:Is (ZV:xY) (x.1*(aM s:JH)) (aM s*x.2):=by
     let:=(Is.self (x:=ZV) xd P).scale o;rwa [au3]at this
    haveI Q:pY (aM s*x.2) [(e+1,WZ,(Y (x.1*(aM s:JH),(au)))),(f+1,J5,(Y (0-x.1*(aM s:JH),(au))))] [(e+1,WZ,({v:=ZV,isOpen:=au})),(f+1,J5,({v:=nS ZV,isOpen:=au}))]:=by
     apply acO d;haveI R:bE (aM s*x.2) (Y (x.1*(aM s:JH),(au)))=Y {v:=ZV,isOpen:=au}:=by
      change Y U9=Y U9
      rw[<-j6 d q]
     haveI S:bE (aM s*x.2) (Y (0-x.1*(aM s:JH),(au)))=Y {v:=nS ZV,isOpen:=au}:=by
      change Y U9=Y U9
      rw[j6 d q.neg,rQ]
     change [(_,_,(bE _ _)),(_,_,(bE _ _))]=[(_,_,(Y _)),(_,_,(Y _))]
     rw[R,S]
    haveI r:j7 QL [(e+1,WZ,(Y (x.1*(aM s:JH),(au)))),(f+1,J5,(Y (0-x.1*(aM s:JH),(au))))]:=by
     intro c y;simp at y;rcases y with rfl|rfl<;>constructor<;>simp only<;>lia
    let T:=apI h (deaf:=[]) xd j r Q;haveI z:bO QL Z7:=by
     let:=(vf (kn:=ZP) (u:=0) (v:=0) _ (acN (k:=(x.2:Int))<|sX s g) r).1;show this
    let A:=acj d z T;haveI X:z_ s (afj ZU J5 WZ ZV)=if bN (aE Z7)=I then O else Y ((fW (b8<|aM s*x.2)<|iH (aE Z7) (((aM s*x.2:Nat):Int)*HV) Jb).drop 1):=by
     delta z_ xM;simp only;let ec:hV s (afj ZU J5 WZ ZV)=(aQ QL).foldl (Ho QL) (PM s (cM s g,[],[(e+1,WZ,({v:=ZV,isOpen:=au})),(f+1,J5,({v:=nS ZV,isOpen:=au}))])):=J;rw[ec,show Hx s=s.events.9+1 from J,ack d (Ce z) A];change Ag _ (if bN (aE Z7)=I then O else Y _)=_
     cases a:bN (aE Z7)=I
     .rw[ak a,ak a];rfl
     rw[aj a,aj a];change Y ((Hy _ Jb [iL]).drop 1)=Y _
     rw[acV d A h.dr]
    rw[X];cases a:bN (aE Z7)=I
    .rw[ak a,ak a];simp[cT]
    rw[aj a,aj a];erw[cT];delta u6;rw[j,acY (w:=ZU) j];simp
  induction m:jh b<;>simp[i,l,cT]
 induction m:jh b<;>simp[i,cT]
def N6(l:Jw):∀a,a<=l.foldl max a/\∀x∈l,x<=l.foldl max a:=by
 induction l with
 |nil=>intro a;show(HF _,λg h=>nomatch h)
 |cons y l d=>
  intro a;let(c,f):=d<|max a y;show(au9 (Int.le_max_left a y) c,λx b=>?_);rcases fQ.1 b with e|b
  .rw[e];show au9 (Int.le_max_right a y) c
  show f x b
def apZ(h:a∈l):l.foldl max a=ip l:=by
 let c:l≠[]:=λe=>by rw[e]at h;cases h
 let g:l.foldl max a∈a::l:=by
  let:=Cu (l:=a::l) Jc;show this
 let d:l.foldl max a∈l:=by grind
 let i:=(N6 l a).2 _<|Cu c;let f:∀x∈l,x<=ip l:=by
  cases l with
  |nil=>show absurd J c
  |cons y l=>
   intro x b;rcases fQ.1 b with e|b
   .rw[e];show (N6 l y).1
   show (N6 l y).2 x b
 let:=f _ d;lia
theorem ac0{b:Type}(c:0<C){f:b->xY}{z}:∀(l:List b),(∀x∈l,Is (f x) (z x) C)->∀{a}{n},Is a n C->Is (l.foldl (λa x=>ae9 a<|f x) a) ((l.map z).foldl max n) C|[],g,a,n,h=>h|x::l,d,a,n,h=>ac0 c l (λy e=>d y<|df _ e)<|h.most c<|d x dM
def ap0(c:0<d)(e:0<a)(f:0<b)(g:Is x p a)(h:Is i me d)(j:Is k l d):Is (lZ (dZ r)<|oV x<|kT i k) (r*((d*a*b:Nat):Int)+(me-l)*(p*b)) (d*a*b):=by show Is.add (iN (iN c e) f) (mC r)<|(g.mul e c<|h.sub c j).of (iN e c) ?_;grind
def ap1(c:0<d)(g:0<a)(e:0<b)(h:Is x p b)(i:Is j me d)(k:Is l f d):Is (kT (dZ r)<|oV x<|kT l j) (r*((d*a*b:Nat):Int)+(me-f)*(p*a)) (d*a*b):=by
 let:=Is.sub (iN (iN c g) e) (mC r) ((h.mul e c<|k.sub c i).of (iN e c) (m:=(f-me)*(p*a)) (by
  grind))
 grind
def ap2(g:J6)(k:Yi)(n:ms.9=Jb+1)(he:e<Jb)(l:kP kn J5=I):Pw s (kn,[],[]) ((fW JW ms).drop 1) e=cK (ip<|mx s kn ms (fN s e sc:JD) e Jb) (fN s e sc):=by
 let b:=mG k;let(r1,a,_):=g.rt _<|oB<|(g.ev _<|qR he).1;let j:=iN (iN b r1.2.2.1) a.2.2.1;haveI c:∀i,i<Jb->Is (((fW JW ms).drop 1).getD i iL) (ms.getD JK 0) JW:=by
  intro i hi;rw[acW Ja];show d8 b
 delta Pw;simp only;haveI m:((aQ Jb).filter λd=>oX (kn,[],[]) d&&((aI s d).node==(aI s e).node&&(aI s d).10==(aI s e).10))=(aQ Jb).filter (mw s kn e):=by
  apply Pc;intro d _;congr 1;rw[nO];simp;show(λh=>(h.1.3,h.2.3),λh=>(h.1.3,h.2.3))
 rw[m];let key:=ac0 j (f:=λd=>if d<=e then lZ (dZ ((aI s d).11:Int)) (oV (aS s (aI s e).node).lo<|kT (((fW JW ms).drop 1).getD e iL)<|((fW JW ms).drop 1).getD d iL) else kT (dZ ((aI s d).11:Int)) (oV (aS s (aI s e).node).hi<|kT (((fW JW ms).drop 1).getD d iL)<|((fW JW ms).drop 1).getD e iL)) (z:=oE s ms (fN s e sc:JD) e) ((aQ Jb).filter<|mw s kn e) ?_<|mC ((aI s e).11:Int) (d:=fN s e sc)
 .rw[j6 j key];congr 1;apply apZ;show eJ.2 (e,kR.2 (cC.2 he,?_),?_)
  .delta mw;rw[l];simp
  delta oE;simp
 intro d hd;let hd:=cC.1 (kR.1 hd).1;delta oE fN;simp only;split
 .rename_i h;show ap0 b r1.2.2.1 a.2.2.1 (Is.self r1.2.2.1 r1.2.2.2.2) (c e he)<|c d hd
 rename_i h;show ap1 b r1.2.2.1 a.2.2.1 (Is.self a.2.2.1 a.2.2.2.2) (c e he)<|c d hd
def ap3(a:J6)(c:Um)(f:Jz)(he:e<Jb):cT s (cq s<|.clock g e)=(s,(xa s g e)):=by
 let j:=a.dr;let h:cq s (.clock g e)=((cZ g (-1) oZ).bind λk=>(cZ e 0 oZ).bind λe=>(lX s g).bind λw=>(mQ s e).bind λe=>(Dc w e).bind λk=>match z_ s w with
   |none=>.error (-8)
   |some i=>.ok (s,(0::rL (Pw s w i e)))):=J
 rw[h,ck c (by change g<=19;lia),ck Ja (by change (e:JH)<=19;lia),vh c f];erw[dQ,ed,vi he,Gx,Gy];delta xa;rw[acx,acZ a];rcases rE (kP (cM s g) (e+1)) with b|b
 .erw[b];cases d:bN ZM=I
  .simp[d,cT]
  erw[d];let:=ap2 a (fV a).1 (acX ZM ((aM s:JH)*HV) Jb) he b;change (s,(0::rL (Pw s ZU _ e)))=_
  rw[this];delta zb;rw[c6 s g];simp
 simp[b,cT]
def Cw(h:i<Jt):oT s i=.ok i:=ak h
def Cy(h:Qk[i]?=Y x):kQ s i=.ok x:=by delta kQ;rw[h]
def ap4(a:J6)(he:e<Jb):cT s (cq s<|.past e)=(s,(B5 s e)):=by let c:=a.dr;let b:cq s (.past e)=((cZ e 0 oZ).bind λe=>(mQ s e).bind λe=>.ok (s,(0::VbdtCore.ints ((aQ Jb).filter λx=>(iU s e).getD x au)))):=J;rw[b,ck Ja (by change (e:JH)<=19;lia)];erw[dQ,ed,vi he];rfl
def ap5 s:cT s (cq s .told)=(s,(B6 s)):=J
def ap6(a:J6)(b:∀l∈ls,l∈UJ)(c:∀m∈ms,m∈UT)(d:ls.9<=Wr)(e:ms.9<=UU):aV {s with lags:=ls,marks:=ms,log:=[]}:=
 (a.n6,a.dr,eO d a.mm,eO e a.sI,a.oy,a.ep,eX _,a.rt,a.ev,a.od,λl f=>a.wd l<|b l f,λm g=>a.mo m<|c m g,a.pc)
def ap7 s ls ms:jF s ls ms=gO {s with lags:=ls,marks:=ms,log:=[]} (dU s<|-1) []:=by delta gO;rw[c6];rfl
def ac1(a:J6)(b:∀l∈ls,l∈UJ)(c:∀m∈ms,m∈UT)(d:ls.9<=Wr)(e:ms.9<=UU):TM Qe QL (hV {s with lags:=ls,marks:=ms}<|oW s) (aE<|jF s ls ms):=by let:=Gu (ap6 a b c d e).w (deaf:=[]) (cs:=[]) WA (λf h=>nomatch h)<|tI _;rwa [acv,<-ap7]at this
def ap8{M}(e:QX)(f:bO n N)(h:∀u v,u<n->v<n->aF M u v=aF N u v):M=N:=by
 apply Hi
 .rw[e.1,f.1]
 intro i a b;let li:M[i].9=n:=by rw[e.2 _<|Pj a,e.1]
 let g:N[i].9=n:=by rw[f.2 _<|Pj b,f.1]
 apply Hi
 .ext
 intro j c d;let:=h i j (by rw[<-e.1];show a) (by ext);delta aF at this;rwa [fG<|cy a,fG<|cy b,fG<|cy c,fG<|cy d]at this
def same_iff(g:Yi){M}(i:QX)(j:bO n N)(e:Wi)(f:TM sc n u N):Vbdtah.sameTable n t u=decide (N=M):=by
 rw[nO,Hg];constructor
 .intro h;show ap8 j i λa b c d=>?_
  let:=mL.1 (mL.1 h a<|cC.2 c) b<|cC.2 d;let:=vM.1 this;rw[e a b c d,f a b c d]at this;show (NF g this).3
 intro h;subst h;show mL.2 λa c=>mL.2 λb d=>?_
 rw[e a b (cC.1 c)<|cC.1 d,f a b (cC.1 c)<|cC.1 d];show avr _
def ap9(a:J6):cT s (cq s .needless)=(s,(xb s)):=by
 let f:cq s .needless=((tZ s<|oW s).bind λm=>.ok (s,(((aeJ s m).9:Int)::(VbdtCore.ints (aeJ s m)++VbdtCore.ints (asH s m))))):=J;rw[f,Cm,xo a];delta xb;let d:=(fV a).1;let e:=Ce<|sX s<|-1;cases b:bN Js=I
 .rw[ak b,ak b];rfl
 rw[aj b,aj b];haveI g:aeJ s QK=zc s:=by
  apply Pc;show λi hi=>same_iff d e (Ce<|aaF s _ _) (mD a<|-1)<|ac1 a (λl c=>OV c) (λk h=>h) (asE UJ i) JR
 haveI j:asH s QK=F6 s:=by
  apply Pc;show λi hi=>same_iff d e (Ce<|aaF s _ _) (mD a<|-1)<|ac1 a (λk h=>h) (λl c=>OV c) JR<|asE UT i
 change (s,(_))=(s,(_))
 rw[g,j]
def zx(n p:JD)(M:JY):Prop:=∀v,v<n->v≠p->aF M p v=O/\aF M v p=O
def aqa{M}(a:QX)(f:p<n)(c:k<n)(h:zx n p M):zx n p (fF M k):=by
 intro v b d;rw[yY a.2 (by rw[a.1];show c) (by rw[a.1];show f) (by rw[a.1];show b),yY a.2 (by rw[a.1];show c) (by rw[a.1];show b) (by rw[a.1];show f),(h v b d).1,(h v b d).2];cases e:k=p
 .subst e;rw[(h v b d).1,(h v b d).2];show(by cases aF M k k<;>rfl,J)
 rw[(h k c e).1,(h k c e).2];show(J,by cases aF M v k<;>rfl)
def aqb{M}(c:QX)(d:p<n)(h:zx n p M):zx n p JI:=by
 delta aE;rw[c.1];haveI:∀k,k<=n->zx n p ((aQ k).foldl fF M)/\bO n ((aQ k).foldl fF M):=by
  intro k;induction k with
  |zero=>intro _;show(h,c)
  |succ k e=>
   intro f;let(a,b):=e Ja;rw[j3];show(aqa b d Ja a,Gp b Ja)
 ext
def aqc(a:J6)(d:kn.9=Jb)(f:p<Jb+1)(g:kP kn p=au):zx QL p (gO s kn []):=by
 intro v h b;let c:bO QL (uW YM):=by rw[d];show yZ _
 constructor
 .rw[Ci,(vf (jl s []) c<|zt a []).2,aj<|by ext,Cj Ja Ja,aj λe=>b e.3]
 rw[Ci,(vf (jl s []) c<|zt a []).2,aj<|by ext,Cj Ja Ja,aj b]
def aqd(he:e<Jb):(iU s e).getD e au=I:=(aae he).2 .base
def aqe e:Vbdtah.viewAt s (Y e)=dB s e:=by rfl
def aqf(a:J6){i:JD}(d:Qk[i]?=Y x)(g:Wy):cT s (cq s<|.learned i k)=(s,(xg s x k)):=by
 let o:=a.oy;let q:=a.n6;let hi:=(cU.1 d).1;let(j,_):=a.pc x<|bM d;let l:cq s (.learned i k)=((cZ i 0 9).bind λp=>(cZ k 0 5).bind λi=>(kQ s p).bind λp=>(oT s i).bind λi=>match ae7 s p i with
   |none=>.ok (s,([0]))
   |some e=>.ok (s,([1,(e:JH)]))):=J
 rw[l,ck Ja Ja,ck Ja Ja];erw[dQ,ed,Cy d,Cw g];haveI m:ae7 s x k=(aQ Jb).find? λe=>decide ((aI s e).node=k)&&u9 s x e:=by
  delta ae7 O_;rw[List.find?_filter];apply GF;intro e he;let he:=cC.1 he;rw[nO];erw[jo,oN,vM];apply and_congr_right;intro _;rw[aqe,Gw a];delta u9;rw[acx];cases c:bN (aE<|aU s e)=I
  .rw[ak c,ak c];haveI:(if kP (cM s e) QC=au then -6 else -8) <0:=by split<;>decide
   rw[ak this];simp
  rw[aj c,aj c];change (Dg _ _ _==2)=I↔_
  rw[mD a e _ _ Ja Ja,mD a e _ _ Ja Ja];rcases rE (kP (cM s e) (x.ev+1)) with b|b
  .rw[aj (by rw[b];simp)];rw[<- (NO ((fV a).1) (aF (aE<|aU s e) QC J5) (aF (aE<|aU s e) J5 QC) Wo),Hg,vM];show(λh=>e8 afS h,λh=>Int.ofNat.inj h)
  rw[ak b,ak Je];haveI r:WY≠e:=by
   intro h;subst h;let:=aqd j;haveI n:kP (cM s WY) QC=(iU s WY).getD WY au:=by
    change (dU s WY).getD WY au=_
    delta dU;rfl
   rw[n,this]at b;cases b
  let f:=(aqb (sX s e) Ja<|aqc a (c6 s e) Ja b) J5 Ja Ja;rw[f.1,f.2];simp[bE,Dg]
 rw[m];delta xg;cases (aQ Jb).find? λe=>decide ((aI s e).node=k)&&u9 s x e<;>rfl
def vn(s:bX)(sc:JH)(e k:JD)(c:JH)(g:JD):List Ct:=
 if (aI s g).node≠k then []
 else if (aI s g).10≠(aS s k).10 then [(e+1,g+1,(bp))]
 else if ((aI s g).11:Int) <c then [(e+1,g+1,(bp)),(g+1,J5,(fq sc Qr<|c-((aI s g).11:Int))),(e+1,g+1,(g9 sc Qr<|c-((aI s g).11:Int)))]
 else if c<((aI s g).11:Int) then [(g+1,J5,(bp)),(e+1,g+1,(fq sc Qr<|((aI s g).11:Int)-c)),(g+1,J5,(g9 sc Qr<|((aI s g).11:Int)-c))]
 else [(g+1,J5,(fq sc Qr 0)),(e+1,g+1,(fq sc Qr 0))]
def zy s sc e k c:=(aQ Jb).flatMap<|vn s sc e k c
def aqg s kn sc e k c M:tq s kn sc e k c M Jb=runC kn (zy s sc e k c) M:=by
 delta tq zy;rw[Cf];show Cg (λM g=>?_) _ _;delta F7 vn;split
 .rfl
 split
 .rfl
 split
 .rfl
 split<;>rfl
def aqh(h:∀u v,dh l u v=dh m u v)(a:pY sc l more):pY sc m more:=λu v=>by rw[<-h];show a u v
def ac2{a:Type}(l:UI) p f:tl (l.map f)=bG (tl<|(l.filter p).map f) (tl<|(l.filter λx=> !p x).map f):=by
 induction l with
 |nil=>rfl
 |cons x l b=>
  rw[hY,lJ,b,C5,C5];cases p x with
  |true=>simp[lJ,gH]
  |false=>
   erw[aeT,uc,Bool.not_false,qj,hY,lJ];rw[<-gH,<-gH,nE<|f x]
def aqi{a:Type}(l:UI) p(f:a->SL)(h:∀x∈l,p x=au->f x=O):tl (l.map f)=tl ((l.filter p).map f):=by rw[ac2 l p f,tE (l:=(l.filter λx=> !p x).map f),fX];ext
def Cz(s:bX)(sc:JH)(e k:JD)(c:JD)(g:JD):List Ct:=
 if (aI s g).11<c then [(g+1,J5,(fq sc Qr<|(c:JH)-((aI s g).11:Int))),(e+1,g+1,(g9 sc Qr<|(c:JH)-((aI s g).11:Int))),(e+1,g+1,(bp))]
 else if c<(aI s g).11 then [(e+1,g+1,(fq sc Qr<|((aI s g).11:Int)-(c:JH))),(g+1,J5,(g9 sc Qr<|((aI s g).11:Int)-(c:JH))),(g+1,J5,(bp))]
 else [(g+1,J5,(fq sc Qr 0)),(e+1,g+1,(fq sc Qr 0))]
def aqj{c:JD}(h:(aI s g).node=k)(i:(aI s g).10=(aS s k).10) u v:dh (vn s sc e k c g) u v=dh (Cz s sc e k c g) u v:=by
 delta vn Cz;rw[aj λx=>x h,aj λx=>x i];cases a:(aI s g).11<c
 .haveI d:((aI s g).11:Int) <c:=by lia
  rw[ak a,ak d];erw[hU,qZ,fX];rw[nE,gH]
 let d:¬((aI s g).11:Int) <c:=Ja
 rw[aj a,aj d];cases b:c<(aI s g).11
 .haveI f:c<((aI s g).11:Int):=by lia
  rw[ak b,ak f];erw[hU,qZ,fX];rw[nE,gH]
 let f:¬c<((aI s g).11:Int):=Ja
 rw[aj b,aj f]
abbrev ac3:xO:={v:=iL,isOpen:=au}
def N7(s:bX)(e k c g:JD):List (Nat×Nat×xO):=
 let n:=Qr
 let r:=(aI s g).11
 let d (a b:Nat) (f:xY):xO:={v:=vJ (dZ<|(b:JH)+1-(a:JH)) f,isOpen:=I}
 let same:xO:={v:=iL,isOpen:=au}
 if r<c then [(g+1,J5,(d r c n.lo)),(e+1,g+1,(d c r n.hi)),(e+1,g+1,(same))]
 else if c<r then [(e+1,g+1,(d c r n.lo)),(g+1,J5,(d r c n.hi)),(g+1,J5,(same))]
 else [(g+1,J5,(d r c n.lo)),(e+1,g+1,(d c r n.lo))]
def CB s e k c:=(zZ s k).flatMap (N7 s e k c)++((O_ s k).filter λg=> !((aI s g).10==(aS s k).10)).map λg=>(e+1,g+1,({v:=iL,isOpen:=au}))
def aqk(a:J6)(b:Wy):(Cz s (aM s:JD) e k c g).map (λc=>(c.1,c.2.1,(bE Qe c.2.2)))=(N7 s e k c g).map (λx=>(x.1,x.2.1,((Y x.2.2:Aa)))):=by
 let z:bE Qe bp=Y ac3:=lL<|(fV a).1;let d:∀gap,bE Qe (fq (aM s:JD) Qr gap)=Y {v:=vJ (dZ<|gap+1) (aS s k).lo,isOpen:=I}:=λgap=>acn a b gap
 let bk:∀gap,bE Qe (g9 (aM s:JD) Qr gap)=Y {v:=vJ (dZ<|1-gap) (aS s k).hi,isOpen:=I}:=λgap=>NI a b gap
 delta Cz N7;grind
def aql{b c d a:Type}{f}{g}{p:c->a}{q:d->a}{l:List b}(h:∀x∈l,(f x).map p=(g x).map q):(l.flatMap f).map p=(l.flatMap g).map q:=by induction l<;>ext
def aqm(f:J6){c:JD}(i:Wy):pY Qe (zy s (aM s:JD) e k c) (CB s e k c):=by
 let h:=(fV f).1;let z:bE Qe bp=Y ac3:=lL h;show aqh (l:=(zZ s k).flatMap (Cz s (aM s:JD) e k c)++((O_ s k).filter λg=> !((aI s g).10==(aS s k).10)).map λg=>(e+1,g+1,(bp))) ?_ ?_
 .intro u v;rw[lN,oH];delta zy;rw[oH,aqi (aQ Jb) λg=>(aI s g).node==k]
  .rw[ac2 ((aQ Jb).filter λg=>(aI s g).node==k) λg=>(aI s g).10==(aS s k).10];congr 1
   .congr 1;haveI j:(((aQ Jb).filter λg=>(aI s g).node==k).filter λg=>(aI s g).10==(aS s k).10)=zZ s k:=by
     ext;apply Pc;intro g _;rw[Bool.and_comm]
    rw[j];show mK λg d=>?_
    let:=(kR.1 d).2;ext;show (aqj this.1 this.2 u v).3
   delta dh;congr 1;rw[kg];show mK λg d=>?_
   let a:=kR.1 d;let b:=(kR.1 a.1).2;let m:=a.2;ext;change tF u v (e+1,g+1,(bp))=dh (vn s _ e k c g) u v
   delta vn;rw[aj λx=>x b,ak m,hU,qZ,fX]
  intro g _ d;delta vn;rw[ak<|by exists d];rfl
 apply acO h;delta CB;ext;congr 1
 .show aql λg n=>aqk f i
 ext
def aqn(he:e<Jb):j7 QL (zy s sc e k c):=by
 show Ck λg b=>?_
 let b:=cC.1 b;intro x a;delta vn at a;split at a
 .cases a
 split at a
 .ext
 split at a
 .simp at a;rcases a with rfl|rfl|rfl<;>constructor<;>simp only<;>lia
 split at a
 .simp at a;rcases a with rfl|rfl|rfl<;>constructor<;>simp only<;>lia
 simp at a;rcases a with rfl|rfl<;>constructor<;>simp only<;>lia
def aqo(a:J6)(he:e<Jb)(b:Wy):aeX s e k c= !bN W4:=by
 let d:aeX s e k c=(xM s {oW s with more:=CB s e k c}).isSome:=J;haveI f:({oW s with more:=CB s e k c}:rR)=(dU s<|-1,[],CB s e k c):=by rfl
 rw[d,f,Gv a WA (aqn he)<|aqm a b,aqg];change _= !bN (aE<|mS s (dU s<|-1) []<|zy s (aM s:JD) e k c)
 grind
def aqp(a:J6){c:JD}(he:e<Jb)(d:Wy)(h:c<=Jk):cT s (cq s<|.could e k c)=(s,(xf s e k c)):=by
 let j:=a.dr;let l:=a.n6;let g:cq s (.could e k c)=((cZ e 0 oZ).bind λe=>(cZ k 0 5).bind λi=>(cZ c 0 xR).bind λc=>(mQ s e).bind λe=>(oT s i).bind λi=>(tZ s<|oW s).bind λm=>.ok (s,([if aeX s e i c=I then 1 else 0]))):=J;rw[g,ck Ja (by change (e:JH)<=19;lia),ck Ja Ja,ck Ja (by change c<=(1000000000000:Int);lia)];erw[dQ,ed,vi he,Cw d];rw[Cm,xo a];erw[aqo a he d];delta xf;cases b:bN Js=I
 .rw[ak b,ak b];rfl
 rw[aj b,aj b];cases f:bN W4=I
 .simp[f,cT]
 simp[f,cT]
section
variable {n:Nat} {M:List (List SL)}
def aqq(a:bO n D)(b:k<n)(c:u<n)(d:v<n):bL (aF (fF D k) u v) (aF D u v)/\bL (aF (fF D k) u v) (bh (aF D u k)<|aF D k v):=by rw[yY a.2 (by rw[a.1];show b) (by rw[a.1];show c) (by rw[a.1];show d)];show(GB _ _,GC _ _)
def aqr(q:QX):∀k,k<=n->∀m (u v:Nat),u<n->v<n->m.Nodup->(∀x∈m,x<k)->bL (aF ((aQ k).foldl fF M) u v) (c7 M<|u::m++[v]):=by
 let r:∀k,k<=n->bO n ((aQ k).foldl fF M):=by
  intro k;induction k with|zero=>intro _;show q|succ k d=>intro s;rw[j3];show Gp (d Ja) Ja
 intro k;induction k with
 |zero=>
  intro _ m u v g h _ f;cases m with
  |nil=>
   change bL Ul (bh Ul bp)
   rw[vj];show bL.refl _
  |cons x m=>show absurd (f x dM) Ja
 |succ k d=>
  intro s m u v g h j f;rw[j3];let l:=aqq (r k Ja) (k:=k) Ja g h;cases o:k∈m
  .let(a,b,e):=atr o;subst e;let i:=atB.1 j;let p:=mM.1 i.2.1;show l.2.trans ?_;let e:u::(a++k::b)++[v]=(u::a)++k::(b++[v]):=by simp
   rw[e,j8];show lO ?_ ?_
   .show d Ja a u k g Ja i.1 λx c=>?_
    let:=f x<|nL _ c;let:x≠k:=i.2.2 x c k dM;lia
   show d Ja b k v Ja h p.2 λx c=>?_
   let:=f x<|mJ _<|df _ c;let:x≠k:=λe=>p.1<|e▸c
   lia
  show l.1.trans<|d Ja m u v g h j λx c=>?_;let:=f x c;let:x≠k:=λe=>o<|e▸c
  lia
def GI(a:QX)(b:u<n)(c:v<n)(d:m.Nodup)(e:∀x∈m,x<n):bL (aF JI u v) (c7 M<|u::m++[v]):=by delta aE;rw[a.1];show aqr a n (bf n) m u v b c d e
theorem N8:∀(j:Nat) (l:ZR) (v:JD),l.9<=j->Wk n l v v->2<=l.9->cA (c7 M l) bp=I->∃v t,Wk n (v::t) v v/\t≠[]/\t.Nodup/\cA (c7 M<|v::t) bp=I
 |0,l,v,h,p,f,q=>by lia
 |j+1,l,v,i,w,f,g=>by
  let(t,rfl):=w.first;let m:t≠[]:=λe=>by rw[e]at f;simp at f
  cases hd:t.Nodup
  .show(v,t,w,m,hd,g)
  let(a,x,b,c,rfl):=NV hd;let o:c7 M (v::(a++x::W2))=bh (c7 M<|x::b++[x]) (c7 M<|(v::a)++x::c):=by
   rw[show v::(a++x::W2)=(v::a)++x::W2 from J,j8<|v::a,show x::W2=(x::b)++x::c from J,j8<|x::b,j8 (v::a) x c,<-vk,NT<|c7 M<|v::a++[x],vk]
  rw[o]at g;let k:∀y∈v::(a++x::W2),y<n:=w.pt;let len:(v::(a++x::W2)).9=a.9+b.9+c.9+3:=by simp;lia
  rcases acK g with h|h
  .show N8 j (x::b++[x]) x ?_ (J,mF Jc,?_) Jc h
   .simp at i len⊢;lia
   intro y d;apply k;simp at d⊢;rcases d with rfl|d|rfl
   .simp
   .simp[d]
   simp
  show N8 j ((v::a)++x::c) v ?_ (J,?_,?_) (by simp;lia) h
  .simp at i len⊢;lia
  .let:=w.lt;rw[show v::(a++x::W2)=(v::a++x::b)++x::c by simp,mF Jc]at this;rw[mF Jc];show this
  intro y d;apply k;simp at d⊢;rcases d with rfl|d|rfl|d
  .simp
  .simp[d]
  .simp
  simp[d]
def ac4(c:QX)(d:bN JI=au){l:ZR}{v:JD}(w:Wk n l v v)(f:2<=l.9):bL bp (c7 M l):=by
 rw[tJ];cases a:cA (c7 M l) bp with
 |false=>rfl
 |true=>
  exfalso;let(v,t,w,g,h,a):=N8 l.9 l v JR w f a;let b:=w.pt v dM;obtain⟨m,i⟩:∃m,t=m++[v]:=by
   let:=w.lt;let e:(v::t).getLast?=t.getLast?:=by
    cases t with|nil=>show absurd J g|cons y t=>rw[CS]
   rw[e,asn]at this;show this
  subst i;let j:=(atB.1 h).1;let:=GI c b b j λx k=>w.pt x<|df _<|nL _ k
  let o:=acG this a;let:bN JI=I:=by
   delta bN;rw[sS,c.1];show lT.2 (v,cC.2 b,o)
  rw[d]at this;cases this
def ac5(g:QX)(o:bN JI=au):∀j m (u v:Nat),m.9<=j->u<n->v<n->(∀x∈m,x<n)->bL (aF JI u v) (c7 M<|u::m++[v]):=by
 intro j;induction j with
 |zero=>
  intro m u v h e f _;let:m=[]:=nI.1 Ja;subst this;show GI g e f xK (λt h=>nomatch h)
 |succ j p=>
  intro m u v h e f i;cases k:m.Nodup
  .show GI g e f k i
  let(a,x,b,c,rfl):=NV k;let q:u::(a++x::W2)++[v]=(u::a)++x::(b++x::(c++[v])):=Jc
  let s:u::(a++x::c)++[v]=(u::a)++x::(c++[v]):=Jc
  let hi:=p (a++x::c) u v (by simp at h⊢;lia) e f λy d=>i y (by
   simp at d⊢;rcases d with h|h|h
   .simp[h]
   .simp[h]
   simp[h])
  rw[s,j8]at hi;rw[q,j8,show x::(b++x::(c++[v]))=(x::b)++x::(c++[v]) from J,j8<|x::b];show hi.trans<|lO YO ?_;let r:=ac4 g o (l:=x::b++[x]) (J,mF Jc,λy d=>i y (by
   simp at d⊢;rcases d with rfl|h|rfl
   .simp
   .simp[h]
   simp)) Jc
  let:=lO r<|bL.refl<|c7 M<|x::(c++[v]);rwa [add_zero]at this
def N9(c:QX)(f:jm n M)(d:bN JI=au){l:ZR}{u v:JD}(w:Wk n l u v):bL (aF JI u v) (c7 M l):=by
 let g:=w.pt u<|List.mem_of_mem_head? Y9;let(a,rfl):=w.last;let b:=w.pt v Jc;cases a with
 |nil=>
  haveI:v=u:=by let:=Y9;exists this
  subst this;let:=ac5 c d 0 [] v v JR b b (λj h=>nomatch h);change bL _ bp
  haveI e:c7 M (v::[]++[v])=bp:=by
   change bh (aF M v v) bp=_
   rw[f v b];rfl
  rw[e]at this;show this
 |cons x m=>
  haveI:x=u:=by let:=Y9;exists this
  subst this;show ac5 c d m.9 m x v JR g b λy i=>w.pt y<|by simp[i]
def xp(a:QX)(b:u<n)(c:v<n)(h:aF JI u v≠O):∃l,Wk n l u v/\2<=l.9/\c7 M l=aF JI u v:=acJ a u v b c h
def q5 x:bL x O:=fX x
def GJ(b:QX)(i:jm n M)(j:bN JI=au)(l:u<n)(m:v<n)(d:k<n):bL (aF JI u v) (bh (aF JI u k)<|aF JI k v):=by
 cases e:aF JI u k=O
 .rw[e];show q5 _
 cases f:aF JI k v=O
 .rw[f];haveI:bh (aF JI u k) O=O:=by cases aF JI u k<;>rfl
  rw[this];show q5 _
 let(q,g,_,o):=xp b l d e;let(r,h,_,p):=xp b d m f;let(a,rfl):=g.last;let(c,rfl):=h.first;rw[<-o,<-p,<-j8];show N9 b i j<|g.join h
def N_(a:QX)(b:u<n)(c:v<n):bL (aF JI u v) Ul:=by
 let:=GI a b c xK (λd h=>nomatch h);haveI e:c7 M (u::[]++[v])=aF M u v:=by
  change bh Ul bp=_
  rw[vj]
 rwa [e]at this
def Oa(b:QX)(a:bN JI=au)(c:u<n):bL bp (aF JI u u):=by rw[tJ];delta bN at a;rw[sS,b.1]at a;ext
end
def ac6(h:∀x∈l,bL a x):bL a (tl l):=by
 rcases Gz with e|e
 .rw[e];show q5 _
 show h _ e
structure iT(N:JD)(M a:JY):Prop where
 sh:bO N M
 dg:jm N M
 oJ:bO (N+1) a
 vo:jm (N+1) a
 old:∀u v,u<N->v<N->aF a u v=aF M u v
 by_:∀x y,x<N->y<N->bL (aF M x y) (bh (aF a x N)<|aF a N y)
section
variable {N:Nat} {M M':List (List SL)}
theorem iT.show(E:iT N M M'):∀l:List Nat,(∀x∈l,x<N)->c7 M' l=c7 M l
 |[],b=>rfl
 |[b],c=>rfl
 |u::v::l,h=>by
  change bh (aF M' u v) (c7 M'<|v::l)=bh Ul (c7 M<|v::l)
  rw[E.old u v (h u Jc)<|h v Jc,E.show (v::l) λx a=>h x<|df _ a]
def ac7(w:Wk N l u v):Wk (N+1) l u v:=(Y9,w.lt,λx a=>by let:=w.pt x a;lia)
def ac8(w:Wk n (u::z::l) u v):Wk n (z::l) z v:=(J,by let:=w.lt;rw[CS]at this;show this,λx a=>w.pt x<|df _ a)
theorem iT.past(E:iT N M M')(k:bN JI=au):∀j l (u v:Nat),l.9<=j->u<N->v<N->Wk (N+1) l u v->bL (aF JI u v) (c7 M' l)
 |0,l,u,v,h,A,B,w=>by
  let(c,rfl):=w.first;simp at h
 |j+1,l,u,v,h,m,n,w=>by
  cases o:N∈l
  .let(a,b,e,r):=List.eq_append_cons_of_mem o;subst e;rcases as0 a with rfl|⟨a,x,rfl⟩
   .let:=Y9;ext
   cases b with
   |nil=>
    let:=w.lt;ext
   |cons y b=>
    haveI d:x<N:=by
     let p:=w.pt x Jc;haveI:x≠N:=λe=>r<|by ext
     lia
    let s:a.concat x++N::y::b=a++x::(N::y::b):=Jc
    rw[s]at w h⊢;haveI g:c7 M' (a++x::(N::y::b))=bh (c7 M'<|a++[x]) (bh (aF M' x N)<|bh (aF M' N y)<|c7 M'<|y::b):=by
     rw[j8];rfl
    cases i:y=N
    .rw[i]at w h g⊢;rw[E.vo N Ja,add_zero]at g;haveI:c7 M' (a++x::(N::b))=c7 M' (a++x::(N::N::b)):=by
      rw[g,j8];rfl
     rw[<-this];show E.past k j _ u v (by simp at h⊢;lia) m n (?_,?_,?_)
     .let:=Y9;cases a with|nil=>show this|cons z a=>show this
     .let:=w.lt;rw[mF Jc]at this;rwa [mF Jc,CS]
     intro z f;apply w.pt;simp at f⊢;rcases f with h|h|h|h<;>simp[h]
    haveI i:y<N:=by
     let p:=w.pt y Jc;lia
    haveI t:Wk (N+1) (a++x::(y::b)) u v:=by
     show(?_,?_,?_)
     .let:=Y9;cases a with|nil=>show this|cons z a=>show this
     .let:=w.lt;rw[mF Jc]at this;rwa [mF Jc,CS]
     intro z f;apply w.pt;simp at f⊢;rcases f with h|h|h|h<;>simp[h]
    apply (E.past k j (a++x::(y::b)) u v (by simp at h⊢;lia) m n t).trans;rw[g,j8];apply lO YO;change bL (bh (aF M' x y)<|c7 M'<|y::b) _
    rw[E.old x y d i,<-vk];show lO (E.by_ x y d i) YO
  haveI q:∀x∈l,x<N:=λx d=>by
   let p:=w.pt x d;let:x≠N:=λe=>o<|e▸d
   lia
  rw[E.show l q];show N9 E.sh E.dg k (Y9,w.lt,q)
theorem iT.out(E:iT N M M')(d:bN JI=au):∀l v,v<N->Wk (N+1) l N v->∃y,y<N/\bL (bh (aF M' N y)<|aF JI y v) (c7 M' l)
 |[],v,j,w=>by let:=Y9;cases this
 |[x],v,a,w=>by
  let b:=Y9;let g:=w.lt;simp at b g;lia
 |x::z::l,v,a,w=>by
  haveI b:x=N:=by let:=Y9;exists this
  rw[b]at w⊢;let c:=ac8 w;cases e:z=N
  .rw[e]at c;let(y,i,h):=E.out d (N::l) v a c;show(y,i,?_);rw[e];change bL _ (bh (aF M' N N)<|c7 M'<|N::l)
   rwa [E.vo N Ja,add_zero]
  haveI f:z<N:=by let:=w.pt z Jc;lia
  show(z,f,?_);show lO YO<|E.past d _ (z::l) z v JR f a c
theorem iT.Ob(E:iT N M M')(d:bN JI=au):∀j l u,l.9<=j->u<N->Wk (N+1) l u N->∃x,x<N/\bL (bh (aF JI u x)<|aF M' x N) (c7 M' l)
 |0,l,u,h,n,w=>by
  let(c,rfl):=w.first;simp at h
 |j+1,l,u,h,e,w=>by
  let(a,rfl):=w.last;rcases as0 a with rfl|⟨a,z,rfl⟩
  .let:=Y9;ext
  let k:a.concat z++[N]=a++z::[N]:=Jc
  simp;rw[j8];haveI g:c7 M' [z,N]=aF M' z N:=by
   change bh (aF M' z N) bp=_
   rw[vj]
  rw[g];haveI b:Wk (N+1) (a++[z]) u z:=by
   show(?_,mF Jc,λy m=>w.pt y<|by grind);let:=Y9;cases a with|nil=>show this|cons y a=>show this
  cases i:z=N
  .rw[i]at b⊢;rw[E.vo N Ja,vj];show E.Ob d j (a++[N]) u (by simp at h⊢;lia) e b
  haveI f:z<N:=by let:=w.pt z Jc;lia
  show(z,f,lO (E.past d _ (a++[z]) u z JR e f b) YO)
theorem iT.round(E:iT N M M')(b:bN JI=au):∀l,Wk (N+1) l N N->bL bp (c7 M' l)
 |[],w=>by let:=Y9;cases this
 |[x],w=>bL.refl _
 |x::z::l,w=>by
  haveI f:x=N:=by let:=Y9;exists this
  rw[f]at w⊢;let c:=ac8 w;change bL _ (bh (aF M' N z)<|c7 M'<|z::l)
  cases g:z=N
  .rw[g]at c⊢;rw[E.vo N Ja,add_zero];show E.round b (N::l) c
  haveI a:z<N:=by let:=w.pt z Jc;lia
  let(y,d,h):=E.Ob b _ (z::l) z JR a c;show bL.trans ?_<|lO YO h;haveI e:bh (aF M' N z) (bh (aF JI z y)<|aF M' y N)=bh (aF JI z y) (bh (aF M' y N)<|aF M' N z):=by
   rw[NT<|aF M' N z,vk]
  rw[e];show (Oa E.sh b a).trans<|(GJ E.sh E.dg b a a d).trans<|lO YO<|(N_ E.sh d a).trans<|E.by_ y z d a
def iT.calm(E:iT N M M')(b:bN JI=au):bN (aE M')=au:=by
 cases h:bN (aE M') with
 |false=>rfl
 |true=>
  let(w,a,c):=lT.1 h;rw[sS,E.oJ.1]at a;let a:=cC.1 a;let(l,d,_,e):=xp E.oJ a a (λe=>by rw[e]at c;cases c);let key:bL bp (c7 M' l):=by
   cases f:w=N
   .subst f;show E.round b l d
   show (Oa E.sh b Ja).trans<|E.past b _ l w w JR Ja Ja d
  rw[e,tJ,c]at key;cases key
def iT.aqs(E:iT N M M')(d:bN JI=I):bN (aE M')=I:=by
 cases h:bN (aE M') with
 |true=>rfl
 |false=>
  let(w,a,b):=lT.1 d;rw[sS,E.sh.1]at a;let a:=cC.1 a;let(l,c,f,e):=xp E.sh a a (λe=>by rw[e]at b;cases b);let:=ac4 E.oJ h (ac7 c) f;rw[E.show l c.pt,e,tJ,b]at this;cases this
def iT.below(E:iT N M M')(b:bN JI=au)(c:u<N)(d:x<N):bL (aF (aE M') u x) (aF JI u x):=by
 cases h:aF JI u x=O
 .rw[h];show q5 _
 let(l,a,_,e):=xp E.sh c d h;rw[<-e,<-E.show l a.pt];show N9 E.oJ E.vo (E.calm b)<|ac7 a
def iT.to_(E:iT N M M')(b:bN JI=au)(c:u<N):aF (aE M') u N=tl ((aQ N).map λx=>bh (aF JI u x)<|aF M' x N):=by
 apply bL.antisymm
 .apply ac6;intro z d;let(x,a,rfl):=eJ.1 d;let a:=cC.1 a;show (GJ E.oJ E.vo (E.calm b) Ja Ja Ja).trans<|lO (E.below b c a)<|N_ E.oJ Ja Ja
 cases h:aF (aE M') u N=O
 .rw[h];show q5 _
 let(l,f,_,e):=xp E.oJ Ja Ja h;let(x,a,g):=E.Ob b _ l u JR c f;rw[<-e];show (Cp<|eJ.2 (x,cC.2 a,J)).trans g
def iT.aqt(E:iT N M M')(b:bN JI=au)(c:v<N):aF (aE M') N v=tl ((aQ N).map λy=>bh (aF M' N y)<|aF JI y v):=by
 apply bL.antisymm
 .apply ac6;intro z d;let(x,a,rfl):=eJ.1 d;let a:=cC.1 a;show (GJ E.oJ E.vo (E.calm b) Ja Ja Ja).trans<|lO (N_ E.oJ Ja Ja)<|E.below b a c
 cases h:aF (aE M') N v=O
 .rw[h];show q5 _
 let(l,f,_,e):=xp E.oJ Ja Ja h;let(x,a,g):=E.out b l v c f;rw[<-e];show (Cp<|eJ.2 (x,cC.2 a,J)).trans g
end
section
variable {s:bX} {k c:Nat}
abbrev wr s k c:=as2 s k c
def zz(h:i<Jb):aI Ze i=aI s i:=by delta aI wr as2;grind
def ac9:aI Ze Jb={node:=k,epoch:=(aS s k).10,reading:=c}:=by
 change ((s.8++_)[Jb]?).getD _=_
 rw[G6 JR,afE];rfl
def pZ:(wr s k c).events.9=Jb+1:=by
 change (s.8++[_]).9=_
 simp
def aqu i:aS Ze i=aS s i:=J
def vq(f:J6)(g:Wy):kH Ze:=by
 show(f.n6,f.rt,?_,?_,?_)
 .intro e he;rcases dC.1 he with h|h
  .show (f.ev e h).1
  rw[fZ.1 h];show g
 .intro l i;let(a,b,d,_):=f.wd l i;rw[pZ,zz a,zz b];show(by lia,Ja,d)
 intro m j;rw[pZ];let:=(f.mo m j).1;lia
def mW(s:bX)(k c:JD):List (List SL):=gO Ze (dU Ze<|-1) []
def ada{u}(h:u<t.events.9+1):kP (dU t<|-1) u=I:=by
 cases u with
 |zero=>rfl
 |succ u=>
  change (t.events.map λa=>I).getD u au=I
  ext
def vt(d:kH t){u v}(a:u<t.events.9+1)(b:v<t.events.9+1):aF (gO t (dU t<|-1) []) u v=bG (if u=v then bp else O) (dh (jl t []) u v):=by rw[Ci,(vf (jl t []) (by rw[c6];show yZ _)<|zt d []).2,ada a,ada b,ak<|by rfl,Cj (by rw[c6];show a) (by rw[c6];show b)]
def adb{b a}(d:b<Jb)(e:a<Jb):jM Ze sc [] b a=jM s sc [] b a:=by delta jM;erw[zz d,zz e,aqu]
def aqv{u v}(b:u<Jb+1)(d:v<Jb+1):dh (kG Ze sc []) u v=dh (kG s sc []) u v:=by
 cases a:u=0\/v=0\/u=v
 .rw[tH a,tH a]
 obtain⟨i,rfl⟩:∃i,u=i+1:=(u-1,Ja);obtain⟨j,rfl⟩:∃j,v=j+1:=(v-1,Ja);let e:=pZ (s:=s) (k:=k) (c:=c);rcases Nat.lt_or_gt_of_ne (show i≠j by lia) with h|h
 .rw[vg Ja Ja h _ _<|.inl (J,J),vg Ja Ja h _ _<|.inl (J,J),adb Ja Ja]
 rw[vg Ja Ja h _ _<|.inr (J,J),vg Ja Ja h _ _<|.inr (J,J),adb Ja Ja]
def CC(e:J6){sc}{u v}(h:u=Jb+1\/v=Jb+1):dh (nF sc UJ++tG sc UT) u v=O:=by
 apply acB;intro x d;rcases dC.1 d with d|d
 .let(l,f,d):=C4.1 d;let(a,b,_):=e.wd l f;let:=Gs (n:=QL) Ja Ja x d;lia
 let(m,g,d):=C4.1 d;let a:=(e.mo m g).1;let:=Gs (n:=QL) Ja Ja x d;lia
def ade(a:J6)(e:Wy){u v}(b:u<Jb+1)(d:v<Jb+1):aF UA u v=aF Ui u v:=by delta mW;let f:=pZ (s:=s) (k:=k) (c:=c);rw[vt (vq a e) Ja Ja];let:=vt a.w b d;rw[this];delta jl;rw[lN,lN<|kG s _ _,aqv b d];rfl
def adf(d:J6)(f:Wy){j}(e:j<Jb):aF UA Q7 QL=if (aI s j).node=k/\(aI s j).10=(aS s k).10 then fq (aM s:JD) Qr (c-((aI s j).11:Int)) else O:=by
 delta mW;let g:=pZ (s:=s) (k:=k) (c:=c);rw[vt (vq d f) Ja Ja,aj Ja,gk];delta jl;rw[lN,vg Ja Ja e _ _<|.inl (J,J),show (wr s k c).lags=s.lags from J,show (wr s k c).marks=s.marks from J,CC d<|.inr J,fX];delta jM;erw[zz e,ac9];cases a:(aI s j).node=k
 .rw[aj λx=>x a,hU,nG (by simp;lia)];cases b:(aI s j).10=(aS s k).10
  .rw[ak (b,Jc),ak (a,b),hU,hU,zp,nG (by simp;lia),a];rfl
  rw[aj λx=>b x.1,aj λx=>b x.2];rfl
 rw[ak a,aj λx=>a x.1];rfl
def adg(d:J6)(f:Wy){j}(e:j<Jb):aF UA QL Q7=if (aI s j).node=k then (if (aI s j).10=(aS s k).10 then bG bp (g9 (aM s:JD) Qr<|c-((aI s j).11:Int)) else bp) else O:=by
 delta mW;let g:=pZ (s:=s) (k:=k) (c:=c);rw[vt (vq d f) Ja Ja,aj Ja,gk];delta jl;rw[lN,vg Ja Ja e _ _<|.inr (J,J),show (wr s k c).lags=s.lags from J,show (wr s k c).marks=s.marks from J,CC d Qw,fX];delta jM;erw[zz e,ac9];cases a:(aI s j).node=k
 .rw[aj λx=>x a,hU,zp,ak a];cases b:(aI s j).10=(aS s k).10
  .rw[ak (b,Jc),ak b,hU,hU,zp,nG (by simp;lia),a];rfl
  rw[aj λx=>b x.1,aj b];rfl
 rw[ak a,aj a];rfl
def GK(a:J6)(b:Wy):aF UA 0 QL=O/\aF UA QL 0=O:=by
 let d:=pZ (s:=s) (k:=k) (c:=c);delta mW;constructor
 .rw[vt (vq a b) Ja Ja,aj Ja,gk];delta jl;rw[lN,tH Qw,gk];show CC a<|.inr J
 rw[vt (vq a b) Ja Ja,aj Ja,gk];delta jl;rw[lN,tH<|.inr Qw,gk];show CC a Qw
def aqw:bO (Jb+1+1) UA:=by let:=FO Ze (dU Ze<|-1) [];rwa [c6,pZ]at this
def aqx(a:J6)(b:Wy):jm (Jb+1+1) UA:=by
 intro u d;let f:=pZ (s:=s) (k:=k) (c:=c);cases h:u<Jb+1
 .rw[ade a b h h];show Cn a WA [] u h
 let e:u=Jb+1:=Ja
 subst e;delta mW;rw[vt (vq a b) Ja Ja,ak J];delta jl;rw[lN,tH<|.inr<|.inr J,gk,show (wr s k c).lags=s.lags from J,show (wr s k c).marks=s.marks from J,CC a Qw,fX]
def Oc(i:J6)(j:Wy):∃A B:Int,0<A/\0<B/\B<=A/\(∀gap:Int,fq (aM s:JD) Qr gap=Y ((gap+1)*A,(I)))/\(∀gap:Int,g9 (aM s:JD) Qr gap=Y ((1-gap)*B,(I)))/\A*(aS s k).lo.num=(aS s k).lo.den*(aM s:JH)/\B*(aS s k).hi.num=(aS s k).hi.den*(aM s:JH):=by
 let(r1,f,d):=i.rt _<|oB j;let((a,g),(b,h)):=Gr i.w j;haveI e:(0:Int) <((bQ s.7:Nat):Int):=by let:=(fV i).1;lia
 haveI m:((bQ s.7:Nat):Int) / (aS s k).lo.num=a:=by rw[g];show G9 a (by let:=r1.1;lia)
 haveI n:((bQ s.7:Nat):Int) / (aS s k).hi.num=b:=by rw[h];show G9 b (by let:=f.1;lia)
 haveI o:0<a:=by
  rw[g]at e;show asF e r1.1
 haveI q:0<b:=by
  rw[h]at e;show asF e f.1
 haveI r:(0:Int) <((aS s k).lo.den:Int):=by let:=r1.2.2.1;lia
 haveI t:(0:Int) <((aS s k).hi.den:Int):=by let:=f.2.2.1;lia
 show(((aS s k).lo.den:Int)*a,((aS s k).hi.den:Int)*b,Ds r o,Ds t q,?_,?_,?_,?_,?_)
 .delta mR at d;let d:=ava d;haveI d:(aS s k).lo.num*((aS s k).hi.den:Int)<=(aS s k).hi.num*((aS s k).lo.den:Int):=by lia
  let p:0<(aS s k).lo.num*(aS s k).hi.num:=Ds r1.1 f.1;let l:=OS d<|ja e;haveI u:(aS s k).lo.num*((aS s k).hi.den:Int)*((bQ s.7:Nat):Int)=((aS s k).hi.den:Int)*b*((aS s k).lo.num*(aS s k).hi.num):=by rw[h];grind
  haveI v:(aS s k).hi.num*((aS s k).lo.den:Int)*((bQ s.7:Nat):Int)=((aS s k).lo.den:Int)*a*((aS s k).lo.num*(aS s k).hi.num):=by rw[g];grind
  rw[u,v]at l;show asp l p
 .intro gap;delta fq;rw[m,PR]
 .intro gap;delta g9;rw[n,PR]
 .change _=_*((bQ s.7:Nat):Int)
  rw[g];grind
 change _=_*((bQ s.7:Nat):Int)
 rw[h];grind
theorem adh{f:Type}{p}:∀{l}{z:f},(l.filter p).getLast?=Y z->∃a b,l=a++z::b/\p z=I/\∀y∈b,p y=au
 |[],z,h=>by cases h
 |x::l,z,h=>by
  cases g:l.filter p=[]
  .rw[C5,g]at h;cases d:p x=I
   .rw[ak d]at h;simp at h;subst h;show([],l,J,d,λy n=>?_);ext
   ext
  haveI i:(l.filter p).getLast?=Y z:=by
   rw[C5]at h;cases d:p x=I
   .rw[ak d]at h;induction e:l.filter p<;>ext
   rw[aj d]at h;show h
  let(a,b,e,j,m):=adh i;show(x::a,b,by rw[e];rfl,j,m)
def Od(m:J6){j}(q:j<Jb)(n:(aI s j).node=k)(o:(aI s j).10=(aS s k).10):(aI s j).11<=cF s k:=by
 let d:s.8[j]?=Y (aI s j):=by
  delta aI;ext
 delta cF lY;cases f:(s.events.filter λx=>Ua==k&&x.10==(aS s k).10).getLast? with
 |none=>
  let:=List.getLast?_eq_none_iff.1 f;let:=List.filter_eq_nil_iff.1 this _<|bM d;ext
 |some z=>
  let(a,b,e,pz,p):=adh f;let g:s.8[a.9]?=Y z:=by ext
  simp at pz;rcases ae2 j a.9 with h|h|h
  .let:=m.od j a.9 _ z h d g (by rw[n,pz.1]);show this.2<|by rw[o,pz.2]
  .subst h;rw[g]at d;rw[<-bt d];simp
  exfalso;let:aI s j∈b:=by
   let l:=d;rw[e,G6 Ja]at l;obtain⟨i,hi⟩:∃i,j-a.9=i+1:=(j-a.9-1,Ja);ext;show bM l
  let:=p _ this;ext
def Oe(a:kH t){x}(b:x∈jl t []):bL (aF (gO t (dU t<|-1) []) x.1 x.2.1) x.2.2:=by let(d,e):=zt a [] x b;rw[vt a d e];show (GC _ _).trans<|Cp<|eJ.2 (x,b,ak (J,J))
def Of(d:a<b)(e:b<Jb){x}(f:x∈jM s sc [] b a):x∈kG s sc []:=C4.2 (b,cC.2 e,C4.2 (a,cC.2 d,f))
def GL(h:a<b\/(a=b/\(o=I\/p=au))):bL (Y (a,(o))) (Y (b,(p))):=by rw[tJ];cases o<;>cases p<;>simp[cA]at h⊢<;>lia
def Og(h:a<=b):bL (Y (a,(I))) (Y (b,(I))):=by
 rcases Int.lt_or_eq_of_le h with h|h
 .show GL<|.inl h
 show GL<|.inr (h,Qw)
def aqy(a:J6)(l:Wy)(R:cF s k<=c):∀x y,x<Jb+1->y<Jb+1->bL (aF Ui x y) (bh (aF UA x QL)<|aF UA QL y):=by
 intro x y F S;cases x with
 |zero=>rw[(GK a l).1];show q5 _
 |succ j=>
  cases y with
  |zero=>
   rw[(GK a l).2];let:∀z:SL,bh z O=O:=λz=>by cases z<;>rfl
   rw[this];show q5 _
  |succ i=>
   rw[adf a l Ja,adg a l Ja];cases d:(aI s j).node=k/\(aI s j).10=(aS s k).10
   .rw[ak d];cases f:(aI s i).node=k
    .rw[ak f];let(A,B,r,T,X,o,t,_):=Oc a l;let rj:=Od a Ja d.1 d.2;generalize ab:c-((aI s j).11:Int)=g;let u:0<=g:=by lia
     let gA:=afr u<|ja r;let ac:0<=g*(A-B):=afr u Ja;let v:s.8[j]?=Y (aI s j):=by
      delta aI;ext
     let w:s.8[i]?=Y (aI s i):=by
      delta aI;ext
     let H:=(a.ev _<|qR (show i<Jb by lia)).2.2;rw[f]at H;let low:∀{b:SL},(i<=j->bL bp b)->(j<i->bL (fq (aM s:JD) Qr<|((aI s i).11:Int)-((aI s j).11:Int)) b)->bL (aF Ui Q7 JK) b:=by
      intro b C L;rcases ae2 j i with h|h|h
      .show bL.trans ?_<|L h;let p:=a.od j i _ _ h v w (by rw[d.1,f]);let he:(aI s i).10=(aS s k).10:=by let:=p.1;rw[d.2]at this;lia
       let:=Oe a.w (x:=(j+1,JK,(fq (aM s:JD) Qr<|((aI s i).11:Int)-((aI s j).11:Int)))) (nL _ (Of h Ja (by
        delta jM;rw[aj λx=>x<|by rw[d.1,f],ak (by rw[d.2,he],Jc),d.1];simp)))
       show this
      .subst h;show bL.trans ?_<|C JR;rw[Cn a WA [] _ F];show bL.refl _
      show bL.trans ?_<|C Ja;let:=Oe a.w (x:=(j+1,JK,(bp))) (nL _ (Of h Ja (by
       delta jM;rw[aj λx=>x<|by rw[d.1,f]];simp)))
      show this
     let D:(j<i->(aI s i).11<=c)->bL (aF Ui Q7 JK) (bh (fq (aM s:JD) Qr g) bp):=by
      intro E;rw[vj,o];let e:(g+1)*A=g*A+A:=by grind
      show low (λK=>GL<|.inl (by rw[e];lia)) λh=>?_
      let E:=E h;rw[o];apply Og;let:(((aI s i).11:Int)-((aI s j).11:Int)+1)*A<=(g+1)*A:=OS Ja<|ja r;show this
     cases m:(aI s i).10=(aS s k).10
     .rw[ak m];let ri:=Od a (show i<Jb by lia) f m;rcases zu bp (g9 (aM s:Nat) Qr ((c:JH)-((aI s i).11:Int))) with e|e
      .rw[e];show D λK=>by lia
      rw[e,o,t];generalize ae:(c:JH)-((aI s i).11:Int)=h;let N:0<=h:=Ja
      let af:0<=h*(A-B):=afr N Ja;change bL _ (Y ((g+1)*A+(1-h)*B,(I)))
      cases P:i<j
      .let:=Oe a.w (x:=(j+1,JK,(g9 (aM s:JD) Qr<|((aI s j).11:Int)-((aI s i).11:Int)))) (nL _ (Of P Ja (by
        delta jM;simp only;rw[aj λx=>x<|by rw[d.1,f],ak (by rw[d.2,m],Jc),f];simp)))
       apply bL.trans this;change bL (g9 _ _ _) _
       rw[t];apply Og;let q:((aI s j).11:Int)-((aI s i).11:Int)=h-g:=Ja
       rw[q];let n:(g+1)*A+(1-h)*B=(1-(h-g))*B+(g*(A-B)+A):=by grind
       rw[n];lia
      show low (λag=>?_) λai=>?_
      .let Q:i=j:=by lia
       subst Q;let:g=h:=Ja
       subst this;show GL<|.inl ?_;let n:(g+1)*A+(1-g)*B=g*(A-B)+A+B:=by grind
       rw[n];lia
      rw[o];apply Og;let q:((aI s i).11:Int)-((aI s j).11:Int)=g-h:=Ja
      rw[q];let n:(g+1)*A+(1-h)*B=(g-h+1)*A+(h*(A-B)+B):=by grind
      rw[n];lia
     rw[aj m];show D λh=>absurd ?_ m
     let p:=a.od j i _ _ h v w (by rw[d.1,f]);let:=p.1;rw[d.2]at this;lia
    rw[aj f];show q5 _
   rw[aj d];show q5 _
def CD(a:J6)(b:Wy)(d:cF s k<=c):iT QL Ui UA:=
 (sX s<|-1,Cn a WA [],aqw,aqx a b,λu v e f=>ade a b e f,aqy a b d)
end
def aqz(a b c:SL):bh (bG a b) c=bG (bh a c) (bh b c):=by
 apply bL.antisymm
 .rcases zu (bh a c) (bh b c) with e|e
  .rw[e];show lO (GB a b)<|bL.refl c
  rw[e];show lO (GC a b)<|bL.refl c
 rcases zu a b with e|e
 .rw[e];show GB _ _
 rw[e];show GC _ _
section
variable {s:bX} {k:Nat}
def xq(s:bX)(sc:JH)(F:JY)(src k:JD)(c:JH)(j:JD):SL:=if (aI s j).node=k/\(aI s j).10=(aS s k).10 then bh (aF F Yj Q7) (fq sc Qr<|c-((aI s j).11:Int)) else O
def vv(s:bX)(sc:JH)(F:JY)(src k:JD)(c:JH)(j:JD):SL:=if (aI s j).node=k then (if (aI s j).10=(aS s k).10 then bG (aF F Q7 Yj) (bh (g9 sc Qr<|c-((aI s j).11:Int))<|aF F Q7 Yj) else aF F Q7 Yj) else O
def adi l x:tl (l++[x])=bG (tl l) x:=by rw[NC,lJ];rfl
theorem zA sc F src c:∀n,iI s sc F src k c n=(tl<|(aQ n).map<|xq s sc F src k c,(tl<|(aQ n).map<|vv s sc F src k c))
 |0=>rfl
 |n+1=>by
  rw[MY,zA sc F src c n,oR,eV,eV,aeQ,aeQ,adi,adi];delta B4 xq vv;cases a:(aI s n).node=k
  .rw[ak a,ak a];cases b:(aI s n).10=(aS s k).10
   .rw[ak b,ak (a,b),ak b];congr 1
    .rw[nE]
    rw[<-gH,nE,nE<|bh _ _]
   rw[aj b,aj λx=>b x.2,aj b,fX,nE<|aF F (n+1) Yj]
  rw[aj a,aj λx=>a x.1,aj a,fX,fX]
def adj{f:Nat->SL}(h:f 0=O):tl ((aQ<|n+1).map f)=tl ((aQ n).map λj=>f Q7):=by rw[asN,hY,lJ,h,gk,kg];rfl
def adk(a:J6)(b:Wy)(d:cF s k<=c)(e:bN Js=au)(g:src<Jb):aF (aE UA) Yj QL=(iI s (aM s:JD) Js src k c Jb).1:=by
 rw[(CD a b d).to_ e Ja,zA,adj (by
  rw[(GK a b).1];cases aF Js Yj 0<;>rfl)]
 congr 1;show mK λj f=>?_
 rw[adf a b<|cC.1 f];delta xq;split
 .rfl
 cases aF Js Yj Q7<;>rfl
def adl(a:J6)(b:Wy)(d:cF s k<=c)(e:bN Js=au)(g:src<Jb):aF (aE UA) QL Yj=(iI s (aM s:JD) Js src k c Jb).2:=by
 rw[(CD a b d).aqt e Ja,zA,adj (by
  rw[(GK a b).2];rfl)]
 congr 1;show mK λj f=>?_
 rw[adg a b<|cC.1 f];delta vv;split
 .split
  .rw[aqz,add_zero]
  rw[add_zero]
 rfl
def adm(a:J6)(b:Wy) c:TM Qe (Jb+1+1) (hV Ze<|dB Ze<|-1) (aE UA):=by let:=Gu (vq a b) (cs:=[]) (c6 Ze<|-1) (deaf:=[]) (λd h=>nomatch h)<|tI _;rwa [pZ]at this
def aqA(a:J6)(b:Wy) c:xM Ze (oW Ze)=if bN (aE UA)=I then O else Y (hV Ze<|dB Ze<|-1):=by rw[Cm];show Gv (vq a b) (cs:=[]) (c6 Ze<|-1) (λd h=>nomatch h)<|tI _
def aqB(a:J6)(b:Wy)(e:WY<Jb)(d:cF s k<=c):afu s x k c=if bN Js=I then O else Y (bE Qe (iI s (aM s:JD) Js WY k c Jb).1,(bE Qe (iI s (aM s:JD) Js WY k c Jb).2)):=by
 let f:afu s x k c=(xM Ze<|oW Ze).map λm=>(gI m QC (wr s k c).events.9,(gI m (wr s k c).events.9 QC)):=J
 rw[f,aqA a b,pZ];cases h:bN Js=I
 .rw[ak h,ak<|(CD a b d).aqs h];rfl
 haveI h':bN Js=au:=by exists h
 rw[aj h,aj (by rw[(CD a b d).calm h'];simp)];change Y (gI _ _ _,(gI _ _ _))=Y _
 rw[<-adk a b d h' e,<-adl a b d h' e,adm a b c _ _ Ja Ja,adm a b c _ _ Ja Ja]
def aqC s(k c:JD):((lY s k).all λx=>decide<|x.11<=c)=decide (cF s k<=c):=by delta cF;cases lY s k<;>rfl
def aqD(a:J6){i c:JD}(b:Qk[i]?=Y x)(d:Wy)(l:c<=Jk):cT s (cq s<|.age i k c)=(s,(u7 s x k c)):=by
 let m:=a.oy;let n:=a.n6;let hi:=(cU.1 b).1;let(g,_):=a.pc x<|bM b;let e:=(fV a).1;let j:cq s (.age i k c)=((cZ i 0 9).bind λp=>(cZ k 0 5).bind λi=>(cZ c 0 xR).bind λc=>(kQ s p).bind λp=>(oT s i).bind λi=>(PX ((lY s i).all λx=>decide<|x.11<=c)<|-7).bind λo=>match afu s p i c with
   |none=>.error (-8)
   |some x=>.ok (s,((Dg x.1 x.2 p.life:Int)::(p_ (t7 x.2)++p_ x.1)))):=J
 rw[j,ck Ja Ja,ck Ja Ja,ck Ja (by change c<=(1000000000000:Int);lia)];erw[dQ,ed,Cy b,Cw d];delta PX u7;rw[aqC];cases f:cF s k<=c
 .rw[ak<|cn f,aj Ja];simp only;rw[aqB a d g f];cases h:bN Js=I
  .rw[ak h,ak h];rfl
  rw[aj h,aj h];dsimp only;rw[ND e,NO e];rfl
 rw[aj<|by ext,ak Ja];rfl
end
theorem Oh:∀(f:Nat) (d hi:JH),hi-d<=f->d<=hi->(∀c,d<=c->c<hi->(p c=I↔T<=c))->tj p f d hi=max d (min T hi)
 |0,d,hi,h,l,m=>by
  let:d=hi:=Ja
  subst this;change d=max d (min T d)
  lia
 |f+1,d,hi,h,l,e=>by
  delta tj;cases j:d<hi
  .rw[ak j];haveI i:d<=(d+hi) / 2:=by lia
   let k:(d+hi) / 2<hi:=Ja
   cases g:p ((d+hi) / 2)=I
   .rw[ak g,Oh f d ((d+hi) / 2) Ja i λc a b=>e c a Ja];let:=(e _ i k).1 g;lia
   rw[aj g,Oh f ((d+hi) / 2+1) hi Ja Ja λc a b=>e c Ja b];let:¬T<=(d+hi) / 2:=λx=>g<|(e _ i k).2 x
   lia
  rw[aj j];lia
def CF{a:JD}(b:a<=Jk)(h:∀c:Int,a<=c->c<Zt->(p c=I↔T<=c)):my p a=max (a:JH) (min T Zt):=Oh _ _ _ Ja Ja h
def adn(hd:0<d)(h:UQ) c:c<=zY x↔c*d<=n:=by
 delta zY;haveI p:(0:Int) <x.den:=by let:=h.pos;lia
 let f:(0:Int) <d:=Ja
 let e:=h.eq;rw[asq _ Jc,Int.le_ediv_iff_mul_le p];constructor
 .intro a;let b:=OS a<|ja f;haveI g:c*Yh*d=c*d*x.den:=by grind
  ext
 intro a;let b:=OS a<|ja p;haveI g:c*d*Yh=c*Yh*d:=by grind
 rw[<-e,g]at b;show asp b f
def aqE(hd:0<d)(h:UQ) c:Df x<=c↔n<=c*d:=by let:=adn hd h.neg<|-c;let e:Df x= -zY (nS x):=J;grind
section
variable {s:bX} {k:Nat}
def Oi{g:Type}{l:List g}{f:g->SL}{z:JH}:(∃a,tl (l.map f)=Y a/\a.1<=z)↔∃x∈l,∃a,f x=Y a/\a.1<=z:=by
 constructor
 .intro(a,e,h);rcases Gz (l:=l.map f) with c|c
  .rw[c]at e;cases e
  let(x,d,j):=eJ.1 c;show(x,d,a,by rw[j,e],h)
 intro(x,d,a,e,h);let:=Cp (eJ.2 (x,d,J):f x∈l.map f);rw[e,tJ]at this;cases i:tl (l.map f) with
 |none=>rw[i]at this;cases this
 |some b=>
  rw[i]at this;show(b,J,?_);simp[cA]at this;lia
def ado:(∃a,bG x y=Y a/\a.1<=z)↔(∃a,x=Y a/\a.1<=z)\/(∃a,y=Y a/\a.1<=z):=by
 let:=Oi (l:=[x,y]) (f:=id) (z:=z);haveI e:tl ([x,y].map id)=bG x y:=by
  change bG (bG O x) y=_
  rw[gk]
 rw[e]at this;rw[this];simp
def aqF:lH c up life=2↔∃a,c=Y a/\life<=a.1:=by
 delta lH;rcases c with _|⟨a,o⟩
 .simp;split<;>decide
 cases h:life<=a
 .ext
 rw[aj<|by ext];constructor
 .lia
 intro(b,e,d);let:=bt e;subst this;ext
def adp(r:J6)(t:Wy){x:js}{c:JH}:gx s x k c=2↔∃j,j<Jb/\(aI s j).node=k/\∃a,aF Js Q7 QC=Y a/\((x.life:JH)*(aM s:JH)<= -a.1\/((aI s j).10=(aS s k).10/\∃b,g9 (aM s:JD) Qr (c-((aI s j).11:Int))=Y b/\(x.life:JH)*(aM s:JH)<= -(b.1+a.1))):=by
 delta gx;rw[aqF];change (∃a,iF (iI _ _ _ _ _ _ _).2=Y a/\_)↔_
 rw[zA];change (∃a,iF (tl _)=Y a/\_)↔_
 haveI n:(∃a,iF (tl<|(aQ Jb).map<|vv s (aM s:JD) Js WY k c)=Y a/\(x.life:JH)*(aM s:JH)<=a.1)↔∃a,tl ((aQ Jb).map<|vv s (aM s:JD) Js WY k c)=Y a/\a.1<= -Yr:=by
  cases tl ((aQ Jb).map<|vv s (aM s:JD) Js WY k c) with|none=>simp[iF]|some a=>simp[iF];lia
 rw[n,Oi];constructor
 .intro(j,d,a,e,h);let d:=cC.1 d;delta vv at e;cases f:(aI s j).node=k
  .rw[ak f]at e;cases g:(aI s j).10=(aS s k).10
   .rw[ak g]at e;rcases ado.1 (a,e,h) with⟨b,i,l⟩|⟨b,i,l⟩
    .show(j,d,f,b,i,.inl Ja)
    obtain⟨p,m⟩:∃p,aF (aE (aU s (-1))) Q7 QC=Y p:=by
     cases o:aF Js Q7 QC with|none=>rw[o]at i;cases i|some p=>show(p,J)
    rw[m]at i;show(j,d,f,p,m,.inr (g,_,J,?_));delta g9 at i;let:=bt i;rw[<-this]at l;simp only at l⊢;lia
   rw[aj g]at e;show(j,d,f,a,e,.inl Ja)
  rw[aj f]at e;cases e
 intro(j,d,f,a,e,h);show(j,cC.2 d,?_);delta vv;rw[ak f];cases g:(aI s j).10=(aS s k).10
 .rw[ak g];show ado.2 ?_;rcases h with h|⟨_,b,q,h⟩
  .show .inl (a,e,Ja)
  show .inr ((b.1+a.1,(b.2||a.2)),?_,?_)
  .rw[q,e];rfl
  simp only;lia
 rw[aj g];rcases h with h|⟨h,_⟩
 .show(a,e,Ja)
 show absurd h g
def adq(i:J6)(m:Wy){x:js}{a:Int×Bool}{r c:JH}:(∃b,g9 (aM s:JD) Qr (c-r)=Y b/\(x.life:JH)*(aM s:JH)<= -(b.1+a.1))↔Df (lZ (dZ<|r+1)<|oV (aS s k).hi<|kT (dZ (x.life:JH))<|nS<|cK a.1 Qe)<=c:=by
 let(A,B,y,z,C,D,t,_,E):=Oc i m;let(_,d,_):=i.rt _<|oB m;let f:=(fV i).1;haveI u:Is (kT (dZ (x.life:JH))<|nS<|cK a.1 Qe) ((x.life:JH)*(aM s:JH)+a.1) Qe:=by
  let:=Is.sub f (mC (x.life:JH)) (d8 (n:=a.1) f).neg;rw[Int.sub_neg]at this;show this
 let v:=Is.mul d.2.2.1 f (Is.self d.2.2.1 d.2.2.2.2) u;let o:0<(aS s k).hi.den*aM s:=iN d.2.2.1 f;let w:=Is.add o (mC<|r+1) v;rw[aqE o w,t];let p:0<(aS s k).hi.num:=d.1;constructor
 .intro(b,e,h);let e:=bt e;rw[<-e]at h;simp only at h;haveI q:(x.life:JH)*(aM s:JH)+a.1<=(c-r-1)*B:=by
   haveI:(1-(c-r))*B= -((c-r-1)*B):=by grind
   lia
  let g:=asf q<|ja p;haveI j:(aS s k).hi.num*((c-r-1)*B)=(c-r-1)*(((aS s k).hi.den*aM s:Nat):Int):=by
   rw[zX];grind
  rw[j]at g;haveI l:c*(((aS s k).hi.den*aM s:Nat):Int)=(r+1)*(((aS s k).hi.den*aM s:Nat):Int)+(c-r-1)*(((aS s k).hi.den*aM s:Nat):Int):=by grind
  rw[l];show Int.add_le_add_left g _
 intro h;show(_,J,?_);simp only;haveI j:(aS s k).hi.num*((c-r-1)*B)=(c-r-1)*(((aS s k).hi.den*aM s:Nat):Int):=by
  rw[zX];grind
 haveI l:c*(((aS s k).hi.den*aM s:Nat):Int)=(r+1)*(((aS s k).hi.den*aM s:Nat):Int)+(c-r-1)*(((aS s k).hi.den*aM s:Nat):Int):=by grind
 rw[l,<-j]at h;let g:=Int.le_of_add_le_add_left h;let q:=asx g p;haveI:(1-(c-r))*B= -((c-r-1)*B):=by grind
 lia
def aqG(l:ZR):∀a,∃m,l.foldl (λa x=>match a with
 |none=>Y x
 |some y=>Y<|min x y) (Y a)=Y m/\m∈a::l/\∀x∈a::l,m<=x:=by
 induction l with
 |nil=>intro a;show(a,J,dM,λx b=>by rw[fZ.1 b];show bf _)
 |cons y l d=>
  intro a;let(m,e,f,c):=d<|min y a;show(m,e,by grind,?_);intro x b;let g:=c _ dM;rcases fQ.1 b with h|h
  .rw[h];lia
  rcases fQ.1 h with h|h
  .rw[h];lia
  show c x<|df _ h
def aqH(h:l≠[]):∃m,Vbdtah.leastNat l=Y m/\m∈l/\∀x∈l,m<=x:=by cases l with|nil=>show absurd J h|cons y l=>show aqG l y
def aqI(l:Jw):∀a,∃m,l.foldl (λa x=>match a with
 |none=>Y x
 |some y=>Y<|max x y) (Y a)=Y m/\m∈a::l/\∀x∈a::l,x<=m:=by
 induction l with
 |nil=>intro a;show(a,J,dM,λx b=>by rw[fZ.1 b];show HF _)
 |cons y l d=>
  intro a;let(m,e,f,c):=d<|max y a;show(m,e,by grind,?_);intro x b;let g:=c _ dM;rcases fQ.1 b with h|h
  .rw[h];lia
  rcases fQ.1 h with h|h
  .rw[h];lia
  show c x<|df _ h
def aqJ(h:l≠[]):∃m,Vbdtah.greatestInt l=Y m/\m∈l/\∀x∈l,x<=m:=by cases l with|nil=>show absurd J h|cons y l=>show aqI l y
def ads(a:J6):cF s k<=1000000000000:=by
 delta cF lY;cases b:(s.events.filter λx=>Ua==k&&x.10==(aS s k).10).getLast? with
 |none=>show eX _
 |some z=>
  let:=aeK b;show (a.ev z (kR.1 this).1).2.1
def aqK(n:J6)(q:Wy)(R:WY<Jb):(match Hl s QK x k with
  |none=>[0]
  |some c=>[1,c])=if Jk<my (λc=>decide<|gx s x k c=2) Y8 then [0] else [1,my (λc=>decide<|gx s x k c=2) Y8]:=by
 let i:=(fV n).1;let w:=ads n (k:=k);let r:∀e,e<Jb->t7 (gI QK J5 QC)=bE Qe (iF<|aF Js J5 QC):=by
  intro e he;rw[mD n (-1) _ _ Ja Ja,ND i]
 delta Hl;rw[show ((lY s k).map λx=>x.11).getD 0=cF s k from J];cases t:((O_ s k).any λe=>(t7<|gI QK J5 QC).any λb=>C6 (dZ Wo) b.v)=I
 .rw[ak t];let p:∀c:Int,((cF s k:JD):Int)<=c->c<Zt->((λc=>decide<|gx s x k c=2) c=I↔((cF s k:JD):Int)<=c):=by
   intro c l _;simp;show(λK=>l,λK=>(adp n q).2 ?_);let(e,he,g):=lT.1 t;let B:=kR.1 he;let C:=cC.1 B.1;rw[r e C]at g;cases d:aF Js J5 QC with
   |none=>rw[d]at g;cases g
   |some a=>
    rw[d]at g;let g:C6 (dZ Wo) (cK (0-a.1) Qe)=I:=g;rw[Is.atMost i (mC _)<|d8 i]at g;show(e,C,by simpa using B.2,a,d,.inl Ja)
  rw[CF w p,aj Ja];lia
 rw[aj t];let N:∀j,j<Jb->(aI s j).node=k->∀a,aF Js Q7 QC=Y a->¬(Wo*(aM s:JH)<= -a.1):=by
  intro j f o a d h;apply t;show lT.2 (j,kR.2 (cC.2 f,by exists o),?_);rw[r j f,d];change C6 (dZ Wo) (cK (0-a.1) Qe)=I
  rw[Is.atMost i (mC _)<|d8 i];show cn Ja
 let u:∀v:Nat,v∈((zZ s k).filterMap λe=>match t7 (gI QK J5 QC) with
   |none=>O
   |some b=>Y<|max Y8 (Df<|lZ (dZ<|((aI s e).11:Int)+1)<|oV (aS s k).hi<|kT (dZ Wo) b.v).6)↔∃j,j<Jb/\(aI s j).node=k/\(aI s j).10=(aS s k).10/\∃a,aF Js Q7 QC=Y a/\v=max Y8 (Df<|lZ (dZ<|((aI s j).11:Int)+1)<|oV (aS s k).hi<|kT (dZ Wo)<|nS<|cK a.1 Qe).6:=by
  intro v;rw[xE];constructor
  .intro(j,f,e);let D:=kR.1 f;let E:=cC.1 D.1;let y:=D.2;simp at y;show(j,E,y.1,y.2,?_);rw[r j E]at e;cases d:aF Js Q7 QC with
   |none=>rw[d]at e;cases e
   |some a=>
    rw[d]at e;show(a,J,?_);let e:=bt e;rw[<-e];let:nS (cK a.1 Qe)=cK (0-a.1) Qe:=by rw[j6 i (d8 i).neg,rQ]
    rw[this]
  intro(j,f,l,g,a,d,e);show(j,kR.2 (cC.2 f,by simp[l,g]),?_);rw[r j f,d,e];let:nS (cK a.1 Qe)=cK (0-a.1) Qe:=by rw[j6 i (d8 i).neg,rQ]
  rw[this];rfl
 generalize S:((zZ s k).filterMap λe=>match t7 (gI QK J5 QC) with
   |none=>O
   |some b=>Y<|max Y8 (Df<|lZ (dZ<|((aI s e).11:Int)+1)<|oV (aS s k).hi<|kT (dZ (x.life:JH)) b.v).6)=lst at u
 let F:∀c:Int,((cF s k:JD):Int)<=c->(gx s x k c=2↔∃v∈lst,((v:JD):Int)<=c):=by
  intro c l;rw[adp n q];constructor
  .rintro⟨j,f,o,a,d,h|⟨he,h⟩⟩
   .show absurd h<|N j f o a d
   let T:=(adq n q).1 h;show(_,(u _).2 (j,f,o,he,a,d,J),Ja)
  intro(v,z,h);let(j,f,o,he,a,d,e):=(u v).1 z;show(j,f,o,a,d,.inr (he,(adq n q).2 ?_));lia
 cases A:lst=[]
 .rw[A];show [0]=_
  let p:∀c:Int,((cF s k:JD):Int)<=c->c<Zt->((λc=>decide<|gx s x k c=2) c=I↔(1000000000001:Int)<=c):=by
   intro c l g;erw[oN];rw[F c l,A];simp;lia
  rw[CF w p,ak Ja]
 let(m,P,H,Q):=aqH A;let X:cF s k<=m:=by
  let(j,_,_,_,a,_,e):=(u m).1 H;lia
 let p:∀c:Int,((cF s k:JD):Int)<=c->c<Zt->((λc=>decide (gx s x k c=2)) c=I↔((m:JD):Int)<=c):=by
  intro c l g;erw[oN];rw[F c l];constructor
  .intro(v,z,h);let:=Q v z;lia
  intro h;show(m,H,h)
 rw[CF w p,P];change (match (Y m).filter λc=>decide (c<=xR) with
  |none=>[0]
  |some c=>[1,(c:JH)])=_
 cases L:m<=Jk
 .rw[CW,ak (show decide (m<=xR)=I from cn L),aj Ja];change [1,((m:JD):Int)]=_
  congr 2;lia
 rw[CW,aj (show ¬decide (m<=xR)=I from λh=>L WI),ak Ja]
def aqL(a:J6){i:JD}(b:Qk[i]?=Y x)(d:Wy):cT s (cq s<|.over i k)=(s,(qV s x k)):=by
 let g:=a.oy;let j:=a.n6;let hi:=(cU.1 b).1;let(e,_):=a.pc x<|bM b;let f:cq s (.over i k)=((cZ i 0 9).bind λp=>(cZ k 0 5).bind λi=>(kQ s p).bind λp=>(oT s i).bind λi=>(tZ s<|oW s).bind λm=>match Hl s m p i with
   |none=>.ok (s,([0]))
   |some c=>.ok (s,([1,(c:JH)]))):=J
 rw[f,ck Ja Ja,ck Ja Ja];erw[dQ,ed,Cy b,Cw d];rw[Cm,xo a];delta qV;cases h:bN Js=I
 .rw[ak h,ak h];rfl
 rw[aj h,aj h,<-aqK a d e];change cT s (match Hl s QK x k with
  |none=>.ok (s,([0]))
  |some c=>.ok (s,([1,c])))=_
 cases Hl s QK x k<;>rfl
def aqM(g:J6)(i:Wy)(h:(iI s (aM s:JD) Js src k c Jb).1=Y a):a.2=I:=by
 rw[zA]at h;let h:tl ((aQ Jb).map<|xq s (aM s:JD) Js src k c)=Y a:=h;rcases Gz with e|e
 .rw[e]at h;cases h
 let(j,_,d):=eJ.1 e;ext;delta xq at d;split at d
 .delta fq at d;cases f:aF Js Yj Q7 with
  |none=>rw[f]at d;cases d
  |some b=>
   rw[f]at d;let:=bt d;rw[<-this];simp
 cases d
def aqN(f:J6)(g:Wy)(u:WY<Jb)(i:bN Js=au)(m:cF s k<=c):gx s x k c=0↔∃j,j<Jb/\(aI s j).node=k/\(aI s j).10=(aS s k).10/\∃a,aF Js QC Q7=Y a/\∃b,fq (aM s:JD) Qr (c-((aI s j).11:Int))=Y b/\a.1+b.1<=Wo*(aM s:JH):=by
 let E:=CD f g m;let n:=(Oa E.oJ (E.calm i) Ja).trans<|GJ E.oJ E.vo (E.calm i) (v:=QC) (k:=QL) Ja Ja Ja;rw[adk f g m i u,adl f g m i u]at n;let op:=λa=>aqM f g (src:=WY) (c:=c) (a:=a)
 let w:(∃a,(iI s (aM s:JD) Js WY k c Jb).1=Y a/\a.1<=Wo*(aM s:JH))↔∃j,j<Jb/\(aI s j).node=k/\(aI s j).10=(aS s k).10/\∃a,aF Js QC Q7=Y a/\∃b,fq (aM s:JD) Qr (c-((aI s j).11:Int))=Y b/\a.1+b.1<=Wo*(aM s:JH):=by
  rw[zA,Oi];constructor
  .intro(j,d,a,e,h);let d:=cC.1 d;delta xq at e;split at e
   .rename_i l;cases r:aF Js QC Q7 with
    |none=>rw[r]at e;cases e
    |some p=>
     rw[r]at e;show(j,d,l.1,l.2,p,r,_,J,?_);let:=bt e;rwa [<-this]at h
   cases e
  intro(j,d,l,t,a,e,b,y,h);show(j,cC.2 d,(a.1+b.1,(a.2||b.2)),?_,h);delta xq;ext;rfl
 rw[<-w];delta gx pU lH;simp only;generalize z:(iI s (aM s:JD) Js WY k c Jb).1=up at*
 generalize A:(iI s (aM s:JD) Js WY k c Jb).2=bk at*
 generalize Wo*(aM s:JH)=L at*
 constructor
 .intro h;split at h
  .cases h
  split at h
  .rename_i t;rcases up with _|⟨a,o⟩
   .cases t
   show(_,J,?_);simp[cA]at t;lia
  cases h
 intro(a,rfl,B);let C:=op a J;let l:¬((iF bk).any λp=>decide<|L<=p.1)=I:=by
  intro h;rcases bk with _|⟨b,o⟩
  .cases h
  let D:L<=0-b:=by simpa [iF] using h
  rw[tJ]at n;rcases a with⟨a,q⟩
  simp[bh,cA,bp]at n;lia
 ext;rcases a with⟨a,q⟩
 simp[cA];lia
def adt(f:J6)(g:Wy){x:js}{a:Int×Bool}:(∃b,fq (aM s:JD) Qr (c-r)=Y b/\a.1+b.1<=Wo*(aM s:JH))↔c<=zY (lZ (oV (aS s k).lo<|kT (dZ Wo)<|cK a.1 Qe)<|dZ<|r-1):=by
 let(A,B,p,q,t,m,u):=Oc f g;let(r1,_):=f.rt _<|oB g;let d:=(fV f).1;let i:=iN r1.2.2.1 d;rw[adn i<|Is.add i (Is.mul r1.2.2.1 d (Is.self r1.2.2.1 r1.2.2.2.2)<|Is.sub d (mC Wo)<|d8 d)<|mC<|r-1,m];let j:=r1.1;haveI n:(aS s k).lo.num*((c-r+1)*A)=(c-r+1)*(((aS s k).lo.den*aM s:Nat):Int):=by
  grind
 haveI o:c*(((aS s k).lo.den*aM s:Nat):Int)=(c-r+1)*(((aS s k).lo.den*aM s:Nat):Int)+(r-1)*(((aS s k).lo.den*aM s:Nat):Int):=by grind
 rw[o,<-n];constructor
 .intro(b,e,h);rw[<- (bt e)]at h;haveI l:(c-r+1)*A<=Wo*(aM s:JH)-a.1:=by lia
  show Int.add_le_add_right (asf l<|ja j) _
 intro h;show(_,J,?_);let l:=asx (Int.le_of_add_le_add_right h) j;lia
def aqO(i:J6)(l:Wy)(C:WY<Jb)(D:bN Js=au):(match Hm s QK x k with
  |none=>[0]
  |some c=>[1,c])=if my (λc=>decide Yt) Y8=(cF s k:JD) then [0] else [1,my (λc=>decide Yt) Y8-1]:=by
 let y:=ads i (k:=k);delta Hm;simp only;let o:∀v:Int,v∈((zZ s k).filterMap λe=>(gI QK QC J5).map λb=>zY<|lZ (oV (aS s k).lo<|kT (dZ Wo) b.v)<|dZ<|((aI s e).11:Int)-1)↔∃j,j<Jb/\(aI s j).node=k/\(aI s j).10=(aS s k).10/\∃a,aF Js QC Q7=Y a/\v=zY (lZ (oV (aS s k).lo<|kT (dZ Wo)<|cK a.1 Qe)<|dZ<|((aI s j).11:Int)-1):=by
  intro v;rw[xE];constructor
  .intro(j,f,e);let z:=kR.1 f;let E:=cC.1 z.1;let p:=z.2;simp at p;show(j,E,p.1,p.2,?_);rw[mD i (-1) _ _ Ja Ja]at e;cases d:aF Js QC Q7 with
   |none=>rw[d]at e;cases e
   |some a=>
    rw[d]at e;show(a,J,(bt e).3)
  intro(j,f,g,q,a,d,e);show(j,kR.2 (cC.2 f,by simp[g,q]),?_);rw[mD i (-1) _ _ Ja Ja,d,e];rfl
 generalize P:((zZ s k).filterMap λe=>(gI QK QC J5).map λb=>zY<|lZ (oV (aS s k).lo<|kT (dZ Wo) b.v)<|dZ<|((aI s e).11:Int)-1)=lst at o;let A:∀c:Int,((cF s k:JD):Int)<=c->(gx s x k c=0↔∃v∈lst,c<=v):=by
  intro c g;obtain⟨n,rfl⟩:∃n:Nat,c=n:=(c.6,Ja);rw[aqN i l C D Ja];constructor
  .intro(j,f,r,he,a,d,h);show(_,(o _).2 (j,f,r,he,a,d,J),(adt i l).1 h)
  intro(v,t,h);let(j,f,r,he,a,d,e):=(o v).1 t;rw[e]at h;show(j,f,r,he,a,d,(adt i l).2 h)
 cases u:lst=[]
 .rw[u];show [0]=_
  let w:∀c:Int,((cF s k:JD):Int)<=c->c<Zt->((λc=>decide Yt) c=I↔((cF s k:JD):Int)<=c):=by
   intro c g q;erw[oN];show(λK=>g,λK h=>?_);rw[A c g,u]at h;simp at h
  rw[CF y w,ak Ja]
 let(m,F,H,L):=aqJ u;let w:∀c:Int,((cF s k:JD):Int)<=c->c<Zt->((λc=>decide Yt) c=I↔m+1<=c):=by
  intro c g q;erw[oN];rw[Ne,A c g];constructor
  .intro h;apply OT;show λN=>h (m,H,Ja)
  intro h (v,t,N);let:=L v t;lia
 rw[CF y w,F];change (match if m<((cF s k:JD):Int) then O else Y (min m.6 xR) with
  |none=>[0]
  |some c=>[1,(c:JH)])=_
 cases B:m<((cF s k:JD):Int)
 .rw[ak B,ak Ja]
 rw[aj B,aj Ja];change [1,((min m.6 1000000000000:Nat):Int)]=_
 congr 2;lia
def aqP(a:J6){i:JD}(b:Qk[i]?=Y x)(d:Wy):cT s (cq s<|.living i k)=(s,(qW s x k)):=by
 let j:=a.oy;let l:=a.n6;let hi:=(cU.1 b).1;let(e,_):=a.pc x<|bM b;let f:cq s (.living i k)=((cZ i 0 9).bind λp=>(cZ k 0 5).bind λi=>(kQ s p).bind λp=>(oT s i).bind λi=>(tZ s<|oW s).bind λm=>match Hm s m p i with
   |none=>.ok (s,([0]))
   |some c=>.ok (s,([1,(c:JH)]))):=J
 rw[f,ck Ja Ja,ck Ja Ja];erw[dQ,ed,Cy b,Cw d];rw[Cm,xo a];delta qW;cases h:bN Js=I
 .rw[ak h,ak h];rfl
 haveI g:bN Js=au:=by exists h
 rw[aj h,aj h,<-aqO a d e g];change cT s (match Hm s QK x k with
  |none=>.ok (s,([0]))
  |some c=>.ok (s,([1,c])))=_
 cases Hm s QK x k<;>rfl
end
def wp:Nat->List bU->List vQ|b,[]=>[]|p,w::a=>(p,(w))::wp (p+w.9+1) a
def zB m b:∃q qs,cB m b=q::qs:=by
 induction b with
 |nil=>show([],[],J)
 |cons c r a=>
  let(q,qs,e):=a;delta cB;split
  .show(_,_,J)
  rw[e];show(_,_,J)
theorem Ol:∀l p,10∉l->qd p l=wp p (cB 32 l)
 |[],p,d=>rfl
 |c::l,p,h=>by
  let b:=Ol l (p+1) λe=>h<|df _ e;delta qd cB;cases a:c=32
  .rw[ak a,ak a,b];rfl
  rw[aj a,aj λe=>h<|by simp[e],aj a,b];let(q,qs,e):=zB 32 l;rw[e];change (p,(c::q))::wp (p+1+q.9+1) qs=(p,(c::q))::wp (p+(q.9+1)+1) qs
  lia
theorem Om:∀l p (r:bU),10∉l->qd p (l++10::r)=wp p (cB 32 l)++(p+l.9,([10]))::qd (p+l.9+1) r
 |[],p,r,d=>by rfl
 |c::l,p,r,h=>by
  let b:=Om l (p+1) r λe=>h<|df _ e;change qd p (c::(l++10::r))=_
  rw[show p+(c::l).9=p+1+l.9 by simp;lia];conv=>lhs;unfold qd
  delta cB;cases a:c=32
  .rw[ak a,ak a,b];rfl
  rw[aj a,aj λe=>h<|by simp[e],aj a,b];let(q,qs,e):=zB 32 l;rw[e];change (p,(c::q))::(wp (p+1+q.9+1) qs++_)=(p,(c::q))::(wp (p+(q.9+1)+1) qs++_)
  rw[show p+1+q.9+1=p+(q.9+1)+1 by lia]
def adu b:(10∉b/\cB 10 b=[b])\/∃l r,10∉l/\b=l++10::r/\cB 10 b=l::cB 10 r:=by
 induction b with
 |nil=>show .inl (by simp,J)
 |cons c b g=>
  let e:cB 10 (c::b)=if c=10 then []::cB 10 b else match cB 10 b with
   |[]=>[[c]]
   |p::ps=>(c::p)::ps:=J
  rw[e];cases a:c=10
  .subst a;show .inr ([],b,Jc,J,J)
  rw[aj a];rcases g with⟨d,f⟩|⟨l,r,d,f,h⟩
  .rw[f];show .inl (by simp[d,mY a],J)
  rw[h];show .inr (c::l,r,by simp[d,mY a],by rw[f];rfl,J)
def aqQ m b:kM [m] (cB m b)=b:=by
 induction b with
 |nil=>rfl
 |cons c b a=>
  delta cB;let(q,qs,e):=zB m b;cases d:c=m
  .rw[ak d,e];rw[e]at a;change []++[m]++kM [m] (q::qs)=_
   ext
  rw[aj d,e];ext;cases qs with
  |nil=>change c::q=c::b;rw[<-a];rfl
  |cons f qs=>
   rw[<-a];rfl
def adv(h:di w=Y n):w≠[]/\(w.all oP)=I/\vD w=au/\n=j_ 10 (w.map λc=>c-48):=by delta di at h;ext
def adw a d:j_ 10 (a++[d])=j_ 10 a*10+d:=by delta j_;ext
def adx:∀k a,a.9=k->a≠[]->a.head?≠Y 0->10^(a.9-1)<=j_ 10 a:=by
 intro k;induction k with
 |zero=>intro a h b _;show absurd (nI.1 h) b
 |succ k f=>
  intro a h b d;obtain⟨l,x,rfl⟩:∃l x,a=l++[x]:=(a.dropLast,a.getLast b,(G5 _).3);rw[adw];cases c:l=[]
  .subst c;haveI:x≠0:=λe=>d (by rw[e];rfl)
   change 10^0<=0*10+x
   lia
  haveI g:l.head?≠Y 0:=by
   intro e;apply d;cases l<;>ext
  let:=f l (by ext) c g;rw[cE];change 10^(l.9+1-1)<=_
  let i:=Ha.2 c;rw[show l.9+1-1=(l.9-1)+1 by lia,P2];lia
def aqR:∀k a,a.9=k->(∀d∈a,d<10)->a.head?≠Y 0->∀f,a.9<=f->rF 10 f (j_ 10 a)=a.reverse:=by
 intro k;induction k with
 |zero=>
  intro a h _ _ f _;ext;cases f<;>rfl
 |succ k j=>
  intro a h hd c f b;let g:a≠[]:=by grind
  let n:=adx _ a J g c;obtain⟨l,x,rfl⟩:∃l x,a=l++[x]:=(a.dropLast,a.getLast g,(G5 _).3);let o:=hd x Jc;cases f with
  |zero=>rw[cE]at b;simp at b
  |succ f=>
   delta rF;let:0<10^((l++[x]).9-1):=ave Jc;rw[aj Ja,adw,show (j_ 10 l*10+x) % 10=x by lia,show (j_ 10 l*10+x) / 10=j_ 10 l by lia,atc];congr 1;cases i:l=[]
   .subst i;cases f<;>rfl
   show j l (by rw[cE]at h;exists h) (λd m=>hd d<|nL _ m) ?_ f (by rw[cE]at b;simp at b;lia);intro e;apply c;cases l with|nil=>show absurd J i|cons y l=>show e
def GN(h:di w=Y n):oO n=w:=by
 let(b,g,i,rfl):=adv h;let f:∀c∈w,48<=c/\c<=57:=λc a=>by
  let:=mL.1 g c a;delta oP at this;exists this
 let l:(w.map λc=>c-48).map (λd=>d+48)=w:=by
  ext;conv=>rhs;rw[<-HE w]
  show mK λc a=>?_
  let:=f c a;change c-48+48=c
  lia
 delta oO;cases j:w.head?=Y 48
 .let m:w=[48]:=by
   delta vD at i;cases w with
   |nil=>show absurd J b
   |cons c r=>
    let:c=48:=by exists j
    subst this;cases r with|nil=>rfl|cons d r=>simp at i
  rw[m];rfl
 let k:(w.map λc=>c-48).head?≠Y 0:=by
  cases w with
  |nil=>show absurd J b
  |cons c r=>
   intro e;let e:c-48=0:=by exists e
   let:=f c dM;apply j;change Y c=Y 48
   ext
 let o:(w.map λc=>c-48)≠[]:=by exists b
 let q:=adx _ _ J o k;let s:0<10^((w.map λc=>c-48).9-1):=ave Je;rw[aj Ja];delta OZ;rw[aqR _ _ J (λd hd=>by
  let(c,a,rfl):=eJ.1 hd;let:=f c a;lia) k,List.reverse_reverse,l]
 delta xD;generalize j_ 10 (w.map λc=>c-48)=v at*
 generalize (w.map λc=>c-48).9=L at*
 let b:v<2^(Am v+1):=auh;let g:2^(L-1)<=10^(L-1):=atp Je _;let p:2^(L-1) <2^(Am v+1):=Ja
 let:=(Nat.pow_lt_pow_iff_right Je).1 p;lia
def ady(a:c∈w)(b:oP c=au):di w=O:=by
 cases h:di w with
 |none=>rfl
 |some n=>
  let(_,d,_):=adv h;ext
theorem Oo:∀{w},p8 c w=O->c∉w
 |[],a=>by simp
 |d::w,h=>by
  delta p8 at h;split at h
  .cases h
  rename_i hd;let:=Oo<|aeC.1 h;simp[this,mY hd]
theorem zC:∀{w a b},p8 c w=Y (a,(b))->w=a++c::b/\c∉a
 |[],a,b,h=>by cases h
 |d::w,a,b,h=>by
  delta p8 at h;split at h
  .ext
  rename_i hd;let(x,f,e):=tS.1 h;let(g,i):=zC f;grind
theorem Oq:∀{w},m∉w->cB m w=[w]
 |[],a=>rfl
 |d::w,h=>by
  delta cB;rw[aj λe=>h<|by simp[e],Oq λe=>h<|df _ e]
def Ot m c(b:bU):cB m (c::b)=if c=m then []::cB m b else match cB m b with
   |[]=>[[c]]
   |p::ps=>(c::p)::ps:=J
theorem Ou:∀{a b:bU},m∉a->cB m (a++m::b)=a::cB m b
 |[],b,c=>by change cB m (m::b)=_;rw[Ot,ak J]
 |d::a,b,h=>by
  change cB m (d::(a++m::b))=_
  rw[Ot,aj λe=>h<|by simp[e],Ou λe=>h<|df _ e]
def kI(w:bU):Option (Nat×Nat):=match p8 47 w with
 |none=>(di w).map λn=>(n,(1))
 |some (a,b)=>match di a,di b with
  |some n,Y d=>if 2<=d/\dN n d=1 then Y (n,(d)) else O
  |c,e=>O
def zD w:ku w=kI w:=by
 delta ku kI;cases h:p8 47 w with
 |none=>rw[Oq<|Oo h]
 |some x=>
  let(a,b):=x;let(j,k):=zC h;rw[j,Ou k];cases f:47∈b
  .haveI l:di b=O:=ady f (by rfl);obtain⟨c,g,m,o⟩:∃c g,b=c++47::g/\47∉c:=by
    cases i:p8 47 b with|none=>show absurd f<|Oo i|some y=>let(e,n):=zC i;show(_,_,e,n)
   let(q,qs,p):=zB 47 g;haveI:cB 47 b=c::q::qs:=by rw[m,Ou o,p]
   rw[this];change O=match di a,di b with
    |some n,Y d=>if 2<=d/\dN n d=1 then Y (n,(d)) else O
    |r,s=>O
   rw[l];cases di a<;>rfl
  rw[Oq f];change (match di a,di b with
   |some n,Y d=>if dN n d=1/\2<=d then Y (n,(d)) else O
   |r,s=>O)=match di a,di b with
   |some n,Y d=>if 2<=d/\dN n d=1 then Y (n,(d)) else O
   |r,s=>O
  cases di a with
  |none=>cases di b<;>rfl
  |some n=>
   cases di b with|none=>rfl|some d=>erw[And.comm]
def adz(h:w.head?≠Y 45):ati w=(di w).map λ(n:Nat)=>(n:JH):=by
 delta ati;split
 .show absurd J h
 rfl
def adA(h:w.head?≠Y 45):xH w=(kI w).map λx=>ZV:=by
 delta xH kI;cases c:p8 47 w with
 |none=>
  simp only;rw[adz h];cases di w<;>rfl
 |some x=>
  let(a,b):=x;let(d,e):=zC c;simp only;rw[adz<|by grind];cases di a with
  |none=>rfl
  |some n=>
   cases di b<;>ext
def adB(r:bU):xH (45::r)=(kI r).bind λx=>if x.1=0 then O else Y (-x.1,x.2):=by
 delta xH kI;haveI e:p8 47 (45::r)=(p8 47 r).map λx=>(45::x.1,(x.2)):=by rfl
 rw[e];cases p8 47 r with
 |none=>
  change ((di r).bind λn=>if n=0 then O else Y (-(n:JH))).map dZ=_
  cases di r with
  |none=>rfl
  |some n=>
   simp;cases c:n=0
   .ext
   rw[aj c,aj c];rfl
 |some x=>
  let(a,b):=x;simp;change (match (di a).bind λn=>if n=0 then O else Y (-(n:JH)),di b with
   |some n,Y d=>if 2<=d/\dN n.5 d=1 then Y (xY.mk n d) else O
   |g,h=>O)=_
  cases di a with
  |none=>rfl
  |some n=>
   cases di b with
   |none=>ext
   |some d=>
    simp;cases c:n=0
    .rw[ak c];cases f:2<=d/\dN n d=1
     .rw[ak f];simp[c]
     rw[aj f];rfl
    rw[aj c];simp;cases f:2<=d/\dN n d=1
    .ext
    rw[aj f,aj f];rfl
set_option tactic.hygienic true in
def aqS b:xH b=(jh b).map λx=>ZV:=by
 delta jh;split
 .rw[adB,zD];rename_i r;cases kI r with
  |none=>rfl
  |some x=>
   simp;split<;>rfl
 rename_i a;rw[adA,zD]
 .cases kI b<;>rfl
 intro e;cases b<;>ext
def Ov(h:kI w=Y x):0<x.2/\dN x.1 x.2=1:=by
 delta kI at h;split at h
 .let(n,_,rfl):=tS.1 h;ext
 split at h
 .lia
 cases h
def aqT(h:jh b=Y x):0<x.2/\dN x.1.5 x.2=1:=by
 delta jh at h;split at h
 .rw[zD]at h;let(y,a,h):=Option.bind_eq_some_iff.1 h;split at h
  .cases h
  cases h;let:=Ov a;exists this
 rw[zD]at h;let(y,a,rfl):=tS.1 h;let:=Ov a;assumption
set_option tactic.hygienic true in
def aqU(h:kI w=Y x):nM ZV=w:=by
 delta kI at h;haveI e:∀n:Nat,tW n=oO n:=λn=>by rfl
 split at h
 .let(n,c,rfl):=tS.1 h;change tW n=w
  rw[e,GN c]
 rename_i a b f;split at h
 .rename_i n d c hd;split at h
  .rename_i g;cases h;delta nM;rw[aj Ja,e,GN c,GN hd];show (zC f).1.3
  cases h
 cases h
def mH(n:JD):List (bU->Option dJ)->Nat->List bU->Except Nat (List dJ×Nat×List bU)
 |[],pl,a=>.ok ([],pl,(a))
 |b::c,g,[]=>.error n
 |f::fs,pl,w::a=>match f w with
  |none=>.error pl
  |some d=>match mH n fs YL a with
   |.error e=>.error e
   |.ok (ps,r)=>.ok (d::ps,(r))
theorem adC(n k:JD):∀(fs:List (bU->Option dJ)) (a:List dJ) (pl:JD) (b:List bU),(d6.getD k []).drop a.9=fs->pK n (Y k) a pl b=match mH n fs pl b with
  |.error e=>.error e
  |.ok (ps,g,[])=>.ok (k,(a++ps))
  |.ok (r,g,s::t)=>.error g
 |[],a,pl,b,c=>by
  let m:(d6.getD k []).9<=a.9:=List.drop_eq_nil_iff.1 c;cases b with
  |nil=>
   change (if a.9<(d6.getD k []).9 then .error n else .ok (k,(a)))=qh (k,(a++[]))
   rw[aj JE,iu]
  |cons w b=>
   change (match jD (Y k) a w with
    |none=>.error pl
    |some x=>pK n (Y x.1) x.2 YL b)=iM pl
   let:jD (Y k) a w=O:=by
    delta jD;simp only;rw[CT m]
   rw[this]
 |f::fs,a,pl,b,c=>by
  let m:a.9<(d6.getD k []).9:=by
   apply OT;intro h;rw[List.drop_eq_nil_of_le JE]at c;cases c
  let o:WK[a.9]?=Y f:=by
   let:=O9 (xs:=WK) (i:=a.9) (j:=0);rw[c]at this;exists this.3
  cases b with
  |nil=>
   change (if a.9<(d6.getD k []).9 then .error n else .ok (k,(a)))=iM n
   rw[ak m]
  |cons w b=>
   change (match jD (Y k) a w with
    |none=>iM pl
    |some x=>pK n (Y x.1) x.2 YL b)=_
   let p:jD (Y k) a w=(f w).map λd=>(k,(a++[d])):=by
    delta jD;simp only;rw[o]
   rw[p];delta mH;cases q:f w with
   |none=>rfl
   |some d=>
    erw[zW];rw[adC n k fs (a++[d]) YL b (by
     rw[cE];change (d6.getD k []).drop (a.9+1)=fs
     rw[<-PB,c];rfl)]
    cases mH n fs YL b with
    |error e=>rfl
    |ok x=>
     let(ps,g,l):=x;cases l with|nil=>simp|cons y l=>rfl
def one{a:Type}(f:bU->Option a)(e:JD):List vQ->Except Nat (a×List vQ)
 |[]=>.error e
 |w::r=>match f w.2 with
  |some x=>.ok (x,(r))
  |none=>.error w.1
def q_(e:JD):List (bU->Option dJ)->List vQ->Except Nat (List dJ×List vQ)
 |[],a=>.ok ([],(a))
 |f::fs,a=>match one f e a with
  |.error p=>.error p
  |.ok (d,r)=>match q_ e fs r with
   |.error p=>.error p
   |.ok (ps,r)=>.ok (d::ps,(r))
def adD(e p:JD)(rest:List vQ):Prop:=(rest=[]/\e=p)\/∃r,rest=(p,([10]))::r
theorem adE(he:adD e (stq+n) rest):∀(fs:List (bU->Option dJ)) (pl:JD) (a:List bU),(∀f∈fs,f [10]=O)->q_ e fs (wp (stq+pl) a++rest)=match mH n fs pl a with
  |.error f=>.error<|stq+f
  |.ok (ps,c,l)=>.ok (ps,(wp (stq+c) l++rest))
 |[],pl,a,k=>rfl
 |f::fs,pl,[],b=>by
  change (match one f e rest with
   |.error p=>.error p
   |.ok (d,r)=>_)=iM (stq+n)
  rcases he with⟨rfl,rfl⟩|⟨r,rfl⟩
  .rfl
  let:one f e ((stq+n,([10]))::r)=.error (stq+n):=by
   delta one;simp only;rw[b f dM]
  rw[this]
 |f::fs,pl,w::a,b=>by
  let h:=adE he fs YL a λg i=>b g<|df _ i
  change (match one f e ((stq+pl,(w))::(wp (stq+pl+w.9+1) a++rest)) with
   |.error p=>iM p
   |.ok (d,r)=>match q_ e fs r with
    |.error p=>iM p
    |.ok (ps,r)=>qh (d::ps,(r)))=_
  delta mH;let j:one f e ((stq+pl,(w))::(wp (stq+pl+w.9+1) a++rest))=match f w with
   |some x=>.ok (x,(wp (stq+pl+w.9+1) a++rest))
   |none=>.error (stq+pl):=by
   delta one;simp only;cases f w<;>rfl
  rw[j];cases f w with
  |none=>rfl
  |some d=>
   simp only;rw[show stq+pl+w.9+1=stq+YL by omega,h];cases mH n fs YL a with|error e=>rfl|ok x=>rfl
def rk(b:bU):Option bU:=if vF b=I then Y b else O
def GO(b:bU):Option xY:=(xH b).bind λx=>if 0<Yw/\Yw<=(PY:JH)/\Yh<=PY then Y x else O
def aqV(e:JD):∀a,atu e a=one rk e a
 |[]=>rfl
 |w::r=>by
  delta atu one rk;simp only;split<;>rfl
def aqW(e:JD):∀a,afh e a=one GO e a
 |[]=>rfl
 |w::r=>by
  delta afh one GO;simp only;cases xH w.2 with
  |none=>rfl
  |some x=>
   erw[Pd];split<;>rfl
def adF(e a hi:JD):∀b,atg e a hi b=one (gh a hi) e b
 |[]=>rfl
 |w::r=>by
  delta atg one gh;simp only;cases di w.2 with
  |none=>rfl
  |some n=>
   erw[CW];cases h:a<=n/\n<=hi
   .rw[ak h,ak<|cn h]
   rw[aj h,aj<|by exists h]
def aqX(e:JD):∀a,atf e a=one ou e a
 |[]=>rfl
 |w::r=>by
  delta atf;simp only;rw[adF];delta one ou;simp only;cases h:w.2=[45]
  .rw[ak h,ak h]
  rw[aj h,aj h,show xR=1000000000000 from J];cases gh 0 Jk w.2<;>rfl
def aqY(b:bU):GO b=(nj b).map λx=>((x.1:Int),x.2):=by
 delta GO nj;rw[zD];cases h:b.head?=Y 45
 .obtain⟨r,rfl⟩:∃r,b=45::r:=by
   cases b with
   |nil=>cases h
   |cons c r=>
    haveI:c=45:=by exists h
    show(r,by rw[this])
  haveI k:kI (45::r)=O:=by
   delta kI;let i:∀l:bU,di (45::l)=O:=λl=>ady (c:=45) dM Je
   cases m:p8 47 (45::r) with
   |none=>simp only;rw[i];rfl
   |some x=>
    let(a,c):=x;let(f,_):=zC m;cases a with
    |nil=>cases f
    |cons d a=>
     haveI hd:d=45:=by
      let:=(De f).1;show this.3
     subst hd;simp only;rw[i]
  rw[k,adB];change _=O
  cases kI r with
  |none=>rfl
  |some x=>
   erw[Pd];cases j:x.1=0
   .rw[ak j];rfl
   rw[aj j];erw[Pd];rw[aj];intro(f,_);let f:0< -(x.1:Int):=f;omega
 rw[adA h];cases kI b with
 |none=>rfl
 |some x=>
  erw[zW,Pd,CW];haveI e:(0<(x.1:Int)/\(x.1:Int)<=(PY:JH)/\x.2<=PY)↔(0<x.1/\x.1<=Zd/\x.2<=Zd):=by
   change (0<(x.1:Int)/\(x.1:Int)<=((1000000:Nat):Int)/\x.2<=Zd)↔_
   omega
  cases g:0<x.1/\x.1<=Zd/\x.2<=Zd
  .rw[ak<|e.2 g,ak<|cn g];rfl
  rw[aj λz=>g<|e.1 z,aj<|by exists g];rfl
def GP:Nat->List dJ->Option kj|0,[.nm n,.rt a b,.rt c d]=>Y<|.node n (a,b) (c,d)|1,[.nm n,.i c]=>Y<|.at_ n c.6|2,[.nm n]=>Y<|.cut n|3,[.i a,.i b,.i c,.i d]=>Y<|.word a.6 b.6 c.6<|if d<0 then O else Y d.6|4,[.i a,.i c,.i d]=>Y<|.moment a.6 c.6<|if d<0 then O else Y d.6|5,[.nm n,.i a,.i l]=>Y<|.parcel n a.6 l.6|e,f=>O
def GQ(m:Uw):(if mI m<0 then O else Y (mI m).6)=m:=by cases m with|none=>rfl|some n=>change (if (n:JH) <0 then O else Y (n:JH).6)=_;rw[aj JE,ed]
def zE(f:bU->Option c)(g:c->d)(e:JD):∀a,one (λb=>(f b).map g) e a=match one f e a with
  |.error p=>.error p
  |.ok (x,r)=>.ok (g x,(r))
 |[]=>rfl
 |w::r=>by
  delta one;simp only;cases f w.2<;>rfl
def vA:nk=λb=>(rk b).map dJ.nm:=by funext b;delta nk rk;split<;>rfl
def Ow:wG=λb=>(nj b).map λx=>dJ.rt x.1 x.2:=J
def zF:sy=λb=>(gh 0 Jk b).map λ(n:Nat)=>dJ.i (n:JH):=by funext b;delta sy;cases gh _ _ b<;>rfl
def rd4:BG=λb=>(gh 1 Jk b).map λ(n:Nat)=>dJ.i (n:JH):=by funext b;delta BG;cases gh _ _ b<;>rfl
def xr:pH=λb=>(gh 0 19 b).map λ(n:Nat)=>dJ.i (n:JH):=by funext b;delta pH;cases gh _ _ b<;>rfl
def GR:uJ=λb=>(ou b).map λm=>dJ.i (mI m):=J
def aqZ(e:JD)(a:List vQ):afh e a=match one nj e a with
  |.error p=>.error p
  |.ok (x,r)=>.ok (((x.1:Int),x.2),(r)):=by
 rw[aqW];cases a with
 |nil=>rfl
 |cons w r=>
  delta one;simp only;rw[aqY];cases nj w.2<;>rfl
def aq0(a b c:JD)(d:Uw):GP 3 [.i a,.i b,.i c,.i<|mI d]=Y (.word a b c d):=by
 change Y (avj (a:JH).6 (b:JH).6 (c:JH).6<|if mI d<0 then O else Y (mI d).6)=_
 rw[GQ,ed,ed,ed]
def aq1(a c:JD)(d:Uw):GP 4 [.i a,.i c,.i<|mI d]=Y (.moment a c d):=by
 change Y (auZ (a:JH).6 (c:JH).6<|if mI d<0 then O else Y (mI d).6)=_
 rw[GQ,ed,ed]
def aq2(e:JD)(p:JD)(w:bU)(a:List vQ):Dh e ((p,(w))::a)=match kindOf w with
  |none=>.error p
  |some k=>match q_ e WK a with
   |.error q=>.error q
   |.ok (ps,r)=>match GP k ps with
    |some x=>.ok (x,(r))
    |none=>.error 0:=by
 delta Dh;simp only[aqV,aqZ,adF,aqX,show afm-1=19 from J,show xR=1000000000000 from J];delta kindOf pI;erw[wH];cases b:w=lR "node"
 .rw[ak (show w=gq "node" from b),ak b];erw[show d6.getD 0 []=[nk,wG,wG] from J,q_,vA,Ow,zE];cases one rk e a with
  |error q=>rfl
  |ok x=>
   erw[ue,dQ];cases one nj e x.2 with
   |error q=>rfl
   |ok y=>
    simp only;cases one nj e y.2 with|error q=>rfl|ok z=>rfl
 rw[aj (show ¬w=gq "node" from b),aj b];cases c:w=lR "at"
 .rw[ak (show w=gq "at" from c),ak c];erw[show d6.getD (0+1) []=[nk,sy] from J,q_,vA,zF,zE];cases one rk e a with
  |error q=>rfl
  |ok x=>
   erw[ue,dQ];cases one (gh 0 Jk) e x.2 with|error q=>rfl|ok y=>rfl
 rw[aj (show ¬w=gq "at" from c),aj c];cases d:w=lR "cut"
 .rw[ak (show w=gq "cut" from d),ak d];erw[show d6.getD (0+1+1) []=[nk] from J,q_,vA,zE];cases one rk e a with|error q=>rfl|ok x=>rfl
 rw[aj (show ¬w=gq "cut" from d),aj d];cases f:w=lR "word"
 .rw[ak (show w=gq "word" from f),ak f];erw[show d6.getD (0+1+1+1) []=[pH,pH,sy,uJ] from J,q_,zF,xr,GR,zE];cases one (gh 0 19) e a with
  |error q=>rfl
  |ok x=>
   erw[ue,dQ];cases one (gh 0 19) e x.2 with
   |error q=>rfl
   |ok y=>
    simp only;cases one (gh 0 Jk) e y.2 with
    |error q=>rfl
    |ok z=>
     simp only;cases one ou e z.2 with
     |error q=>rfl
     |ok u=>
      show (e8 (λo:Option kj=>match o with|some x=>qh (x,(u.2))|none=>iM 0)<|aq0 x.1 y.1 z.1 u.1).3
 rw[aj (show ¬w=gq "word" from f),aj f];cases g:w=lR "moment"
 .rw[ak (show w=gq "moment" from g),ak g];erw[show d6.getD (0+1+1+1+1) []=[pH,sy,uJ] from J,q_,zF,xr,GR,zE];cases one (gh 0 19) e a with
  |error q=>rfl
  |ok x=>
   erw[ue,dQ];cases one (gh 0 Jk) e x.2 with
   |error q=>rfl
   |ok z=>
    simp only;cases one ou e z.2 with
    |error q=>rfl
    |ok u=>
     show (e8 (λo:Option kj=>match o with|some x=>qh (x,(u.2))|none=>iM 0)<|aq1 x.1 z.1 u.1).3
 rw[aj (show ¬w=gq "moment" from g),aj g];cases h:w=lR "parcel"
 .rw[ak (show w=gq "parcel" from h),ak h];erw[show d6.getD (0+1+1+1+1+1) []=[nk,pH,BG] from J,q_,vA,rd4,xr,zE];cases one rk e a with
  |error q=>rfl
  |ok x=>
   erw[ue,dQ];cases one (gh 0 19) e x.2 with
   |error q=>rfl
   |ok z=>
    simp only;cases one (gh 1 Jk) e z.2 with|error q=>rfl|ok u=>rfl
 rw[aj (show ¬w=gq "parcel" from h),aj h]
def GU(l:bU)(k:JD)(a:List dJ)(x:kj):Prop:=cj x=k/\Fg x=a/\jq x=l/\sJ x/\(jq x).9<=200
def tK(h:gh a hi b=Y n):a<=n/\n<=hi/\kb n=b:=by let(c,d):=asj.1 h;let:=cV d;show(this.1,this.2,GN c)
def adG(h:ou b=Y m):ox m/\C_ m=b:=by
 delta ou at h;cases e:b=[45]
 .rw[ak e]at h;cases h;show((λg h=>by cases h),e.3)
 rw[aj e]at h;let(n,a,rfl):=tS.1 h;let(_,c,d):=tK a;show((λz f=>by cases f;show c),d)
def adH(h:nj b=Y x):fM ZV/\nM ZV=b:=by delta nj at h;rw[zD]at h;let(a,c):=asj.1 h;let(d,e):=Ov a;show((by lia,Ja,d,(cV c).2.2,by assumption),aqU a)
theorem adI b:∀f n,(rF b f n).9<=f
 |0,a=>bf _
 |f+1,n=>by
  delta rF;split
  .ext
  rw[gm];let:=adI b f<|n / b;lia
def p6(h:n<=Jk):(kb n).9<=41:=by
 change (oO n).9<=41
 delta oO;split
 .decide
 delta OZ;ext;let b:=adI 10 (xD n) n;let c:xD n=Am n+2:=J;let:Am n<=39:=by
  cases a:n=0
  .ext
  let:=(avf a (k:=40)).2 Ja;lia
 lia
def adJ(h:ox m):(C_ m).9<=41:=by cases m with|none=>decide|some n=>show p6<|h n J
def adK(h:fM x):(nM x).9<=83:=by
 let(b,c,d,e,_):=h;haveI a:tW Yw=oO x.num.6:=by
  delta tW;rw[aj Ja]
 let f:(oO x.num.6).9<=41:=p6 Ja;let g:(oO Yh).9<=41:=p6 Ja;delta nM;rw[a];split
 .lia
 grind
def GV(h:rk b=Y n):n=b/\b.9<=12:=by
 delta rk at h;split at h
 .rename_i a;cases h;simp;delta vF at a;ext
 cases h
@[elab_as_elim] theorem kJ{n:JD}{m:Type}{g:bU->Option m}{c:m->dJ}{o:bU->Option dJ}{fs:List (bU->Option dJ)}{pl:JD}{f:List bU}{ps:List dJ}{p:JD}{l:List bU}{C:List bU->List dJ->Prop}(e:o=λb=>(g b).map c)(h:mH n (o::fs) pl f=.ok (ps,p,(l)))
  (k:∀u r a qs iE,g u=Y a->mH n fs iE r=.ok (qs,p,(l))->C (u::r) (c a::qs)):C f ps:=by
 subst e
 cases f with
 |nil=>cases h
 |cons u r=>
  delta mH at h
  cases i:g u with
  |none=>erw[i,Ag]at h;cases h
  |some d=>
   erw[i,Ag]at h
   cases j:mH n fs (pl+u.9+1) r with
   |error e=>rw[j]at h;cases h
   |ok x=>
    let(qs,q,s):=x
    rw[j]at h
    cases h
    show k u r d _ _ i j
@[elab_as_elim] theorem zG{n pl:JD}{a:List bU}{ps:List dJ}{b:JD}{l:List bU}{C:List bU->List dJ->Prop}(h:mH n [] pl a=.ok (ps,b,(l)))(k:C l []):C a ps:=by
 cases h
 show k
def aq3{n:JD}{w:bU}{k:JD}(d:kindOf w=Y k):∀{pl:Nat}{A:List bU}{ps:List dJ}{R:JD}{l:List bU},mH n WK pl A=.ok (ps,R,(l))->∃S x,A=S++l/\GP k ps=Y x/\GU (kM [32]<|w::S) k ps x:=by
 intro pl A ps R l h;delta kindOf pI at d;erw[wH]at d;cases B:w=lR "node"
 .rw[ak B]at d;cases d;show kJ vA h λi K a K K e h=>kJ Ow h λr K b K K s h=>kJ Ow h λj K c K K o h=>zG h ?_
  let(rfl,C):=GV e;let(p,t):=adH s;let(f,q):=adH o;show([a,r,j],_,J,J,J,?_,?_,(p,f),?_)
  .change [dJ.nm a,dJ.rt ((b.1:Int)).6 b.2,dJ.rt ((c.1:Int)).6 c.2]=_
   rw[ed,ed]
  .change kM [32] [gq "node",a,nM _,nM _]=_
   rw[t,q,B];rfl
  change (gq "node"++[32]++(a++[32]++(nM _++[32]++nM _))).9<=200
  let D:=adK p;let l2:=adK f;let u:(gq "node").9=4:=Je
  erw[cE,nJ];lia
 rw[aj B]at d;cases E:w=lR "at"
 .rw[ak E]at d;cases d;show kJ vA h λi K a K K e h=>kJ zF h λr K b K K s h=>zG h ?_
  let(rfl,C):=GV e;let(_,p,t):=tK s;show([a,r],.at_ a b,J,by change Y (kj.at_ a ((b:JH)).6)=_;rw[ed],J,J,?_,p,?_)
  .change kM [32] [gq "at",a,kb b]=_
   rw[t,E];rfl
  change (gq "at"++[32]++(a++[32]++kb b)).9<=200
  let D:=p6 p;let u:(gq "at").9=2:=Je
  erw[cE,nJ];lia
 rw[aj E]at d;cases F:w=lR "cut"
 .rw[ak F]at d;cases d;show kJ vA h λi K a K K e h=>zG h ?_
  let(rfl,C):=GV e;show([a],.cut a,J,J,J,J,?_,trivial,?_)
  .change kM [32] [gq "cut",a]=_
   rw[F];rfl
  change (gq "cut"++[32]++a).9<=200
  let u:(gq "cut").9=3:=Je
  erw[cE,nJ];lia
 rw[aj F]at d;cases H:w=lR "word"
 .rw[ak H]at d;cases d;show kJ xr h λi K a K K e h=>kJ xr h λr K b K K s h=>kJ zF h λj K c K K o h=>kJ GR h λv K m K K y h=>zG h ?_
  let(_,L,N):=tK e;let(_,p,t):=tK s;let(_,f,q):=tK o;let(g,z):=adG y;show([i,r,j,v],.word a b c m,J,?_,J,J,?_,(L,p,f,g),?_)
  .change Y (avj ((a:JH)).6 ((b:JH)).6 ((c:JH)).6<|if mI m<0 then O else Y (mI m).6)=_
   rw[GQ,ed,ed,ed]
  .change kM [32] [gq "word",kb a,kb b,kb c,C_ m]=_
   rw[N,t,q,z,H];rfl
  change (gq "word"++[32]++(kb a++[32]++(kb b++[32]++(kb c++[32]++C_ m)))).9<=200
  let D:=p6 (n:=a) Ja;let l2:=p6 (n:=b) Ja;let T:=p6 f;let X:=adJ g;let u:(gq "word").9=4:=Je
  erw[cE,nJ];lia
 rw[aj H]at d;cases P:w=lR "moment"
 .rw[ak P]at d;cases d;show kJ xr h λi K a K K e h=>kJ zF h λj K c K K o h=>kJ GR h λv K m K K y h=>zG h ?_
  let(_,L,N):=tK e;let(_,f,q):=tK o;let(g,z):=adG y;show([i,j,v],.moment a c m,J,?_,J,J,?_,(L,f,g),?_)
  .change Y (auZ ((a:JH)).6 ((c:JH)).6<|if mI m<0 then O else Y (mI m).6)=_
   rw[GQ,ed,ed]
  .change kM [32] [gq "moment",kb a,kb c,C_ m]=_
   rw[N,q,z,P];rfl
  change (gq "moment"++[32]++(kb a++[32]++(kb c++[32]++C_ m))).9<=200
  let D:=p6 (n:=a) Ja;let T:=p6 f;let X:=adJ g;let u:(gq "moment").9=6:=Je
  erw[cE,nJ];lia
 rw[aj P]at d;cases Q:w=lR "parcel"
 .rw[ak Q]at d;cases d;show kJ vA h λi K a K K e h=>kJ xr h λj K c K K o h=>kJ rd4 h λv K m K K y h=>zG h ?_
  let(rfl,C):=GV e;let(_,f,q):=tK o;let(ab,g,z):=tK y;show([a,j,v],.parcel a c m,J,?_,J,J,?_,(f,ab,g),?_)
  .change Y (kj.parcel a ((c:JH)).6 ((m:JH)).6)=_
   rw[ed,ed]
  .change kM [32] [gq "parcel",a,kb c,kb m]=_
   rw[q,z,Q];rfl
  change (gq "parcel"++[32]++(a++[32]++(kb c++[32]++kb m))).9<=200
  let T:=p6 (n:=c) Ja;let X:=p6 g;let u:(gq "parcel").9=6:=Je
  erw[cE,nJ];lia
 rw[aj Q]at d;cases d
theorem GW:∀{b w},w∈cB m b->c∈w->c∈b
 |[],w,a,f=>by
  let:w=[]:=fZ.1 a;subst this;cases f
 |d::b,w,a,f=>by
  rw[Ot]at a;split at a
  .rcases fQ.1 a with h|h
   .ext
   show df _<|GW h f
  let(q,qs,e):=zB m b;rw[e]at a;rcases fQ.1 a with h|h
  .subst h;rcases fQ.1 f with g|g
   .ext
   show df _<|GW (by rw[e];show dM) g
  show df _<|GW (by rw[e];show df _ h) f
def aq4:∀k,∀f∈d6.getD k [],f [10]=O:=by
 intro k f a;haveI b:di [10]=O:=by rfl
 haveI c:uJ [10]=O:=by rfl
 match k with
 |0=>simp[d6]at a;rcases a with rfl|rfl|rfl<;>assumption
 |1=>simp[d6]at a;rcases a with rfl|rfl<;>assumption
 |2=>simp[d6]at a;subst a;assumption
 |3=>simp[d6]at a;rcases a with rfl|rfl|rfl|rfl<;>assumption
 |4=>simp[d6]at a;rcases a with rfl|rfl|rfl<;>assumption
 |5=>simp[d6]at a;rcases a with rfl|rfl|rfl<;>assumption
 |k+6=>simp[d6]at a
def GX(m:10∉l)(he:adD e (stq+l.9) rest):
  (∀f,kx l=.error f->Dh e (wp stq (cB 32 l)++rest)=.error (stq+f)\/∃x w r,Dh e (wp stq (cB 32 l)++rest)=.ok (x,((stq+f,(w))::r))/\w≠[10])/\
  (∀k d,kx l=.ok (k,(d))->∃x,Dh e (wp stq (cB 32 l)++rest)=.ok (x,(rest))/\GU l k d x):=by
 let(a,b,g):=zB 32 l;let n:=aqQ 32 l;delta kx;rw[g]at n⊢;let o:pK l.9 O [] 0 (a::b)=match jD O [] a with
  |none=>iM 0
  |some x=>pK l.9 (Y x.1) x.2 (0+a.9+1) b:=J
 let q:wp stq (a::b)++rest=(stq,(a))::(wp (stq+a.9+1) b++rest):=J;rw[o,q,aq2];let s:jD O [] a=(kindOf a).map λk=>(k,([])):=J
 rw[s];cases t:kindOf a with
 |none=>
  show(λf c=>.inl ?_,λk d h=>by cases h);ext
 |some k=>
  erw[zW];let i:=adE he WK (0+a.9+1) b<|aq4 k;rw[show stq+(0+a.9+1)=stq+a.9+1 by lia]at i;rw[i,adC l.9 k WK [] (0+a.9+1) b J];cases v:mH l.9 WK (0+a.9+1) b with
  |error p=>simp
  |ok x=>
   let(ps,j,left):=x;let(B,x,y,z):=aq3 t v;erw[z];cases left with
   |nil=>
    show((λf c=>by cases c),λC d h=>(x,J,?_));ext
   |cons u left=>
    show(λf c=>.inr (x,u,wp (stq+j+u.9+1) left++rest,?_,?_),λk d h=>by cases h)
    .let c:iM j=iM f:=c;cases c;rfl
    intro D;apply m;haveI A:u∈cB 32 l:=by rw[g,y];simp
    show GW A<|by ext
def adL(b:bU):(∀f,sD b=.error f->zV b=.error f)/\(∀k d,sD b=.ok (k,(d))->∃x,zV b=.ok x/\uN b=b/\GU b k d x):=by
 let g:∀{r:Except Nat (kj×List vQ)},Dh b.9 (qd 0 b)=r->zV b=match r with
   |.error e=>.error e
   |.ok (x,[])=>.ok x
   |.ok (v,w::y)=>.error w.1:=by
  intro r q;delta zV;rw[q];cases r with
  |error e=>rfl
  |ok x=>
   let(x,s):=x;cases s<;>rfl
 delta sD uN;rcases adu b with⟨j,n⟩|⟨l,r,j,n,t⟩
 .rw[n];let(a,c):=GX (l:=b) (stq:=0) (e:=b.9) (rest:=[]) j<|.inl (J,Ja);rw[iu,<-Ol b 0 j]at a c;erw[aun];cases m:kx b with
  |error f=>
   show(λi h=>?_,λk d h=>by cases h);let h:iM f=iM i:=h;cases h;rcases a f m with h|⟨x,w,r,h,_⟩
   .rw[g h,xP]
   rw[g h];change iM (0+f)=_
   rw[xP]
  |ok x=>
   erw[oU,uc];show((λi h=>by cases h),λk d h=>?_);let h:qh x=qh (k,(d)):=h;cases h;let(x,h,o):=c k d m;show(x,g h,trivial,o)
 rw[t];let(a,c):=GX (l:=l) (stq:=0) (e:=b.9) (rest:=(0+l.9,([10]))::qd (0+l.9+1) r) j<|.inr Qq;rw[<-Om l 0 r j,<-n]at a c;let p:l.9<b.9:=by rw[n,cE,gm];lia
 erw[aun];cases m:kx l with
 |error f=>
  show(λi h=>?_,λk d h=>by cases h);let h:iM f=iM i:=h;cases h;rcases a f m with h|⟨x,w,r,h,_⟩
  .rw[g h,xP]
  rw[g h];change iM (0+f)=_
  rw[xP]
 |ok x=>
  show(λi h=>?_,λk d h=>by
   let h:(if l.9<b.9 then iM l.9 else qh x)=qh (k,(d)):=h;rw[ak p]at h;cases h)
  let h:(if l.9<b.9 then iM l.9 else qh x)=iM i:=h;rw[ak p]at h;cases h;let(u,h,o):=c x.1 x.2 m;rw[g h];change iM (0+l.9)=_
  rw[xP]
inductive vB:List uO->List kj->Prop|nil:vB [] []|cons{d:uO}{x:kj}{a:List uO}{xs:List kj}:GU d.1 d.2.1 d.2.2 x->vB a xs->vB (d::a) (x::xs)
def aq5:∀j b (stq d:Nat),b.9<=j->b.9<d->(∀f,kD stq (cB 10 b)=.error f->Dd (stq+b.9) d (qd stq b)=.error f)/\(∀L,kD stq (cB 10 b)=.ok L->∃xs,Dd (stq+b.9) d (qd stq b)=.ok xs/\vB L xs):=by
 intro j;induction j with
 |zero=>
  intro b stq d y n;let:b=[]:=by grind
  subst this;cases d with
  |zero=>cases n
  |succ d=>
   let s:kD stq (cB 10 [])=.error stq:=J;show(λf h=>?_,λL h=>by cases h);cases h;change Dd (stq+0) (d+1) [(stq,([]))]=_
   delta Dd;rfl
 |succ j z=>
  intro b stq d y n;cases d with
  |zero=>cases n
  |succ d=>
   rcases adu b with⟨g,m⟩|⟨l,r,g,m,A⟩
   .rw[m];let(a,c):=GX g<|.inl (J,J);rw[iu,<-Ol b stq g]at a c;delta kD Dd;cases i:kx b with
    |error f=>
     show(λk h=>?_,λL h=>by cases h);cases h;rcases a f i with h|⟨x,w,r,h,o⟩
     .rw[h];rfl
     rw[h];erw[ue,dQ];delta Py;simp only;rw[aj o]
    |ok x=>
     show((λk h=>by cases h),λL h=>?_);cases h;let(p,h,q):=c x.1 x.2 i;rw[h];show([p],J,.cons q .nil)
   rw[A];let(a,c):=GX g<|.inr Qq;rw[<-Om l stq r g,<-m]at a c;let E:b.9=l.9+r.9+1:=by rw[m,cE,gm];lia
   let(t,u):=z r (stq+l.9+1) d Ja Ja;rw[show stq+l.9+1+r.9=stq+b.9 by lia]at t u;let s:kD stq (l::cB 10 r)=match kx l with
    |.error f=>.error<|stq+f
    |.ok x=>match kD (stq+l.9+1) (cB 10 r) with
     |.error e=>.error e
     |.ok r=>.ok ((l,(x))::r):=J
   rw[s];delta Dd;cases i:kx l with
   |error f=>
    show(λk h=>?_,λL h=>by cases h);cases h;rcases a f i with h|⟨x,w,r,h,o⟩
    .rw[h];rfl
    rw[h];erw[ue,dQ];delta Py;simp only;rw[aj o]
   |ok x=>
    let(p,h,q):=c x.1 x.2 i;rw[h];erw[ue,dQ];let B:Py (stq+b.9) [10] ((stq+l.9,([10]))::qd (stq+l.9+1) r)=.ok (qd (stq+l.9+1) r):=by
     delta Py;simp
    rw[B];simp only;cases v:kD (stq+l.9+1) (cB 10 r) with
    |error e=>
     show(λk h=>?_,λL h=>by cases h);let h:iM e=iM k:=h;cases h;rw[t e v]
    |ok R=>
     let(xs,C,D):=u R v;show((λk h=>by cases h),λL h=>?_);let h:qh ((l,(x))::R)=qh L:=h;cases h;rw[C];show(p::xs,J,.cons q D)
def aq6 b:(∀f,ow b=.error f->aeW b=.error f)/\(∀L,ow b=.ok L->∃xs,aeW b=.ok xs/\vB L xs):=by
 delta ow aeW;cases h:b=[]
 .subst h;show((λf h=>by cases h),λL h=>by cases h;show([],J,.nil))
 haveI h':b.isEmpty=au:=by cases b with|nil=>show absurd J h|cons c b=>rfl
 rw[aj h,aj Ja];let:=aq5 b.9 b 0 (b.9+1) JR<|auf _;rwa [xP]at this
def adM(h:lS s w=Y i):=(aew.1 h).1
theorem sum_append(l m:ZR):(l++m).sum=l.sum+m.sum:=List.sum_append
def adN(h:t.8=s.8++[e])(hi:i<Jb):aI t i=aI s i:=by delta aI;rw[h,jO,jO,xB hi]
def aq7(h:t.7=s.7++[n])(hi:i<Jt):aS t i=aS s i:=by delta aS;rw[h,jO,jO,xB hi]
def aq8{l:List t9}:∀{i},i<l.9->((l.modify i λx=>{x with epoch:=x.10+1}).map λn=>n.10).sum=(l.map λn=>n.10).sum+1:=by
 induction l with
 |nil=>intro i h;cases h
 |cons x l a=>
  intro i h;cases i with
  |zero=>
   change (x.10+1)+(l.map λn=>n.10).sum=(x.10+(l.map λn=>n.10).sum)+1
   lia
  |succ i=>
   let:=a (by exists h);change x.10+((l.modify i λx=>{x with epoch:=x.10+1}).map λn=>n.10).sum=(x.10+(l.map λn=>n.10).sum)+1
   lia
def adO{l:List t9}(h:n∈l.modify i λx=>{x with epoch:=x.10+1}):∃m∈l,n.lo=m.lo/\n.hi=m.hi/\n.name=m.name/\((l[i]?=Y m/\n.10=m.10+1)\/n.10=m.10):=by
 let(j,a):=kL h;rw[aeM]at a;cases b:l[j]? with
 |none=>rw[b]at a;cases a
 |some m=>
  rw[b]at a;haveI a:(if i=j then ({m with epoch:=m.10+1}:t9) else m)=n:=by
   let:=bt a;split<;>ext
  show(m,bM b,?_);cases e:i=j
  .rw[ak e]at a;subst a;subst e;show(J,J,J,.inl (b,J))
  rw[aj e]at a;subst a;show(J,J,J,.inr J)
set_option tactic.hygienic true in
def adP(g:J6)(F:sJ f)(h:eh s f=.ok u):aV u:=by
 delta eh at h;cases f with
 |node w N hi=>
  simp only at h;split at h
  .cases h
  split at h
  .cases h
  split at h
  .cases h
  rename_i A B q;let h:=Dv h;subst h;let(T,X):=F;let q:¬6<=s.nodes.9:=q;show(by change (s.7++[_]).9<=6;rw[cE];change _+1<=6;lia,g.dr,g.mm,g.sI,g.oy,?_,?_,?_,?_,g.od,g.wd,g.mo,g.pc)
  .intro n o;rcases dC.1 o with o|o
   .show g.ep n o
   rw[fZ.1 o];show eX _
  .let:=g.lg;rw[cE,cE,eV,sum_append];simp;lia
  .intro n o;rcases dC.1 o with o|o
   .show g.rt n o
   rw[fZ.1 o];show(T,X,by exists B)
  intro e he;let(a,b,c):=g.ev e he;show(by change e.node<(s.7++[_]).9;rw[cE];lia,b,?_);rwa [aq7 J a]
 |at_ w c=>
  simp only at h;split at h
  .cases h
  rename_i i hi;split at h
  .cases h
  split at h
  .cases h
  rename_i A B;let h:=Dv h;subst h;let H:=adM hi;let B:¬20<=s.events.9:=B;let ab:∀x,lY s i=Y x->x.11<=c:=by
   intro x C;rw[C]at A;exists A
  show(g.n6,by change (s.8++[_]).9<=20;rw[cE];change _+1<=20;lia,g.mm,g.sI,g.oy,g.ep,?_,g.rt,?_,?_,?_,?_,?_)
  .let:=g.lg;rw[cE,cE];erw[nJ];lia
  .intro e he;rcases dC.1 he with he|he
   .show g.ev e he
   rw[fZ.1 he];show(H,F,JR)
  .intro a b x y ac C D o;cases hb:b<Jb
   .rw[xB hb]at D;rw[xB Ja]at C;show g.od a b x y ac C D o
   let ae:b=s.events.9:=by
    let:=(cU.1 D).1;simp at this;lia
   subst ae;rw[G6 JR,afE]at D;let D:=bt D;subst D;rw[xB Ja]at C;let(P,Q,R):=g.ev x<|bM C;rw[o]at R;show(R,λhe=>?_);let L:aI s a=x:=by
    delta aI;show fG C
   let:=Od g (k:=i) (j:=a) Ja (by rw[L];show o) (by rw[L];show he);rw[L]at this;delta cF at this;cases t:lY s i with
   |none=>
    rw[t]at this;change x.11<=c
    simp at this;lia
   |some z=>
    rw[t]at this;let q:=ab z t;change x.11<=c
    simp at this;lia
  .intro l t;let(a,b,d,r):=g.wd l t;rw[adN (s:=s) J a,adN (s:=s) J b];show(by change l.src<(s.8++[_]).9;rw[cE];lia,by change l.dst<(s.8++[_]).9;rw[cE];lia,d,r)
  .intro m v;let(a,r):=g.mo m v;show(by change m.ev<(s.8++[_]).9;rw[cE];lia,r)
  intro p E;let(a,r):=g.pc p E;show(by change p.ev<(s.8++[_]).9;rw[cE];lia,r)
 |cut w=>
  simp only at h;split at h
  .cases h
  rename_i i hi;split at h
  .cases h
  rename_i A;let h:=Dv h;subst h;let H:=adM hi;let A:¬100<=(aS s i).10:=A;let af:s.7[i]?=Y (aS s i):=by
   delta aS;rw[jO,cy H];rfl
  let ag:∀j,(aS s j).10<=(aS {s with nodes:=s.nodes.modify i λx=>{x with epoch:=x.10+1},log:=s.log++[.cut w]} j).10:=by
   intro j;delta aS;erw[jO,aeM];cases s.7[j]? with
   |none=>show bf _
   |some m=>
    cases e:i=j
    .simp[e]
    simp[e]
  show(by change (s.nodes.modify _ _).9<=6;rw[aeR];show g.n6,g.dr,g.mm,g.sI,g.oy,?_,?_,?_,?_,g.od,g.wd,g.mo,g.pc)
  .intro n o;let(m,v,_,_,_,hc):=adO o;rcases hc with⟨q,S⟩|S
   .rw[af]at q;cases q;lia
   rw[S];show g.ep m v
  .let:=g.lg;change (s.log++[_]).9<=(s.nodes.modify i _).9+Jb+Wr+UU+QJ+((s.nodes.modify i _).map λ(n:t9)=>n.10).sum
   rw[cE,aeR,aq8 H];erw[nJ];lia
  .intro n o;let(m,v,P,Q,_):=adO o;rw[P,Q];show g.rt m v
  intro e he;let(a,b,c):=g.ev e he;show(by change e.node<(s.nodes.modify _ _).9;rw[aeR];show a,b,eO c<|ag e.node)
 |word e f' N hi=>
  simp only at h;split at h
  .cases h
  split at h
  .cases h
  split at h
  .cases h
  rename_i A B q;let h:=Dv h;subst h;let q:¬20<=s.lags.9:=q;show(g.n6,g.dr,by change (UJ++[_]).9<=20;rw[cE];change _+1<=20;lia,g.sI,g.oy,g.ep,?_,g.rt,g.ev,g.od,?_,g.mo,g.pc)
  .let:=g.lg;change (s.log++[_]).9<=Jt+Jb+(UJ++[_]).9+UU+QJ+(s.nodes.map λn=>n.10).sum
   rw[cE,cE];erw[nJ];lia
  intro l t;rcases dC.1 t with t|t
  .show g.wd l t
  rw[fZ.1 t];let(a,b,c,d):=F;show(by change e<Jb;lia,by change f'<Jb;lia,?_,c,d);show λhh=>B<|.inl hh
 |moment e N hi=>
  simp only at h;split at h
  .cases h
  split at h
  .cases h
  split at h
  .cases h
  rename_i A B q;let h:=Dv h;subst h;let q:¬10<=s.marks.9:=q;show(g.n6,g.dr,g.mm,by change (UT++[_]).9<=10;rw[cE];change _+1<=10;lia,g.oy,g.ep,?_,g.rt,g.ev,g.od,g.wd,?_,g.pc)
  .let:=g.lg;change (s.log++[_]).9<=Jt+Jb+Wr+(UT++[_]).9+QJ+(s.nodes.map λn=>n.10).sum
   rw[cE,cE];erw[nJ];lia
  intro m v;rcases dC.1 v with v|v
  .show g.mo m v
  rw[fZ.1 v];let(a,b,c):=F;show(by change e<Jb;lia,b,c)
 |parcel w e life=>
  simp only at h;split at h
  .cases h
  split at h
  .cases h
  split at h
  .cases h
  rename_i A B q;let h:=Dv h;subst h;let q:¬10<=s.parcels.9:=q;show(g.n6,g.dr,g.mm,g.sI,by change (Qk++[_]).9<=10;rw[cE];change _+1<=10;lia,g.ep,?_,g.rt,g.ev,g.od,g.wd,g.mo,?_)
  .let:=g.lg;change (s.log++[_]).9<=Jt+Jb+Wr+UU+(Qk++[_]).9+(s.nodes.map λn=>n.10).sum
   rw[cE,cE];erw[nJ];lia
  intro p E;rcases dC.1 E with E|E
  .show g.pc p E
  rw[fZ.1 E];let(a,b,c):=F;show(by change e<Jb;lia,b,c)
def adQ(h:eh s f=.ok u):u.log=s.log++[f]:=by
 delta eh at h;cases f<;>(simp only at h;repeat' split at h)<;>first
  |cases h;rfl
  |cases h
def CG:aV eW:=(by decide,Je,Je,Je,Je,(λn a=>by cases a),Je,(λn a=>by cases a),(λn a=>by cases a),(λi j x y c b=>by cases b),(λn a=>by cases a),(λn a=>by cases a),λn a=>by cases a)
def kK(s:bX):=∀f∈s.log,(jq f).9<=200
def adR(b:kK s)(c:(jq f).9<=200)(h:eh s f=.ok u):kK u:=by
 intro g a;rw[adQ h]at a;rcases dC.1 a with a|a
 .show b g a
 ext
def fY:bX->List kj->bX×Int
 |s,[]=>(s,(0))
 |s,f::l=>match eh s f with
  |.error e=>(s,(e))
  |.ok u=>fY u l
def aq9:∀l i s,s.log.9=i->(∀u,fY s l=(u,(0))->afi i s l=.ok u)/\(∀u e,fY s l=(u,(e))->e≠0->afi i s l=.error (u.log.9,(e))):=by
 intro l;induction l with
 |nil=>
  show λi s hi=>(λu h=>by cases h;rfl,λu e h he=>by cases h;show absurd J he)
 |cons f l b=>
  intro i s hi;delta fY afi;cases a:eh s f with
  |error e=>
   let c:e<0:=by
    delta eh at a;repeat' split at a
    all_goals first
     |cases a;decide
     |cases a
   lia
  |ok u=>
   show b JK u (by rw[adQ a,cE,hi];rfl)
def adS:∀l s,aV s->kK s->(∀f∈l,sJ f/\(jq f).9<=200)->aV (fY s l).1/\kK (fY s l).1:=by
 intro l;induction l with
 |nil=>intro s c d _;show(c,d)
 |cons f l j=>
  intro s c d h;delta fY;let(a,b):=h f dM;cases i:eh s f with|error e=>show(c,d)|ok u=>show j u (adP c a i) (adR d b i) λg k=>h g<|df _ k
abbrev xt(t:ax):List QD:=[(aZ "told",(.ref t))]
structure p7(K:bH)(A:Ad)(S H:Hp)(a t:ax)(s:bX):Prop where
 top:∃dx,H a=Y (.ins A.gW dx<|xt t)
 tl:c9 K A S H t s
 fr:S a=O
theorem p7.to{K}(L:p7 K A S H a t s)(m:az H b):p7 K A S b a t s:=by let((c,d),e,f):=L;show((c,m _ _ d),e.to m,f)
def adT{K:bH}{A:Ad}{S H:Hp}{t:ax}{s:bX}{d:TD}(T:J9)(c:UP):az S (fh QZ H)/\az (fh QZ H) H/\TA K A (fh QZ H) H t s d:=by
 show(Nw c λb a=>?_,Gj _ _,Qm,YY,Y7,T.wl,T.ml,T.pl,T.ll,T.n,T.e,T.w,T.m,T.p,T.l,T.nd,T.ls,T.li,λb a=>?_,λb a=>?_)
 .rcases dC.1 a with h|h
  .show T.fr b h
  show T.fn b h
 .delta fh;rw[ak<|nL _ a]
 delta fh;rw[ak<|mJ _ a]
def CH{K:bH}{A:Ad}{S H:Hp}{t:ax}{s:bX}{d:TD}(T:J9){b:ax}{u:HO}(a:H b=Y u)(c:b∉d.lists)(e:b∉d.ns):fh QZ H b=Y u:=by
 delta fh;rw[aj]
 .show a
 intro h;rcases dC.1 h with h|h
 .show c h
 show e h
def zH{K}(T:J9)(a:b∈d.lists):∃xs,H b=Y JX:=by
 simp at a;rcases a with rfl|rfl|rfl|rfl|rfl|rfl
 .show(_,YY)
 .show(_,Y7)
 .show(_,T.wl)
 .show(_,T.ml)
 .show(_,T.pl)
 show(_,T.ll)
def zI{K}(T:J9)(f:b∈d.ns):∃a nm c hi e,H b=Y (.ins A.gF a<|uP nm c hi e):=by let(i,hi):=kL f;let(n,_,a,nm,c,hi,g):=d7 T.n hi;show(a,nm,c,hi,_,g)
def ara{K}(T:J9)(h:H b=Y (.ins A.gW c<|xt t)):b∉d.lists/\b∉d.ns:=by
 show(λa=>?_,λa=>?_)
 .let(xs,e):=zH T a;lia
 let(c,nm,f,hi,e,g):=zI T a;lia
def TA.small{K:bH}{A:Ad}{S H:Hp}{t x C a C' dx':ax}{s:bX}{d:TD}{fs fs':List QD}(T:J9)(h:H x=Y (.ins C a fs))(u:fs.9<=2):TA K A S (aA H x<|.ins C' dx' fs') t s d:=by
 let st:cY H (aA H x<|.ins C' dx' fs'):=cY.ins h;let nl:∀{b:ax}{xs:Ju},H b=Y JX->aA H x (.ins C' dx' fs') b=Y JX:=λ{b xs} e=>by
  rw[aJ<|eK e h (by intro z;cases z)];show e
 let f:∀{b i j:ax}{g:List QD},3<=g.9->H b=Y (.ins i j g)->aA H x (.ins C' dx' fs') b=Y (.ins i j g):=λ{b i j g} l e=>by
  rw[aJ<|eK e h (by intro z;injection z with _ _ z;rw[z]at l;omega)];show e
 show(f Jc Qm,nl YY,nl Y7,nl T.wl,nl T.ml,nl T.pl,nl T.ll,?_,?_,?_,?_,?_,?_,T.nd,T.ls,T.li,T.fr,T.fn)
 .show dk (λb n (a,nm,m,hi,c,k,o,r)=>(a,nm,m,hi,f Jc c,cN st k,cN st o,cN st r)) T.n
 .show dk (λv n (p,a,e,c)=>(p,a,e,f Jc c)) T.e
 .show dk (λv n (p,a,e,c)=>(p,a,e,f Jc c)) T.w
 .show dk (λv n (p,a,e,c)=>(p,a,e,f Jc c)) T.m
 .show dk (λv n (p,a,nm,e,c,k)=>(p,a,nm,e,f Jc c,cN st k)) T.p
 show dk (λv n (q,e,c)=>(q,e,nl c)) T.l
theorem TA.s{K s}(T:J9)(m:∀b,S b=O->c b=O):TA K A c H t s d:=UE
inductive ES K A(vs:Ju) H(Q:VK):Prop|mk(c:vs=[])(d:∀a t b,H a=O->az H b->p7 K A H b a t eW->Q Jy b)
def arb(c:Jn):dP g 3 "Lives" A.gW ["self"] (ES Jj A):=by
 show dP.rd c c.KO.at_ 1 [13,0] (kc (LO c) fz) (cJ A.gW Ji (fJ (Fp Jj A) aa) "told") λvs H Q h x j a l n=>?_
 let(rfl,k):=h;show(J,?_);let e:=lC (C:=A.gW) a l;show(J,λt o p f T=>?_);let i:=f _ _<|aB;show(i,Je,?_);let(d,T):=T;show(J,k x t _ a (bZ (e.trans f) a) ((j,by rw[aB];rfl),(d,(T.small i Jc).s λb m=>e.free m),a))
inductive xu(K:bH)(A:Ad)(b:bU)(f:bX->bX×List Int)(vs:Ju)(H:Hp)(Q:VK):Prop|mk(S:_)(c:_)(t:_)(s:_)(rw:_)(d:vs=[.ref c,.ref rw])(e:UP)(g:p7 K A S H c t s)(h:J6)(i:kK s)(j:S rw=Y (.lst (cO b)))(k:∀p t' a,az S a->p7 K A S a c t' (f s).1->S p=O->a p=Y (.lst (bJ (f s).2))->Q JS a):xu K A b f vs H Q
def arc(e:Jn) b:aK g 3 202 (xu Jj A b λB=>(eW,([0]))):=by show aK.rd e 2 [13,0] (kc (LO e) fz) (ay (cJ A.gW Ji (fJ (Fp Jj A) aa) "told")<|aH Zh) ?_;intro vs H Q v (S,f,t,s,rw,rfl,h,((i,j),T,l),w,x,y,k);show(J,fun m q z c (d,r)=>(c _ _ j,Jc,?_));let n:az S (aA q f<|.ins A.gW i<|bD "told" (V.ref m)<|xt t):=bZ (h.trans c) l;show λp a=>k p m _ (n.trans<|aG a) ((i,?_),(d,((r.small (c _ _ j) Jc).to<|aG a).s λb u=>h.free u),l) (n.free a) aB;let:=(aG (o:=WH) a) f _ aB;assumption
def tM(b:bU)(s:bX):bX×List Int:=match zV b with
 |.error p=>(s,([-WN-(p:JH)]))
 |.ok f=>match eh s f with
  |.error e=>(s,([e]))
  |.ok u=>(u,([(u.log.9:Int)]))
def ard(C:Jn)(a:b.9<=2000):aK g 8 203 (xu Jj A b<|tM b):=by
 show aK.rd C 4 [1,0,1,0,1,0,13,0,90,8,13] (fc (X6 C)<|fc (alb C) fz) (ay (aP (aN 1 (XJ Jj A) Qh) QQ)<|ay (a_ (aY<|ah Ym (aD YV Jv "fault") Jf) (aH<|bx<|U (ah Q4 (tC<|.int<|-WN)<|aD YV Jv "fault") aa) ba)<|ay (aP (aN 2 (LP Jj A)<|U ZA Qg) Zx)<|ay (a_ (aY<|ah QO JC Jf) (aH<|bx Zo) ba)<|aH<|bx<|U (bA Qb<|U (aD A.bT ZA "lines") aa) aa) ?_;intro vs H Q hl (S,X,t,s,rw,rfl,w,L,so,am,hr,k);let(sE,sO):=adL b;delta tM at k;show(rw,b,J,w _ _ hr,JE,fun f D p v q pt l j (dx,n)=>?_,fun kd ds D p q pt xs l j ac ae af (dx,n) hq ag hP=>?_)
 .rw[sE f D]at k;show(n,uF (by rfl) (n,λz c=>k z t _ (w.trans<|j.trans<|aG c) (L.to<|j.trans<|aG c) (w.free<|j.free c) aB))
 let(x,hx,hh,fk,fp,ft,fo,fl):=sO kd ds D;rw[hx]at k;simp only at k;show(n,wm Jc ?_);let((ab,E),(d,T),fr):=id L;let i:=T.to j;let(y,a2,a3):=adT i<|w.trans j;let an:=ara i<|j _ _ E;haveI F:∀{b:ax}{u:HO},H b=O->l b=Y u->fh QZ l b=Y u:=by
  intro b u h0 h1;show CH i h1 (λa=>?_) λa=>?_
  .let(xs,e):=zH T a;rw[h0]at e;cases e
  let(_,_,_,_,_,e):=zI T a;rw[h0]at e;cases e
 let N:=CH i (j _ _ E) an.1 an.2;haveI ai:cY l (fh QZ l):=by
  show(λb xs e=>CH i e (λa=>by let(ys,h):=zH i a;rw[e]at h;cases h) (λa=>by let(_,_,_,_,_,h):=zI i a;rw[e]at h;cases h),λb o u e=>CH i e (λa=>by let(ys,h):=zH i a;rw[e]at h;cases h) (λa=>by let(_,_,_,_,_,h):=zI i a;rw[e]at h;cases h))
 haveI gf:uU Jj A (fh QZ l) p x:=by
  show(q,pt,xs,(dx,by rw[fk];show F ac n),by rw[ft,<-hh];show F af hq,F ae ag,by rw[fp];show uM hP ai)
 show(j _ _ E,_,t,s,p,x,J,a2,(d,a3),so,fo,gf,λe he P m B=>?_,λu hu P m B=>?_)
 .rw[he]at k;let r:=y.trans m;let al:p7 Jj A S P X t s:=UM;show uF (by exists (Fq he)) λz c=>k z t _ (r.trans<|aG c) (al.to<|aG c) (r.free c) aB
 rw[hu]at k;let r:=y.trans m;let al:p7 Jj A S P X t u:=UM;let(d2,R):=B;show(m _ _ N,R.top,.inl<|aq.of R.ll,λz c=>k z t _ (r.trans<|aG c) (al.to<|aG c) (r.free c) ?_);rw[aB,b_ R.l];rfl
abbrev adU(t:ax)(e:JH):List QD:=[(aZ "told",(.ref t)),(aZ "refusal",(.int e))]
inductive Ox K A(vs:Ju) H(Q:VK):Prop|mk b xs fs(d:vs=[.ref b])(e:H b=Y (.lst xs))(g:bw (λv f=>∃p,v=.ref p/\uU K A H p f) xs fs)(h:(∀f∈fs,sJ f/\(jq f).9<=200))(i:∀y c t a,H y=O->az H a->a y=Y (.ins A.g7 c<|adU t (fY eW fs).2)->c9 K A H a t (fY eW fs).1->Q (.ref y) a)
theorem adV:∀l f s,fY s (l++[f])=if (fY s l).2=0 then (match eh (fY s l).1 f with
  |.error e=>((fY s l).1,(e))
  |.ok u=>(u,(0))) else fY s l
 |[],f,s=>by rfl
 |g::l,f,s=>by
  change fY s (g::(l++[f]))=_
  delta fY;cases a:eh s g with
  |error e=>
   let:=Fq a;rw[aj Ja]
  |ok u=>show adV l f u
def adW(D:Jn):dP g 5 "Telling" A.g7 ["self","facts"] (Ox Jj A):=by
 show dP.rd D D.KP.at_ 3 [14,1,14,0,0,14,14,0,14] (fc (X6 D)<|kc (LO D) fz) (ay (cJ A.g7 Ji (fJ (Fp Jj A) aa) "told")<|ay (cJ A.g7 Ji Jf "refusal")<|dc (gU Jj Jl) QQ<|a_ (aY<|ah dR (aD A.g7 Ji "refusal") Jf) (cJ A.g7 Ji (aN 2 (LP Jj A)<|U (aD A.g7 Ji "told") Qg) "refusal") ba) λvs H Q h x m q ag al=>?_
 let(X,xs,fs,rfl,ab,hG,bo,k):=h;show(J,?_);let s0:=lC (C:=A.g7) q ag;show(J,fun t H1 ht s1 (d,T)=>?_);let ac:=s1 _ _<|aB;show(ac,Je,?_);let s2:=bZ (o:=.ins A.g7 m JQ) (s0.trans s1) q;let T2:=(T.small (C':=A.g7) (dx':=m) (fs':=JQ) ac Jc).s λb j=>s0.free j
 let N:=aB (H:=H1) (a:=x) (o:=.ins A.g7 m JQ);generalize aA H1 x (.ins A.g7 m JQ)=H2 at s2 T2 N⊢;show(N,ji,?_);let s3:=bZ (o:=.ins A.g7 m<|bD "refusal" (V.int 0) JQ) s2 q;show(X,J,(_,aq.of<|s3 _ _ ab),k7 (λi E F=>∃P,A4 (E=[Y<|.ref x,Y<|.ref X,P]) (az H F) (F x=Y (.ins A.g7 m<|adU t (fY eW<|fs.take i).2))<|c9 Jj A H F t (fY eW<|fs.take i).1) (O,J,s3,(by rw[aB];rfl),(d,T2.small (C':=A.g7) (dx':=m) (fs':=bD "refusal" (V.int 0) JQ) N<|avg 1)) (λi E F _ (_,_,s,_,_)=>aq.of<|s _ _ ab) ?_ ?_)
 .intro i v E H4 hv (P,rfl,L,l,c);let(f,r,p,rfl,gf):=d7 hG hv;let(fo,am):=bo f<|bM r;let st:=adV (fs.take i) f eW;rw[<-take_snoc r]at st;let(ai,an):=adS (fs.take i) eW CG (λf r=>by cases r) λf r=>bo f (O2 r)
  show(l,Jg)
  .let h:(fY eW<|fs.take i).2=0:=by
    let:=WI;show V.int.inj this
   rw[ak h]at st;let(R,c):=c;let(w,a2,a3):=adT c L;let ae:x∉R.lists/\x∉R.ns:=by
    show(λj=>?_,λj=>?_)
    .let(ys,e):=zH c j;rw[l]at e;cases e
    let(_,_,_,_,_,e):=zI c j;rw[l]at e;let e:=bt e;injection e with _ _ e
    cases e
   let af:=CH c l ae.1 ae.2;show(l,_,t,_,p,f,J,a2,(R,a3),ai,fo,gf.to w,λe he H5 y n=>?_,λu hu H5 y n=>?_)
   .rw[he]at st;let(S,n):=n;let B:=y _ _ af;show(B,Jc,_,J,bZ (w.trans y) q,by rw[aB,st];rfl,(S,?_));rw[st];show (n.small B Jc).s λb j=>w.free j
   rw[hu]at st;let(S,n):=n;let B:=y _ _ af;show(B,Jc,_,J,bZ (w.trans y) q,by rw[aB,st];rfl,(S,?_));rw[st];show (n.small B Jc).s λb j=>w.free j
  let h:¬(fY eW<|fs.take i).2=0:=by
   intro z;apply h;rw[z];simp
  rw[aj h]at st;show(_,J,L,by rw[st];show l,by rw[st];show c)
 intro E H4 (P,rfl,L,l,c);rw[b_ hG,ir]at l c;show(J,k x m t H4 q L l c)
def tN(b:bU)(s:bX):bX×List Int:=match rK b with
 |.place p=>(s,([-WN-(p:JH)]))
 |.line i a=>(s,([-100000-(i:JH)]))
 |.good u=>(u,([(u.log.9:Int)]))
def tO(b:bU)(s:bX):bX×List Int:=(s,match rK b with
 |.place p=>[1,(p:JH)]
 |.line i e=>[2,(i:JH), -e]
 |.good u=>[0,(u.log.9:Int)])
theorem Oy{K}:∀{xs L fs},bw (lG K A H0 H) xs L->vB L fs->bw (λv f=>∃p,v=.ref p/\uU K A H p f) xs fs/\∀f∈fs,sJ f/\(jq f).9<=200
 |_,_,_,.nil,.nil=>(.nil,λf c=>by cases c)
 |_,_,_,.cons d e,.cons g h=>by
  let(a,b):=Oy e h;let(p,q,i,j,rfl,k,l,m):=d;let(n,t,o,r,s):=g;show(.cons (p,J,q,i,j,by rw[n];show k,by rw[o];show l,m,by ext) a,λf c=>?_);rcases fQ.1 c with rfl|c
  .show(r,s)
  show b f c
def OA(b:bU):(∀f,ow b=.error f->rK b=.place f)/\(∀L,ow b=.ok L->∃fs,vB L fs/\rK b=if (fY eW fs).2=0 then .good (fY eW fs).1 else .line (fY eW fs).1.log.9 (fY eW fs).2):=by
 let(c,d):=aq6 b;show(λf h=>?_,λL h=>?_)
 .delta rK;rw[c f h]
 let(fs,e,g):=d L h;show(fs,g,?_);delta rK;rw[e];simp only;let(i,j):=aq9 fs 0 eW J;cases a:(fY eW fs).2=0
 .rw[ak a,i _<|Prod.ext J a]
 rw[aj a,j _ _ J a]
theorem OB:∀l s,(fY s l).2<=0
 |[],s=>HF _
 |f::l,s=>by
  delta fY;cases a:eh s f with|error e=>let:=Fq a;simp only;lia|ok u=>show OB l u
def arf(m:Jn)(w:b.9<=2000):aK g 8 204 (xu Jj A b<|tN b):=by
 show aK.rd m 4 [1,0,2,0,2,0,2,0,14,0,90,8,14,13,14,90,8,13] (kc (adW m)<|fc (XN m) fz) (ay (aP (aN 1 (LJ Jj A) Qh) QQ)<|ay (a_ (aY<|ah Ym (aD A.jB Jv "fault") Jf) (aH<|bx<|U (ah Q4 (tC<|.int<|-WN)<|aD A.jB Jv "fault") aa) ba)<|ay (aP (fJ (Ox Jj A)<|U (aD A.jB Jv "facts") aa) Zx)<|ay (a_ (aY<|ah QO (aD A.g7 JC "refusal") Jf) (aH<|bx<|U (ah Q4 (tC<|.int<|-100000) UK) aa) ba)<|ay (cJ A.gW Ji (aD A.g7 JC "told") "told")<|aH<|bx<|U (bA Qb<|U (aD A.bT ZA "lines") aa) aa) ?_;intro vs H Q hl (S,n,t,s,rw,rfl,d,L,so,ac,P,k);let(R,T):=OA b;delta tN at k;show(rw,b,J,d _ _ P,JE,λf o p X x H1 c e=>?_,λLL o p X x xs H1 c e ab ae hP=>?_)
 .rw[R f o]at k;show(e,uF Jc (e,λz a=>k z t _ (d.trans<|c.trans<|aG a) (L.to<|c.trans<|aG a) (d.free<|c.free a) aB))
 let(fs,fa,hR):=T LL o;let(hG,bo):=Oy hP fa;rw[hR]at k;show(e,wm Jc (e,x,xs,fs,J,ab,hG,bo,λy dy h B hy q j T2=>?_));let r:=d.trans<|c.trans q;let(d2,l):=id T2;let C:=b_ l.l;let tn:=OB fs eW;cases u:(fY eW fs).2=0
 .rw[ak u]at k;show(j,wm (by rw[u];simp) ?_);let((i,D),_,E):=L.to<|c.trans q;show(j,D,Jc,?_);let F:aA B n (.ins A.gW i<|bD "told" (V.ref h)<|xt t) n=Y (.ins A.gW i<|xt h):=by rw[aB];rfl
  let N:az S (aA B n<|.ins A.gW i<|bD "told" (V.ref h)<|xt t):=bZ r E;let v:=(l.small (C':=A.gW) (dx':=i) (fs':=bD "told" (V.ref h)<|xt t) D Jc).s λb w=>d.free<|c.free w
  show(F,v.top,.inl<|aq.of v.ll,λz a=>k z h _ (N.trans<|aG a) ((i,(aG a) _ _ F),(d2,v.to<|aG a),E) (N.free a) ?_);rw[aB,C];rfl
 rw[aj u]at k;show(j,uF (by simp;lia) (j,l.top,.inl<|aq.of l.ll,λz a=>k z t _ (r.trans<|aG a) (L.to<|c.trans<|q.trans (aG a)) (r.free a) ?_));rw[aB,C];rfl
def arh(l:Jn)(R:b.9<=2000):aK g 8 205 (xu Jj A b<|tO b):=by
 show aK.rd l 4 [1,0,2,2,0,2,0,14,90,8,14,0,14,90,8,14] (kc (adW l)<|fc (XN l) fz) (ay (aP (aN 1 (LJ Jj A) Qh) QQ)<|ay (a_ (aY<|ah Ym (aD A.jB Jv "fault") Jf) (aH<|bx<|U Jh<|U (aD A.jB Jv "fault") aa) ba)<|ay (aP (fJ (Ox Jj A)<|U (aD A.jB Jv "facts") aa) Zx)<|ay (a_ (aY<|ah QO (aD A.g7 JC "refusal") Jf) (aH<|bx<|U (tC<|.int 2)<|U UK<|U (ah Q4 Jf<|aD A.g7 JC "refusal") aa) ba)<|aH<|bx<|U Jf<|U UK aa) ?_;intro vs H Q T (S,X,t,s,rw,rfl,i,L,so,ab,u,k);let(v,w):=OA b;delta tO at k;show(rw,b,J,i _ _ u,JE,λf m p x q B c d=>?_,λLL m p x q xs B c d C ac D=>?_)
 .rw[v f m]at k;show(d,uF Jc (d,λz a=>k z t _ (i.trans<|c.trans<|aG a) (L.to<|c.trans<|aG a) (i.free<|c.free a) aB))
 let(fs,E,F):=w LL m;let(N,bo):=Oy D E;rw[F]at k;show(d,wm Jc (d,q,xs,fs,J,C,N,bo,λy dy t2 H2 hy n e P=>?_));let j:=i.trans<|c.trans n;let(d2,h):=id P;let r:=b_ h.l;let tn:=OB fs eW;cases o:(fY eW fs).2=0
 .rw[ak o]at k;show(e,wm (by rw[o];simp) (e,h.top,.inl<|aq.of h.ll,λz a=>k z t _ (j.trans<|aG a) (L.to<|c.trans<|n.trans<|aG a) (j.free a) ?_));rw[aB,r];rfl
 rw[aj o]at k;simp only at k;show(e,uF (by simp;lia) (e,h.top,.inl<|aq.of h.ll,e,λz a=>k z t _ (j.trans<|aG a) (L.to<|c.trans<|n.trans<|aG a) (j.free a) ?_));rw[aB,r,<-rQ];rfl
theorem adX s:∀l w,kM s (l++[w])=if l=[] then w else kM s l++s++w
 |[],w=>by rw[ak J];rfl
 |[u],w=>by rw[aj Jc];rfl
 |u::v::l,w=>by
  change u++s++kM s ((v::l)++[w])=u++s++kM s (v::l)++s++w
  rw[adX s (v::l) w];simp
def ari l(h:∀w∈l,w.9<=200):(kM [10] l).9<=201*l.9:=by
 induction l with
 |nil=>show eX _
 |cons u l a=>
  let c:=h u dM;let d:=a λw b=>h w<|df _ b
  cases l with
  |nil=>change u.9<=201*1;lia
  |cons v l=>
   change (u++[10]++kM [10] (v::l)).9<=_
   rw[cE,cE,nJ,gm];lia
def oK(fs:List kj):List Int:=0::VbdtCore.ints (kM [10]<|fs.map jq)
def adY(s:bX):bX×List Int:=(s,(oK s.log))
def adZ(h:∀f∈fs,(jq f).9<=200):(oK fs).9<=201*fs.9+1:=by
 delta oK VbdtCore.ints;rw[gm,bz];let:=ari (fs.map jq) λw a=>by
  let(f,b,rfl):=eJ.1 a;show h f b
 ext
def arj(ab:Jn) b:aK g 1 206 (xu Jj A b adY):=by
 show aK.rd ab 5 [3,8,13,0,90,91] fz (ay (aP Zh QQ)<|ay (dc (jc Jj<|U (aD A.bT ZA "lines") aa) Ql<|ay (a_ (aY<|ah Wq JC Jf) (cG<|ff Jj "list" gb Jv<|U (tC<|.int<|10) aa) ba)<|cG<|ff Jj "list" yi Jv ZY)<|aH Jv) ?_;intro vs H Q hl (S,C,t,s,rw,rfl,F,L,so,N,hr,k);let((ai,ac),(d,T),fr):=id L;let l6:=so.LQ;show λa r=>?_;let u:=aG (o:=WH) r;let ea:=aB (H:=H) (a:=a) (o:=WH);show(u _ _ ac,u _ _ Qm,d.ll,_,J,aq.of<|u _ _ T.ll,lh (λi c j=>E2 λm n=>A3 (c=[Y Zl,Y<|.ref rw,Y Jy,m,n]) (az H j)<|j a=Y (.lst<|bJ<|oK<|s.log.take i)) (O,O,J,u,ea) (λi c j _ (_,_,_,s1,_)=>aq.of<|s1 _ _ T.ll) ?_ ?_)
 .intro i y c p P hy (m,n,rfl,v,w) ae;let(f,D,q,rfl,hq):=d7 T.l hy;let hi:=(cU.1 D).1;let nT:az p (aA p P<|.tup [.int i,.ref q]):=aG ae;let E:=v.trans nT;let x:=nT _ _ w;generalize aA p P (.tup [.int i,.ref q])=H3 at E x⊢;let len:=adZ (fs:=s.log.take i) λg hg=>N g (O2 hg)
  rw[oQ]at len;let al:=N f<|bM D;haveI st:oK (s.log.take JK)=oK (s.log.take i)++(if i=0 then [] else [10])++VbdtCore.ints (jq f):=by
   delta oK;rw[take_snoc D,eV,aeQ,adX];cases l:i=0
   .subst l;simp[kM,VbdtCore.ints]
   haveI af:(s.log.take i).map jq≠[]:=by
    intro e;let:=e8 t_ e;rw[bz,oQ,rJ]at this;lia
   rw[aj af,aj l];simp[VbdtCore.ints]
  haveI fin:∀B xs,az H B->B a=Y (.lst<|bJ xs)->xs.9<=201*WN+2->oK (s.log.take JK)=xs++VbdtCore.ints (jq f)->cG (ff Jj "list" yi Jv ZY) {nx:=λc j=>E2 λm n=>A3 (c=[Y Zl,Y<|.ref rw,Y Jy,m,n]) (az H j)<|j a=Y (.lst<|bJ<|oK<|s.log.take JK),rt:=Q} [Y Zl,Y<|.ref rw,Y Jy,Y WD,Y Wm] B:=by
   intro B xs R X am ag;show(.inl (J,_,aq.of X),a,q,_,_,J,J,X,R _ _ hq,?_,_,_,J,bZ R r,?_)
   .rw[lu _,bz,cP];lia
   rw[aB,ag,lB];simp[bJ]
  show aT J4 λh=>?_
  .let h:0<(i:JH):=WI;haveI l:¬i=0:=by omega
   rw[aj l]at st;show(.inl (J,_,aq.of x),x,?_,?_)
   .rw[bz,cP];omega
   show fin _ (oK (s.log.take i)++[10]) (bZ E r) ?_ ?_ st
   .rw[aB];simp[bJ]
   rw[cE,nJ];omega
  let h:¬0<(i:JH):=Zj
  let l:i=0:=JE
  rw[ak l,iu]at st;show fin H3 (oK<|s.log.take i) E x JE st
 intro c p (m,n,rfl,v,w);rw[b_ T.l,ir]at w;show k a t p (F.trans v) (L.to v) (F.free r) w
def d9(x:qX):=((x.1:Int)::x.2.1)::(if dY x.1=0 then [] else [x.2.2])
structure rn(x:qX):Prop where
 nb:x.1<23
 ws:x.2.1.9=(bK x.1).9
 no:dY x.1=0->x.2.2=[]
 len:x.2.2.9<=2000
def d_(h:Vbdtah.decode c=Y k):f9 s c=cT s (cq s k):=by delta f9 cT;rw[h];rfl
def ad0(h:∀c∈row,0<=c/\c<=255):row=VbdtCore.ints (row.map o6):=by
 delta VbdtCore.ints;ext;conv=>lhs;rw[<-HE row]
 show mK λc a=>?_
 let:=h c a;change c=c.6
 lia
def GY(h:∀c∈row,0<=c/\c<=255)(a:row.9<=2000):zT row=Y (row.map o6):=by delta zT;rw[ak];show(mL.2 λc b=>?_,a);let:=h c b;delta O3;simp[this]
def GZ(h:(row.any λc=>decide (c<0)||decide (255<c))=I):zT row=O:=by delta zT;rw[aj];intro(a,_);let(c,b,d):=lT.1 h;let:=mL.1 a c b;delta O3 at this;simp at this d;lia
def zJ{row:Jw}(h:(row.any λc=>decide (c<0)||decide (255<c))=au):∀c∈row,0<=c/\c<=255:=by ext
def gY{a}(h:¬(a<=n/\n<=hi)):cZ n a hi=.error (-3):=by delta cZ O3;ext
def OC n a hi:cZ n a hi=if a<=n/\n<=hi then .ok n.6 else .error (-3):=by
 cases h:a<=n/\n<=hi
 .rw[ak h,ck h.1 h.2]
 rw[aj h,gY h]
def oM(a:Um):lX s g=if g<Jb then .ok ZU else .error (-5):=by
 cases h:g<Jb
 .rw[ak h,vh a h]
 rw[aj h];delta lX;rw[aj Ja,aj Ja]
def rq s e(he:0<=e):mQ s e.6=if e<(s.events.9:Int) then .ok e.6 else .error (-5):=by delta mQ;lia
def CJ s e(he:0<=e):oT s e.6=if e<(s.nodes.9:Int) then .ok e.6 else .error (-5):=by delta oT;lia
def rB s e(he:0<=e):(e<QJ->∃x,Qk[e.6]?=Y x/\kQ s e.6=.ok x)/\(¬e<(s.parcels.9:Int)->kQ s e.6=.error (-5)):=by
 show(λh=>?_,λh=>?_)
 .let a:Qk[e.6]?=Y (Qk[e.6]' Ja):=cy _;show(_,a,Cy a)
 delta kQ;ext
abbrev gR z:= -1<=z/\z<=19
abbrev eR(z:JH):=0<=z/\z<=19
abbrev pR(z:JH):=0<=z/\z<=9
abbrev iR(z:JH):=0<=z/\z<=5
abbrev cR(z:JH):=0<=z/\z<=Jk
def tP z:oF 103 z=decide (gR z):=J
def xw z:oF 101 z=decide (eR z):=J
def CK z:oF 102 z=decide (eR z):=J
def CL z:oF 112 z=decide (pR z):=J
def CM z:oF 105 z=decide (iR z):=J
def ad1 z:oF 99 z=decide (cR z):=J
def tQ s z:nB s 103 z=decide (z<Jb):=J
def xy s z:nB s 101 z=decide (z<Jb):=J
def CN s z:nB s 102 z=decide (z<Jb):=J
def CO s z:nB s 112 z=decide (z<QJ):=J
def CP s z:nB s 105 z=decide (z<Jt):=J
def ad2 s z:nB s 99 z=I:=J
def zK(h:¬QS\/¬ZT):xN s g e f=.error (if ¬QS then -3 else -5):=by
 delta xN;rw[OC,OC,OC,show oZ=19 from J];cases a: -1<=g/\g<=19
 .cases he:0<=e/\e<=19
  .cases b:0<=f/\f<=19
   .rw[ak a,ak he,ak b,aj λx=>x (a,he,b),oM a.1];erw[ue,dQ];cases c:g<Jb
    .rw[ak c];rw[rq s e he.1];cases d:e<Jb
     .rw[ak d];rw[rq s f b.1,aj λi=>(h.resolve_left λx=>x (a,he,b)) (c,d,i)]
     rw[aj d]
    rw[aj c]
   rw[ak a,ak he,aj b,ak λx=>b x.2.2];rfl
  rw[ak a,aj he,ak λx=>he x.2.1];rfl
 rw[aj a,ak λx=>a x.1];rfl
def ad3:bV s (5,[g,e,f],(row))=if ¬QS then -3 else if ¬ZT then -5 else 0:=by delta bV;erw[show bK 5=[103,101,102] from J,show dY 5=0 from J,jn,j9,ke,mT,xw,CK,tP,xy,CN,tQ];lia
def ark(h:bV s (5,[g,e,f],(row)) <0):cT s (cq s<|.bounds g e f)=(s,([bV s (5,[g,e,f],(row))])):=by
 rw[ad3]at h⊢;let b:∃K,cq s (.bounds g e f)=(xN s g e f).bind K:=Qq;let(K,b):=b;rw[b];cases a:QS
 .rw[aj λx=>x a]at h⊢;cases c:ZT
  .ext
  rw[zK<|.inr c,aj λx=>x a,ak c];rfl
 rw[zK<|.inl a,ak a,ak a];rfl
def ad4:bV s (6,[g,e,f],(row))=if ¬QS then -3 else if ¬ZT then -5 else 0:=by delta bV;erw[show bK 6=[103,101,102] from J,show dY 6=0 from J,jn,j9,ke,mT,xw,CK,tP,xy,CN,tQ];lia
def arl(h:bV s (6,[g,e,f],(row)) <0):cT s (cq s<|.chain g e f)=(s,([bV s (6,[g,e,f],(row))])):=by
 rw[ad4]at h⊢;let b:∃K,cq s (.chain g e f)=(xN s g e f).bind K:=Qq;let(K,b):=b;rw[b];cases a:QS
 .rw[aj λx=>x a]at h⊢;cases c:ZT
  .ext
  rw[zK<|.inr c,aj λx=>x a,ak c];rfl
 rw[zK<|.inl a,ak a,ak a];rfl
def ad5:bV s (7,[g],(row))=if ¬(gR g) then -3 else if ¬(g<Jb) then -5 else 0:=by delta bV;erw[show bK 7=[103] from J,show dY 7=2 from J,jn,j9,ke,mT,tP,tQ];lia
def arn(h:bV s (7,[g],(row)) <0):cT s (cq s<|.shows g row)=(s,([bV s (7,[g],(row))])):=by
 rw[ad5]at h⊢;let b:∃K:Nat->rR->kW QH,cq s (.shows g row)=((cZ g (-1) 19).bind λd=>(lX s g).bind λe=>K d e):=Qq;let(K,b):=b;rw[b];cases a:gR g;cbv
 .rw[ak λx=>a<|x,gY a];rfl
 rw[aj λx=>x a]at h⊢;rw[ck a.1<|a.2];cases c:g<Jb;cbv
 .rw[ak λx=>c<|x];rw[oM a.1,aj c];rfl
 ext
def ad6:bV s (8,[g,e,f],(row))=if ¬QS then -3 else if ¬ZT then -5 else 0:=by delta bV;erw[show bK 8=[103,101,102] from J,show dY 8=0 from J,jn,j9,ke,mT,xw,CK,tP,xy,CN,tQ];lia
def aro(h:bV s (8,[g,e,f],(row)) <0):cT s (cq s<|.order g e f)=(s,([bV s (8,[g,e,f],(row))])):=by
 rw[ad6]at h⊢;let b:∃K,cq s (.order g e f)=(xN s g e f).bind K:=Qq;let(K,b):=b;rw[b];cases a:QS
 .rw[aj λx=>x a]at h⊢;cases c:ZT
  .ext
  rw[zK<|.inr c,aj λx=>x a,ak c];rfl
 rw[zK<|.inl a,ak a,ak a];rfl
def ad7:bV s (9,[g],(row))=if ¬(gR g) then -3 else if ¬(g<Jb) then -5 else 0:=by delta bV;erw[show bK 9=[103] from J,show dY 9=0 from J,jn,j9,ke,mT,tP,tQ];lia
def arp(h:bV s (9,[g],(row)) <0):cT s (cq s<|.clash g)=(s,([bV s (9,[g],(row))])):=by
 rw[ad7]at h⊢;let b:∃K:Nat->rR->kW QH,cq s (.clash g)=((cZ g (-1) 19).bind λd=>(lX s g).bind λe=>K d e):=Qq;let(K,b):=b;rw[b];cases a:gR g;cbv
 .rw[ak λx=>a<|x,gY a];rfl
 rw[aj λx=>x a]at h⊢;rw[ck a.1<|a.2];cases c:g<Jb;cbv
 .rw[ak λx=>c<|x];rw[oM a.1,aj c];rfl
 ext
def ad8:bV s (11,[g,p,f],(row))=if ¬(gR g/\pR p/\eR f) then -3 else if ¬(g<Jb/\p<QJ/\f<Jb) then -5 else 0:=by delta bV;erw[show bK 11=[103,112,102] from J,show dY 11=0 from J,jn,j9,ke,mT,CK,tP,CL,CN,tQ,CO];lia
def arq(h:bV s (11,[g,p,f],(row)) <0):cT s (cq s<|.life g p f)=(s,([bV s (11,[g,p,f],(row))])):=by
 rw[ad8]at h⊢;let e:∃K:Nat->Nat->Nat->rR->js->Nat->kW QH,cq s (.life g p f)=((cZ g (-1) 19).bind λm=>(cZ p (0) 9).bind λj=>(cZ f (0) 19).bind λk=>(lX s g).bind λn=>(kQ s j).bind λo=>(mQ s k).bind λq=>K m j k n o q):=Qq;let(K,e):=e;rw[e];cases a:gR g;cbv
 .rw[ak λx=>a<|x.1,gY a];rfl
 cases b:pR p;cbv
 .rw[ak λx=>b<|x.2.1,ck a.1 a.2,gY b];rfl
 cases c:eR f;cbv
 .rw[ak λx=>c<|x.2.2,ck a.1 a.2,ck b.1 b.2,gY c];rfl
 rw[aj λx=>x (a,b,c)]at h⊢;rw[ck a.1<|a.2,ck b.1<|b.2,ck c.1<|c.2];cases d:g<Jb;cbv
 .rw[ak λx=>d<|x.1];rw[oM a.1,aj d];rfl
 cases i:p<QJ;cbv
 .rw[ak λx=>i<|x.2.1];erw[dQ];rw[oM a.1,ak d];simp only;rw[(rB s p b.1).2 i];rfl
 cases l:f<Jb;cbv
 .rw[ak λx=>l<|x.2.2];erw[dQ];rw[oM a.1,ak d];simp only;let(t,u,r):=(rB s p b.1).1 i;rw[r];simp only;rw[rq s f c.1,aj l];rfl
 ext
def ad9:bV s (12,[p,i,c],(row))=if ¬(pR p/\iR i/\cR c) then -3 else if ¬(p<QJ/\i<Jt) then -5 else 0:=by delta bV;erw[show bK 12=[112,105,99] from J,show dY 12=0 from J,jn,j9,ke,mT,ad1,CM,CL,ad2,CP,CO];lia
def ars(h:bV s (12,[p,i,c],(row)) <0):cT s (cq s<|.age p i c)=(s,([bV s (12,[p,i,c],(row))])):=by
 rw[ad9]at h⊢;let e:∃K:Nat->Nat->Nat->js->Nat->kW QH,cq s (.age p i c)=((cZ p (0) 9).bind λg=>(cZ i (0) 5).bind λj=>(cZ c (0) Jk).bind λl=>(kQ s g).bind λm=>(oT s j).bind λn=>K g j l m n):=Qq;let(K,e):=e;rw[e];cases a:pR p;cbv
 .rw[ak λx=>a<|x.1,gY a];rfl
 cases b:iR i;cbv
 .rw[ak λx=>b<|x.2.1,ck a.1 a.2,gY b];rfl
 cases d:cR c;cbv
 .rw[ak λx=>d<|x.2.2,ck a.1 a.2,ck b.1 b.2,gY d];rfl
 rw[aj λx=>x (a,b,d)]at h⊢;rw[ck a.1<|a.2,ck b.1<|b.2,ck d.1<|d.2];cases f:p<QJ;cbv
 .rw[ak λx=>f<|x.1];erw[dQ];rw[(rB s p a.1).2 f];rfl
 cases k:i<Jt;cbv
 .rw[ak λx=>k<|x.2];erw[dQ];let(q,r,o):=(rB s p a.1).1 f;rw[o];simp only;rw[CJ s i b.1,aj k];rfl
 ext
def aea:bV s (13,[p,i],(row))=if ¬(pR p/\iR i) then -3 else if ¬(p<QJ/\i<Jt) then -5 else 0:=by delta bV;erw[show bK 13=[112,105] from J,show dY 13=0 from J,jn,j9,ke,mT,CM,CL,CP,CO];lia
def art(h:bV s (13,[p,i],(row)) <0):cT s (cq s<|.over p i)=(s,([bV s (13,[p,i],(row))])):=by
 rw[aea]at h⊢;let c:∃K:Nat->Nat->js->Nat->kW QH,cq s (.over p i)=((cZ p (0) 9).bind λe=>(cZ i (0) 5).bind λf=>(kQ s e).bind λj=>(oT s f).bind λk=>K e f j k):=Qq;let(K,c):=c;rw[c];cases a:pR p;cbv
 .rw[ak λx=>a<|x.1,gY a];rfl
 cases b:iR i;cbv
 .rw[ak λx=>b<|x.2,ck a.1 a.2,gY b];rfl
 rw[aj λx=>x (a,b)]at h⊢;rw[ck a.1<|a.2,ck b.1<|b.2];cases d:p<QJ;cbv
 .rw[ak λx=>d<|x.1];erw[dQ];rw[(rB s p a.1).2 d];rfl
 cases g:i<Jt;cbv
 .rw[ak λx=>g<|x.2];erw[dQ];let(m,n,l):=(rB s p a.1).1 d;rw[l];simp only;rw[CJ s i b.1,aj g];rfl
 ext
def aeb:bV s (14,[p,i],(row))=if ¬(pR p/\iR i) then -3 else if ¬(p<QJ/\i<Jt) then -5 else 0:=by delta bV;erw[show bK 14=[112,105] from J,show dY 14=0 from J,jn,j9,ke,mT,CM,CL,CP,CO];lia
def aru(h:bV s (14,[p,i],(row)) <0):cT s (cq s<|.living p i)=(s,([bV s (14,[p,i],(row))])):=by
 rw[aeb]at h⊢;let c:∃K:Nat->Nat->js->Nat->kW QH,cq s (.living p i)=((cZ p (0) 9).bind λe=>(cZ i (0) 5).bind λf=>(kQ s e).bind λj=>(oT s f).bind λk=>K e f j k):=Qq;let(K,c):=c;rw[c];cases a:pR p;cbv
 .rw[ak λx=>a<|x.1,gY a];rfl
 cases b:iR i;cbv
 .rw[ak λx=>b<|x.2,ck a.1 a.2,gY b];rfl
 rw[aj λx=>x (a,b)]at h⊢;rw[ck a.1<|a.2,ck b.1<|b.2];cases d:p<QJ;cbv
 .rw[ak λx=>d<|x.1];erw[dQ];rw[(rB s p a.1).2 d];rfl
 cases g:i<Jt;cbv
 .rw[ak λx=>g<|x.2];erw[dQ];let(m,n,l):=(rB s p a.1).1 d;rw[l];simp only;rw[CJ s i b.1,aj g];rfl
 ext
def aec:bV s (15,[g],(row))=if ¬(gR g) then -3 else if ¬(g<Jb) then -5 else 0:=by delta bV;erw[show bK 15=[103] from J,show dY 15=0 from J,jn,j9,ke,mT,tP,tQ];lia
def arv(h:bV s (15,[g],(row)) <0):cT s (cq s<|.world g)=(s,([bV s (15,[g],(row))])):=by
 rw[aec]at h⊢;let b:∃K:Nat->rR->kW QH,cq s (.world g)=((cZ g (-1) 19).bind λd=>(lX s g).bind λe=>K d e):=Qq;let(K,b):=b;rw[b];cases a:gR g;cbv
 .rw[ak λx=>a<|x,gY a];rfl
 rw[aj λx=>x a]at h⊢;rw[ck a.1<|a.2];cases c:g<Jb;cbv
 .rw[ak λx=>c<|x];rw[oM a.1,aj c];rfl
 ext
def aed:bV s (16,[g,e,f],(row))=if ¬QS then -3 else if (row.any λc=>decide (c<0)||decide (255<c))=I then -1 else if ¬ZT then -5 else 0:=by delta bV;erw[show bK 16=[103,101,102] from J,show dY 16=1 from J,jn,j9,ke,mT,xw,CK,tP,xy,CN,tQ];lia
def arw(h:bV s (16,[g,e,f],(row)) <0)(k:row.9<=2000):cT s (cq s<|.pinned g e f row)=(s,([bV s (16,[g,e,f],(row))])):=by
 rw[aed]at h⊢;let l:∃K:Nat->Nat->Nat->bU->rR->Nat->Nat->kW QH,cq s (.pinned g e f row)=((cZ g (-1) 19).bind λt=>(cZ e (0) 19).bind λp=>(cZ f (0) 19).bind λq=>(gQ row).bind λu=>(lX s g).bind λv=>(mQ s p).bind λw=>(mQ s q).bind λy=>K t p q u v w y):=Qq;let(K,l):=l;rw[l];cases a:gR g;cbv
 .rw[ak λx=>a<|x.1,gY a];rfl
 cases b:eR e;cbv
 .rw[ak λx=>b<|x.2.1,ck a.1 a.2,gY b];rfl
 cases d:eR f;cbv
 .rw[ak λx=>d<|x.2.2,ck a.1 a.2,ck b.1 b.2,gY d];rfl
 rw[aj λx=>x (a,b,d)]at h⊢;rw[ck a.1<|a.2,ck b.1<|b.2,ck d.1<|d.2];cases m:(row.any λc=>decide (c<0)||decide (255<c))=I
 .rw[ak m];haveI:gQ row=.error (-1):=by delta gQ;rw[GZ m]
  erw[dQ,this];rfl
 rw[aj m]at h⊢;let n:(row.any λc=>decide (c<0)||decide (255<c))=au:=Ja
 cases j:g<Jb;cbv
 .rw[ak λx=>j<|x.1];haveI i:gQ row=.ok (row.map o6):=by delta gQ;rw[GY (zJ n) k]
  erw[dQ,i];rw[oM a.1,aj j];rfl
 cases o:e<Jb;cbv
 .rw[ak λx=>o<|x.2.1];haveI i:gQ row=.ok (row.map o6):=by delta gQ;rw[GY (zJ n) k]
  erw[dQ,i];rw[oM a.1,ak j];simp only;rw[rq s e b.1,aj o];rfl
 cases r:f<Jb;cbv
 .rw[ak λx=>r<|x.2.2];haveI i:gQ row=.ok (row.map o6):=by delta gQ;rw[GY (zJ n) k]
  erw[dQ,i];rw[oM a.1,ak j];simp only;rw[rq s e b.1,ak o];simp only;rw[rq s f d.1,aj r];rfl
 ext
def aee:bV s (17,[g,e],(row))=if ¬(gR g/\eR e) then -3 else if ¬(g<Jb/\e<Jb) then -5 else 0:=by delta bV;erw[show bK 17=[103,101] from J,show dY 17=0 from J,jn,j9,ke,mT,xw,tP,xy,tQ];lia
def arx(h:bV s (17,[g,e],(row)) <0):cT s (cq s<|.clock g e)=(s,([bV s (17,[g,e],(row))])):=by
 rw[aee]at h⊢;let c:∃K:Nat->Nat->rR->Nat->kW QH,cq s (.clock g e)=((cZ g (-1) 19).bind λj=>(cZ e (0) 19).bind λf=>(lX s g).bind λk=>(mQ s f).bind λl=>K j f k l):=Qq;let(K,c):=c;rw[c];cases a:gR g;cbv
 .rw[ak λx=>a<|x.1,gY a];rfl
 cases b:eR e;cbv
 .rw[ak λx=>b<|x.2,ck a.1 a.2,gY b];rfl
 rw[aj λx=>x (a,b)]at h⊢;rw[ck a.1<|a.2,ck b.1<|b.2];cases d:g<Jb;cbv
 .rw[ak λx=>d<|x.1];rw[oM a.1,aj d];rfl
 cases i:e<Jb;cbv
 .rw[ak λx=>i<|x.2];erw[dQ];rw[oM a.1,ak d];simp only;rw[rq s e b.1,aj i];rfl
 ext
def aef:bV s (18,[e],(row))=if ¬(eR e) then -3 else if ¬(e<Jb) then -5 else 0:=by delta bV;erw[show bK 18=[101] from J,show dY 18=0 from J,jn,j9,ke,mT,xw,xy];lia
def ary(h:bV s (18,[e],(row)) <0):cT s (cq s<|.past e)=(s,([bV s (18,[e],(row))])):=by
 rw[aef]at h⊢;let b:∃K:Nat->Nat->kW QH,cq s (.past e)=((cZ e (0) 19).bind λc=>(mQ s c).bind λf=>K c f):=Qq;let(K,b):=b;rw[b];cases a:eR e;cbv
 .rw[ak λx=>a<|x,gY a];rfl
 rw[aj λx=>x a]at h⊢;rw[ck a.1<|a.2];cases d:e<Jb;cbv
 .rw[ak λx=>d<|x];erw[dQ];rw[rq s e a.1,aj d];rfl
 ext
def aeg:bV s (20,[e,i,c],(row))=if ¬(eR e/\iR i/\cR c) then -3 else if ¬(e<Jb/\i<Jt) then -5 else 0:=by delta bV;erw[show bK 20=[101,105,99] from J,show dY 20=0 from J,jn,j9,ke,mT,ad1,xw,CM,ad2,xy,CP];lia
def arz(h:bV s (20,[e,i,c],(row)) <0):cT s (cq s<|.could e i c)=(s,([bV s (20,[e,i,c],(row))])):=by
 rw[aeg]at h⊢;let f:∃K:Nat->Nat->Nat->Nat->Nat->kW QH,cq s (.could e i c)=((cZ e (0) 19).bind λj=>(cZ i (0) 5).bind λk=>(cZ c (0) Jk).bind λm=>(mQ s j).bind λn=>(oT s k).bind λo=>K j k m n o):=Qq;let(K,f):=f;rw[f];cases a:eR e;cbv
 .rw[ak λx=>a<|x.1,gY a];rfl
 cases b:iR i;cbv
 .rw[ak λx=>b<|x.2.1,ck a.1 a.2,gY b];rfl
 cases d:cR c;cbv
 .rw[ak λx=>d<|x.2.2,ck a.1 a.2,ck b.1 b.2,gY d];rfl
 rw[aj λx=>x (a,b,d)]at h⊢;rw[ck a.1<|a.2,ck b.1<|b.2,ck d.1<|d.2];cases g:e<Jb;cbv
 .rw[ak λx=>g<|x.1];erw[dQ];rw[rq s e a.1,aj g];rfl
 cases l:i<Jt;cbv
 .rw[ak λx=>l<|x.2];erw[dQ];rw[rq s e a.1,ak g];simp only;rw[CJ s i b.1,aj l];rfl
 ext
def aeh:bV s (21,[p,i],(row))=if ¬(pR p/\iR i) then -3 else if ¬(p<QJ/\i<Jt) then -5 else 0:=by delta bV;erw[show bK 21=[112,105] from J,show dY 21=0 from J,jn,j9,ke,mT,CM,CL,CP,CO];lia
def arA(h:bV s (21,[p,i],(row)) <0):cT s (cq s<|.learned p i)=(s,([bV s (21,[p,i],(row))])):=by
 rw[aeh]at h⊢;let d:∃K:Nat->Nat->js->Nat->kW QH,cq s (.learned p i)=((cZ p (0) 9).bind λf=>(cZ i (0) 5).bind λg=>(kQ s f).bind λj=>(oT s g).bind λk=>K f g j k):=Qq;let(K,d):=d;rw[d];cases a:pR p;cbv
 .rw[ak λx=>a<|x.1,gY a];rfl
 cases b:iR i;cbv
 .rw[ak λx=>b<|x.2,ck a.1 a.2,gY b];rfl
 rw[aj λx=>x (a,b)]at h⊢;rw[ck a.1<|a.2,ck b.1<|b.2];cases c:p<QJ;cbv
 .rw[ak λx=>c<|x.1];erw[dQ];rw[(rB s p a.1).2 c];rfl
 cases e:i<Jt;cbv
 .rw[ak λx=>e<|x.2];erw[dQ];let(m,n,l):=(rB s p a.1).1 c;rw[l];simp only;rw[CJ s i b.1,aj e];rfl
 rw[aj λx=>x (c,e)]at h;cases h
def aei(b:bK a=[])(d:dY a=1):bV s (a,[],(row))=if (row.any λc=>decide (c<0)||decide (255<c))=I then -1 else 0:=by delta bV;ext
def OD(d:bK a=[])(e:dY a=1)(h:bV s (a,[],(row)) <0):(row.any λc=>decide (c<0)||decide (255<c))=I/\bV s (a,[],(row))= -1:=by
 rw[aei d e]at h⊢;cases b:(row.any λc=>decide (c<0)||decide (255<c))=I
 .rw[ak b];show(b,J)
 ext
def arB(h:bV s (1,[],(row)) <0):f9 s (d9 (1,[],(row)))=(s,([bV s (1,[],(row))])):=by
 let(a,b):=OD J J h;rw[b,d_ J];let:gQ row=.error (-1):=by delta gQ;rw[GZ a]
 obtain⟨K,c⟩:∃K:bU->kW QH,cq s (.tell row)=(gQ row).bind K:=Qq;rw[c,this];rfl
def arC(h:bV s (2,[],(row)) <0):f9 s (d9 (2,[],(row)))=(s,([bV s (2,[],(row))])):=by
 let(a,b):=OD J J h;rw[b,d_ J];let:gQ row=.error (-1):=by delta gQ;rw[GZ a]
 obtain⟨K,c⟩:∃K:bU->kW QH,cq s (.read row)=(gQ row).bind K:=Qq;rw[c,this];rfl
def arD(h:bV s (3,[],(row)) <0):f9 s (d9 (3,[],(row)))=(s,([bV s (3,[],(row))])):=by
 let(a,b):=OD J J h;rw[b,d_ J];haveI:gQ row=.error (-1):=by delta gQ;rw[GZ a]
 obtain⟨K,c⟩:∃K:bU->kW QH,cq s (.look row)=(gQ row).bind K:=Qq;rw[c,this];rfl
def G1{b:bU}(a:∀c∈b,c<=255)(d:b.9<=2000):gQ Qj=.ok b:=by
 haveI h:∀c∈VbdtCore.ints b,0<=c/\c<=255:=by
  intro c e;let(z,f,rfl):=eJ.1 e;let:=a z f;lia
 delta gQ;rw[GY h (by delta VbdtCore.ints;rw[bz];show d)];haveI:(VbdtCore.ints b).map o6=b:=by
  delta VbdtCore.ints;ext;conv=>rhs;rw[<-HE b]
  rfl
 rw[this]
def OE{b:bU}(a:∀c∈b,c<=255)(d:b.9<=2000):f9 s (d9 (1,[],(VbdtCore.ints b)))=tM b s:=by
 rw[d_ J];let e:cq s (.tell Qj)=(gQ Qj).bind λb=>match zV b with
   |.error p=>.error<|-WN-p
   |.ok f=>(eh s f).bind λu=>.ok (u,([(u.log.9:Int)])):=J
 rw[e,G1 a d];delta tM;erw[dQ];cases zV b with
 |error p=>rfl
 |ok f=>
  simp only;cases eh s f<;>rfl
def OF{b:bU}(a:∀c∈b,c<=255)(d:b.9<=2000):f9 s (d9 (2,[],(VbdtCore.ints b)))=tN b s:=by
 rw[d_ J];let e:cq s (.read Qj)=(gQ Qj).bind λb=>match rK b with
   |.place p=>.error<|-WN-p
   |.line i f=>.error<|-100000-i
   |.good u=>.ok (u,([(u.log.9:Int)])):=J
 rw[e,G1 a d];delta tN;erw[dQ];cases rK b<;>rfl
def OG{b:bU}(a:∀c∈b,c<=255)(d:b.9<=2000):f9 s (d9 (3,[],(VbdtCore.ints b)))=tO b s:=by
 rw[d_ J];let f:cq s (.look Qj)=(gQ Qj).bind λb=>match rK b with
   |.place p=>.ok (s,([1,(p:JH)]))
   |.line i e=>.ok (s,([2,i, -e]))
   |.good u=>.ok (s,([0,u.log.9])):=J
 rw[f,G1 a d];delta tO;erw[dQ];cases rK b<;>rfl
def OH s:f9 s (d9 (0,[],([])))=(eW,([0])):=J
def arE s:f9 s (d9 (4,[],([])))=adY s:=J
def OI(a:J6)(h:iq s m n row o):f9 s (d9 (m,n,(row)))=(s,(o)):=by
 cases h with
 |bounds c d he j=>rw[d_ J];show apg a c d he j
 |chain c d he j=>rw[d_ J];show apx a c d he j
 |shows c d=>rw[d_ J];show apm a c d
 |order c d he j=>rw[d_ J];show api a c d he j
 |clash c d=>rw[d_ J];show apE a c d
 |liars=>rw[d_ J];show apF a
 |life c d i j=>rw[d_ J];show apj a c d i j
 |age i k l=>rw[d_ J];show aqD a i k l
 |over i k=>rw[d_ J];show aqL a i k
 |living i k=>rw[d_ J];show aqP a i k
 |world c d=>rw[d_ J];show apX a c d
 |@pinned g e f b c d he j p q=>
  let:zT Qj=Y b:=by
   let:=G1 p q;delta gQ at this;induction h:zT Qj<;>ext
  show apY a c d he j this (aqS b) λx i=>aqT i
 |clock c d he=>rw[d_ J];show ap3 a c d he
 |past he=>rw[d_ J];show ap4 a he
 |needless=>rw[d_ J];show ap9 a
 |could he k l=>rw[d_ J];show aqp a he k l
 |learned i k=>rw[d_ J];show aqf a i k
 |told=>rw[d_ J];show ap5 s
def OJ(cx:rn (q,j,(row)))(w:5<=q)(a:¬bV s (q,j,(row)) <0):∃y,iq s q j row y:=by
 let(t,b,A,u):=cx;simp only at t b A u;match q,w,t with
 |5,E,F=>
  let b:j.9=3:=b;match j,b with
  |[g,e,f],E=>
   rw[ad3]at a;cases d:QS;cbv
   .rw[ak d]at a;show absurd Je a
   rw[aj λx=>x d]at a;cases k:ZT;cbv
   .rw[ak k]at a;show absurd Je a
   obtain⟨e,rfl⟩:∃n:Nat,e=n:=YA;obtain⟨f,rfl⟩:∃n:Nat,f=n:=(f.6,Ja);show(_,.bounds Ja Ja Ja Ja)
 |6,E,F=>
  let b:j.9=3:=b;match j,b with
  |[g,e,f],E=>
   rw[ad4]at a;cases d:QS;cbv
   .rw[ak d]at a;show absurd Je a
   rw[aj λx=>x d]at a;cases k:ZT;cbv
   .rw[ak k]at a;show absurd Je a
   obtain⟨e,rfl⟩:∃n:Nat,e=n:=YA;obtain⟨f,rfl⟩:∃n:Nat,f=n:=(f.6,Ja);show(_,.chain Ja Ja Ja Ja)
 |7,E,F=>
  let b:j.9=1:=b;match j,b with
  |[g],E=>
   rw[ad5]at a;cases d:(gR g);cbv
   .rw[ak d]at a;show absurd Je a
   rw[aj λx=>x d]at a;cases k:Jz;cbv
   .rw[ak k]at a;show absurd Je a
   show(_,.shows Ja Ja)
 |8,E,F=>
  let b:j.9=3:=b;match j,b with
  |[g,e,f],E=>
   rw[ad6]at a;cases d:QS;cbv
   .rw[ak d]at a;show absurd Je a
   rw[aj λx=>x d]at a;cases k:(g<(s.events.9:Int)/\e<(s.events.9:Int)/\f<(s.events.9:Int));cbv
   .rw[ak k]at a;show absurd Je a
   obtain⟨e,rfl⟩:∃n:Nat,e=(n:JH):=YA;obtain⟨f,rfl⟩:∃n:Nat,f=(n:JH):=(f.6,Ja);show(_,.order Ja Ja Ja Ja)
 |9,E,F=>
  let b:j.9=1:=b;match j,b with
  |[g],E=>
   rw[ad7]at a;cases d:(gR g);cbv
   .rw[ak d]at a;show absurd Je a
   rw[aj λx=>x d]at a;cases k:Jz;cbv
   .rw[ak k]at a;show absurd Je a
   show(_,.clash Ja Ja)
 |10,E,F=>
  let o:j=[]:=nI.1 b;subst o;show(_,.liars)
 |11,E,F=>
  let b:j.9=3:=b;match j,b with
  |[g,p,f],E=>
   rw[ad8]at a;cases d:(gR g/\pR p/\eR f);cbv
   .rw[ak d]at a;show absurd Je a
   rw[aj λx=>x d]at a;cases k:(g<(s.events.9:Int)/\p<(s.parcels.9:Int)/\f<(s.events.9:Int));cbv
   .rw[ak k]at a;show absurd Je a
   obtain⟨p,rfl⟩:∃n:Nat,p=(n:JH):=(p.6,Ja);obtain⟨f,rfl⟩:∃n:Nat,f=(n:JH):=(f.6,Ja);obtain⟨l,m⟩:∃l,Qk[p]?=Y l:=J8;show(_,.life Ja Ja m Ja)
 |12,E,F=>
  let b:j.9=3:=b;match j,b with
  |[p,i,c],E=>
   rw[ad9]at a;cases d:(pR p/\iR i/\cR c);cbv
   .rw[ak d]at a;show absurd Je a
   rw[aj λx=>x d]at a;cases k:UY;cbv
   .rw[ak k]at a;show absurd Je a
   obtain⟨p,rfl⟩:∃n:Nat,p=(n:JH):=(p.6,Ja);obtain⟨i,rfl⟩:∃n:Nat,i=(n:JH):=(i.6,Ja);obtain⟨c,rfl⟩:∃n:Nat,c=(n:JH):=(c.6,Ja);obtain⟨l,m⟩:∃l,Qk[p]?=Y l:=J8;show(_,.age m Ja Ja)
 |13,E,F=>
  let b:j.9=2:=b;match j,b with
  |[p,i],E=>
   rw[aea]at a;cases d:(pR p/\iR i);cbv
   .rw[ak d]at a;show absurd Je a
   rw[aj λx=>x d]at a;cases k:UY;cbv
   .rw[ak k]at a;show absurd Je a
   obtain⟨p,rfl⟩:∃n:Nat,p=(n:JH):=(p.6,Ja);obtain⟨i,rfl⟩:∃n:Nat,i=(n:JH):=(i.6,Ja);obtain⟨l,m⟩:∃l,Qk[p]?=Y l:=J8;show(_,.over m Ja)
 |14,E,F=>
  let b:j.9=2:=b;match j,b with
  |[p,i],E=>
   rw[aeb]at a;cases d:(pR p/\iR i);cbv
   .rw[ak d]at a;show absurd Je a
   rw[aj λx=>x d]at a;cases k:UY;cbv
   .rw[ak k]at a;show absurd Je a
   obtain⟨p,rfl⟩:∃n:Nat,p=(n:JH):=(p.6,Ja);obtain⟨i,rfl⟩:∃n:Nat,i=(n:JH):=(i.6,Ja);obtain⟨l,m⟩:∃l,Qk[p]?=Y l:=J8;show(_,.living m Ja)
 |15,E,F=>
  let b:j.9=1:=b;match j,b with
  |[g],E=>
   rw[aec]at a;cases d:(gR g);cbv
   .rw[ak d]at a;show absurd Je a
   rw[aj λx=>x d]at a;cases k:Jz;cbv
   .rw[ak k]at a;show absurd Je a
   show(_,.world Ja Ja)
 |16,E,F=>
  let b:j.9=3:=b;match j,b with
  |[g,e,f],E=>
   rw[aed]at a;cases d:QS;cbv
   .rw[ak d]at a;show absurd Je a
   rw[aj λx=>x d]at a;cases r:(row.any λc=>decide (c<0)||decide (255<c))=I
   .rw[ak r]at a;show absurd Je a
   rw[aj r]at a;let B:(row.any λc=>decide (c<0)||decide (255<c))=au:=by exists r
   cases k:(g<(s.events.9:Int)/\e<(s.events.9:Int)/\f<(s.events.9:Int));cbv
   .rw[ak k]at a;show absurd Je a
   obtain⟨e,rfl⟩:∃n:Nat,e=(n:JH):=YA;obtain⟨f,rfl⟩:∃n:Nat,f=(n:JH):=(f.6,Ja);let v:=zJ B;rw[ad0 v];show(_,.pinned Ja Ja Ja Ja (λc C=>?_) (by rw[bz];show u));let(z,D,rfl):=eJ.1 C;let:=v z D;lia
 |17,E,F=>
  let b:j.9=2:=b;match j,b with
  |[g,e],E=>
   rw[aee]at a;cases d:(gR g/\eR e);cbv
   .rw[ak d]at a;show absurd Je a
   rw[aj λx=>x d]at a;cases k:(g<(s.events.9:Int)/\e<(s.events.9:Int));cbv
   .rw[ak k]at a;show absurd Je a
   obtain⟨e,rfl⟩:∃n:Nat,e=(n:JH):=YA;show(_,.clock Ja Ja Ja)
 |18,E,F=>
  let b:j.9=1:=b;match j,b with
  |[e],E=>
   rw[aef]at a;cases d:(eR e);cbv
   .rw[ak d]at a;show absurd Je a
   rw[aj λx=>x d]at a;cases k:(e<(s.events.9:Int));cbv
   .rw[ak k]at a;show absurd Je a
   obtain⟨e,rfl⟩:∃n:Nat,e=(n:JH):=YA;show(_,.past Ja)
 |19,E,F=>
  let o:j=[]:=nI.1 b;subst o;show(_,.needless)
 |20,E,F=>
  let b:j.9=3:=b;match j,b with
  |[e,i,c],E=>
   rw[aeg]at a;cases d:(eR e/\iR i/\cR c);cbv
   .rw[ak d]at a;show absurd Je a
   rw[aj λx=>x d]at a;cases k:(e<(s.events.9:Int)/\i<(s.nodes.9:Int));cbv
   .rw[ak k]at a;show absurd Je a
   obtain⟨e,rfl⟩:∃n:Nat,e=(n:JH):=YA;obtain⟨i,rfl⟩:∃n:Nat,i=(n:JH):=(i.6,Ja);obtain⟨c,rfl⟩:∃n:Nat,c=(n:JH):=(c.6,Ja);show(_,.could Ja Ja Ja)
 |21,E,F=>
  let b:j.9=2:=b;match j,b with
  |[p,i],E=>
   rw[aeh]at a;cases d:(pR p/\iR i);cbv
   .rw[ak d]at a;show absurd Je a
   rw[aj λx=>x d]at a;cases k:UY;cbv
   .rw[ak k]at a;show absurd Je a
   obtain⟨p,rfl⟩:∃n:Nat,p=(n:JH):=(p.6,Ja);obtain⟨i,rfl⟩:∃n:Nat,i=(n:JH):=(i.6,Ja);obtain⟨l,m⟩:∃l,Qk[p]?=Y l:=J8;show(_,.learned m Ja)
 |22,E,F=>
  let o:j=[]:=nI.1 b;subst o;show(_,.told)
 |n+23,E,h=>show absurd h Ja
def OL(cx:rn (j,b,(row)))(h:bV s (j,b,(row)) <0):f9 s (d9 (j,b,(row)))=(s,([bV s (j,b,(row))])):=by
 let(l,a,o,m):=cx;ext;match j,l with
 |0,q=>
  let d:=nI.1 a;show absurd h (by change ¬(0<0);decide)
 |1,q=>
  let d:=nI.1 a;subst d;show arB h
 |2,q=>
  let d:b=[]:=nI.1 a;subst d;show arC h
 |3,q=>
  let d:b=[]:=nI.1 a;subst d;show arD h
 |4,q=>
  let d:b=[]:=nI.1 a;subst d;show absurd h (by change ¬((0:Int) <0);decide)
 |5,q=>
  let a:b.9=3:=a;match b,a with
  |[g,e,f],q=>
   rw[d_ (k:=.bounds g e f) J];show ark h
 |6,q=>
  let a:b.9=3:=a;match b,a with
  |[g,e,f],q=>
   rw[d_ (k:=.chain g e f) J];show arl h
 |7,q=>
  let a:b.9=1:=a;match b,a with
  |[g],q=>
   rw[d_ (k:=.shows g row) J];show arn h
 |8,q=>
  let a:b.9=3:=a;match b,a with
  |[g,e,f],q=>
   rw[d_ (k:=.order g e f) J];show aro h
 |9,q=>
  let a:b.9=1:=a;match b,a with
  |[g],q=>
   rw[d_ (k:=.clash g) J];show arp h
 |10,q=>
  let d:b=[]:=nI.1 a;subst d;show absurd h (by change ¬((0:Int) <0);decide)
 |11,q=>
  let a:b.9=3:=a;match b,a with
  |[g,p,f],q=>
   rw[d_ (k:=.life g p f) J];show arq h
 |12,q=>
  let a:b.9=3:=a;match b,a with
  |[p,i,c],q=>
   rw[d_ (k:=.age p i c) J];show ars h
 |13,q=>
  let a:b.9=2:=a;match b,a with
  |[p,i],q=>
   rw[d_ (k:=.over p i) J];show art h
 |14,q=>
  let a:b.9=2:=a;match b,a with
  |[p,i],q=>
   rw[d_ (k:=.living p i) J];show aru h
 |15,q=>
  let a:b.9=1:=a;match b,a with
  |[g],q=>
   rw[d_ (k:=.world g) J];show arv h
 |16,q=>
  let a:b.9=3:=a;match b,a with
  |[g,e,f],q=>
   rw[d_ (k:=.pinned g e f row) J];show arw h m
 |17,q=>
  let a:b.9=2:=a;match b,a with
  |[g,e],q=>
   rw[d_ (k:=.clock g e) J];show arx h
 |18,q=>
  let a:b.9=1:=a;match b,a with
  |[e],q=>
   rw[d_ (k:=.past e) J];show ary h
 |19,q=>
  let d:b=[]:=nI.1 a;subst d;show absurd h (by change ¬((0:Int) <0);decide)
 |20,q=>
  let a:b.9=3:=a;match b,a with
  |[e,i,c],q=>
   rw[d_ (k:=.could e i c) J];show arz h
 |21,q=>
  let a:b.9=2:=a;match b,a with
  |[p,i],q=>
   rw[d_ (k:=.learned p i) J];show arA h
 |22,q=>
  let d:b=[]:=nI.1 a;subst d;show absurd h (by change ¬((0:Int) <0);decide)
 |n+23,h=>show absurd h Ja
def aej l:(tY l).9=l.9:=by delta tY;simp
def G2 l:(VbdtCore.ints l).9=l.9:=by delta VbdtCore.ints;simp
def G3 p n:((aQ n).filter p).9<=n:=by let:=xC p<|aQ n;rwa [C0]at this
def G4 s g:=(sX s g).1
def arF(a:J6){i c:JD}(g:Qk[i]?=Y x)(d:Wy)(j:c<=Jk):(u7 s x k c).9<=150000:=by
 let(l,b):=y4 a;delta u7;split
 .simp
 rename_i h;split
 .simp
 let(e,f):=abq a (x:=x) (c:=c) d Ja Ja;let m:=oA e b;let n:=oA f b;ext;lia
def arG(d:J6)(h:iq s P Q row B):B.9<=150000:=by
 let R:=d.dr;let(C,o):=y4 d;cases h with
 |@bounds g e f _ j m he p=>
  delta y8;split
  .simp
  let:=oA ((LB.neg<|oC d g WZ J5).lI y6) o;let:=oA ((oC d g J5 WZ).lI y6) o;grind
 |@chain g e f _ j m he p=>
  delta y9;split
  .simp
  let:=MD J0 J5 WZ;rw[G4]at this;rw[gm,aej];lia
 |@shows g _ j m=>
  delta wX;split
  .rename_i w;delta sZ at w;rw[jo,oN]at w;haveI lI:sR (za J0 row):=LB.lI (MH d g row<|row.9-1) (by
    let:(row.9-1)*2^310<=40*2^310:=f7 JE JR;show fP this Je)
   let:=oA lI o;rw[gm];lia
  simp
 |@order g e f _ j m he p=>delta y_;split<;>simp
 |@clash g _ j m=>
  delta wY;split
  .let:=MI J0;rw[G4]at this;rw[gm,aej];lia
  simp
 |liars=>
  delta wZ;cases e:(qf Jt).find? λl=> !s_ s l with
  |none=>simp
  |some l=>
   let:=MK<|G8 e;let:=d.n6;rw[gm,G2];lia
 |@life g i f x _ j m q p=>delta w6;split<;>simp
 |@age i k c x _ q r D=>show arF d q r D
 |over q r=>delta qV;split;simp;split<;>simp
 |living q r=>delta qW;split;simp;split<;>simp
 |@world g _ j m=>
  delta w9;split
  .simp
  let y:(cM s g).9=s.events.9:=c6 s g;let:=F4 (kn:=ZP) Ja (MR d g) (MS d).2;rw[gm];lia
 |@pinned g e f b j m he p S T=>
  delta w_;cases E:jh b with
  |none=>simp only;split<;>simp
  |some x=>
   let(n,t):=x;let(F,X,H):=abf E;let y:(cM s g).9=s.events.9:=c6 s g;let(C,o):=fV d;haveI L:aM s*t<2^1300:=by
    let:aM s*t<=2^240*2^1000:=f7 (mU o) Ja;show fP this Je
   let:=F4 (kn:=ZP) (M:=kF s g e f (n,(t))) Ja (MU d g e f F H) L;simp only;split
   .simp
   split
   .simp
   rw[gm];lia
 |@clock g a _ j m z=>
  delta xa;split
  .simp
  rename_i h;let y:(cM s g).9=s.events.9:=c6 s g;haveI N:kP ZP (a+1)=I:=by
   cases e:kP ZP (a+1) with
   |true=>rfl
   |false=>
    exfalso;apply h;delta dA mq;rw[ak<|by simp[e]];decide
  let A:=(MW d z).2;delta zb;let:=yW (MX d z N (MV d (λu v a e=>oC d g u v a e) (n:=(cM s g).9) Ja) (by rw[lQ];show A)) (fP A Je:fN s a Qe <2^1900);rw[gm];omega
 |@past e _ he=>
  delta B5;rw[gm,G2];let:=G3 (λx=>(iU s e).getD x au) Jb;lia
 |needless=>
  delta xb;split
  .simp
  rw[gm,cE,G2,G2];delta zc F6;let:=G3 (λi=>decide<|aE QB=aE Ui) Wr;let:=G3 (λi=>decide<|aE (jF s UJ<|s.marks.eraseIdx i)=aE Ui) UU;let:=d.mm;let:=d.sI;lia
 |could=>delta xf;split;simp;split<;>simp
 |learned=>delta xg;split<;>simp
 |told=>delta B6;simp[VbdtCore.ints]
def arH(a:J6)(c:kK s) b:aV (tM b s).1/\kK (tM b s).1/\(tM b s).2.9<=150000:=by
 delta tM;let(h,i):=adL b;cases d:sD b with
 |error f=>rw[h f d];show(a,c,Jc)
 |ok y=>
  let(j,k):=y;let(x,l,o,p,q,r,m,n):=i j k d;rw[l];simp only;cases g:eh s x with|error e=>show(a,c,Jc)|ok u=>show(adP a m g,adR c n g,Jc)
theorem aek:∀{L fs},vB L fs->∀f∈fs,sJ f/\(jq f).9<=200
 |_,_,.nil=>λf a=>by cases a
 |_,_,.cons b c=>by
  let(g,h,i,d,e):=b;intro f a;rcases fQ.1 a with rfl|a
  .show(d,e)
  show aek c f a
def arI(d:J6)(e:kK s) b:aV (tN b s).1/\kK (tN b s).1/\(tN b s).2.9<=150000:=by
 let(i,j):=OA b;delta tN;cases g:ow b with
 |error f=>rw[i f g];show(d,e,Jc)
 |ok L=>
  let(fs,k,l):=j L g;rw[l];let(a,c):=adS fs eW CG (λf m=>by cases m)<|aek k;cases h:(fY eW fs).2=0
  .rw[ak h];show(a,c,Jc)
  rw[aj h];show(d,e,Jc)
def arJ(a:J6)(c:kK s) b:aV (tO b s).1/\kK (tO b s).1/\(tO b s).2.9<=150000:=by delta tO;show(a,c,?_);cases rK b<;>simp
def arK{row:Jw}(h:∀c∈row,0<=c/\c<=255):∀c∈row.map o6,c<=255:=by ext
def tR{s:bX}{a:JD}{row:Jw}(d:bK a=[])(f:dY a=1)(h:¬bV s (a,[],(row)) <0):row=VbdtCore.ints (row.map o6)/\∀c∈row.map o6,c<=255:=by
 rw[aei d f]at h;haveI b:(row.any λc=>decide (c<0)||decide (255<c))=au:=by
  cases e:row.any λc=>decide (c<0)||decide (255<c) with|false=>rfl|true=>rw[e]at h;show absurd Je h
 show(ad0<|zJ b,arK<|zJ b)
def jN{x:Jw}(h:x.9=n)(a:n=0):x=[]:=asd Ja
def ael(a:J6)(b:kK s)(cx:rn x):aV (f9 s<|d9 x).1/\kK (f9 s<|d9 x).1/\(f9 s<|d9 x).2.9<=150000:=by
 let(j,m,row):=x;cases h:bV s (j,m,(row)) <0
 .rw[OL cx h];show(a,b,Jc)
 cases g:5<=j
 .let(q,l):=OJ cx g h;rw[OI a l];show(a,b,arG a l)
 let(o,c,k,i):=cx;simp only at o c k i;match j,g with
 |0,r=>
  let rfl:=jN c J;let rfl:=k J;rw[OH];show(CG,(λf p=>by cases p),Jc)
 |1,r=>
  let rfl:=jN c J;let(e,d):=tR J J h;rw[e,OE d<|by exists i];show arH a b _
 |2,r=>
  let rfl:=jN c J;let(e,d):=tR J J h;rw[e,OF d<|by exists i];show arI a b _
 |3,r=>
  let rfl:=jN c J;let(e,d):=tR J J h;rw[e,OG d<|by exists i];show arJ a b _
 |4,r=>
  let rfl:=jN c J;let rfl:=k J;show(a,b,?_);let:=adZ b;let:=a.LQ;change (oK s.log).9<=_
  lia
 |n+5,g=>show absurd (Nat.le_add_left 5 n) g
def arL(e:Jn)(m:Uo)(n:Ud):aK g 15 182 (Gk Jj A Tb' 12 15):=by show aK.rd e 2 [1,0,0,0] fz (aH<|qF g 14 (ah JN (tC<|.ref A.KA)<|ah Q4 QF<|tC<|.int<|12)<|U Ji<|U Z5 aa) ?_;intro vs H Q v (S,t,s,c,f,rw,w,x,row,y,rfl,l,T,h,((z,a),i,B),ask,C,D,k);let(o,f1,f2,j,p,q,r):=e.T8;cases ask with|age b d u=>show(a,j H,J,o,_,_,J,((anE e).mono Jc).at p,a,J,S,t,s,f,_,_,_,_,J,T,h,i,b,d,u,k)|over b d=>show(a,j H,J,f1,_,_,J,m.at q,a,J,S,t,s,f,_,_,_,J,l,T,h,i,b,d,k)|living b d=>show(a,j H,J,f2,_,_,J,n.at r,a,J,S,t,s,f,_,_,_,J,l,T,h,i,b,d,k)|_=>lia
inductive aem(K:bH)(A:Ad)(T:Tb)(vs:Ju)(H:Hp)(Q:VK):Prop|mk(S:_)(b:_)(t:_)(s:_)(c:_)(x:_)(d:vs=[.ref b,.ref c])(e:qS T S)(f:UP)(g:p7 K A S H b t s)(h:J6)(i:kK s)(j:oG A S c x)(k:rn x)(l:∀p t' a,az S a->p7 K A S a b t' (f9 s (d9 x)).1->S p=O->a p=Y (.lst (bJ (f9 s (d9 x)).2))->Q JS a):aem K A T vs H Q
def arM(d:Jn)(Fs:Uc)(Fo:Uo)(Fl:Ud):bI g 16 "answer_call" ["lives","call"] (aem Jj A Tb'):=by
 show bI.of (d.f 120) Xa akr (aks d (aoR (Tb':=Tb') d) (aoQ (Tb':=Tb') d) (arL d Fo Fl) (aoP d Fs)<|aoX d) ?_;intro vs H Q i (S,lv,t,s,c,(a,l,row),rfl,D,ss,L,n,ae,(v,rw,C),cx,k);let(f0,f1,f2,f3,f4,tt,m0,m1,m2,m3,m4):=d.T_;let((ag,ac),T,fr):=id L;let C1:=C.to ss;let((dx,hc),hw,hr):=id C1;simp only at hc hw hr;show(ac,S,t,s,c,v,rw,(a,l,(row)),J,T,C1,cx.nb,λH1 o=>?_);let j:=ss.trans o;let L1:=L.to o;let E:=T.to o;let q:=o _ _ hc;let F:=o _ _ ac;show aT J4 λh=>?_
 .let h:bV s (a,l,(row)) <0:=WI;rw[OL cx h]at k;show λz hz=>k z t _ (j.trans<|aG hz) (L1.to<|aG hz) (j.free hz) aB
 let h:=Zj
 show(q,.inr<|tt H1,aT (λm=>?_) λm=>?_)
 .let m:(a:JH) <5:=cV m;let go:∀{f:ax}{b:bU}{M:bX->bX×List Int},jw [V.ref f0,.ref f1,.ref f2,.ref f3,.ref f4] a=Y J7->qC g 15 f ["lives","text"] (xu Jj A b M)->row=VbdtCore.ints b->f9 s (d9 (a,l,(row)))=M s->Xb g A Yy [Y<|V.ref lv,Y Za,Y<|V.int<|bV s (a,l,(row))] H1:=by
   intro f b M e1 e2 e3 e4;rw[e4]at k;show(q,tt H1,e1,f,_,_,J,e2,q,J,S,lv,t,s,rw,J,j,L1,n,ae,?_,k);rw[lB,<-e3];show C.rw
  let(af,u,ab,N):=cx;simp only at af u ab N;let hn:a=0\/a=1\/a=2\/a=3\/a=4:=JE
  rcases hn with rfl|rfl|rfl|rfl|rfl
  .let rfl:=jN u J;let rfl:=ab J;show go J (((arc d []).mono Je).at m0) J<|OH s
  .let rfl:=jN u J;let(e,w):=tR J J h;let i:(row.map o6).9<=2000:=by exists N
   show go J (((ard d i).mono Je).at m1) e<|(e8 (λr=>f9 s<|d9 (1,[],(r))) e).trans<|OE w i
  .let rfl:=jN u J;let(e,w):=tR J J h;let i:(row.map o6).9<=2000:=by exists N
   show go J (((arf d i).mono Je).at m2) e<|(e8 (λr=>f9 s<|d9 (2,[],(r))) e).trans<|OF w i
  .let rfl:=jN u J;let(e,w):=tR J J h;let i:(row.map o6).9<=2000:=by exists N
   show go J (((arh d i).mono Je).at m3) e<|(e8 (λr=>f9 s<|d9 (3,[],(r))) e).trans<|OG w i
  let rfl:=jN u J;let rfl:=ab J;show go J (((arj d []).mono Je).at m4) J<|arE s
 let m:¬(a:JH) <5:=λz=>m<|cn z
 let m:5<=a:=JE
 let(P,ask):=OJ cx m h;rw[OI n ask]at k;let R:=C1.to o;let X:=λp H2 s2 hp e=>k p t H2 (j.trans s2) (L1.to s2) (j.free hp) e
 show(q,aT (λx=>?_) λx=>?_)
 .let x:(a:JH) <12:=cV x;show(F,S,t,s,c,v,rw,a,l,row,P,J,D.to j,E,n,R,ask,m,JE,X)
 let x:¬(a:JH) <12:=λz=>x<|cn z
 show(q,aT (λy=>?_) λy=>?_)
 .let y:(a:JH) <15:=cV y;show(F,S,t,s,c,v,rw,a,l,row,P,J,D.to j,E,n,R,ask,JE,JE,X)
 let y:¬(a:JH) <15:=λz=>y<|cn z
 show(q,aT (λB=>?_) λB=>?_)
 .let B:(a:JH) <18:=cV B;show(F,S,t,s,c,v,rw,a,l,row,P,J,D.to j,E,n,R,ask,JE,JE,X)
 let B:¬(a:JH) <18:=λz=>B<|cn z
 show(F,S,t,s,c,v,rw,a,l,row,P,J,D.to j,E,n,R,ask,JE,cx.nb,X)
def aen f:∃(a b:Nat) (r:bU),jq f=a::b::r/\97<=a/\97<=b:=by cases f with|node w d hi=>show(110,111,_,J,Je,Je)|at_ w c=>show(97,116,_,J,Je,Je)|cut w=>show(99,117,_,J,Je,Je)|word a b d hi=>show(119,111,_,J,Je,Je)|moment a d hi=>show(109,111,_,J,Je,Je)|parcel w a l=>show(112,97,_,J,Je,Je)
def vC(a:Jw):Prop:=a.9<97\/∃z r,a=z::r/\z<97
def vC.sh(h:a.9<97):vC a:=.inl h
def vC.hd(h:z<97):vC (z::r):=.inr (z,r,J,h)
def vC.one:vC [z]:=.inl Jc
def arN a hi z:lH a hi z<97:=by
 delta lH;split
 .decide
 split<;>decide
def arO(j:J6)(h:iq s o p row n):vC n:=by
 let q:=j.dr;cases h with
 |bounds a c he d=>delta y8;split;show .one;show .hd Je
 |@chain g e f _ a c he d=>
  delta y9;split
  .show .one
  let:=MD J0 J5 WZ;rw[G4]at this;show .hd Ja
 |shows a c=>delta wX;split;show .hd Je;show .one
 |order a c he d=>delta y_;split<;>show .one
 |@clash g _ a c=>
  delta wY;split
  .let:=MI J0;rw[G4]at this;show .hd Ja
  show .one
 |liars=>
  delta wZ;cases e:(qf Jt).find? λl=> !s_ s l with
  |none=>show .one
  |some l=>
   let:=MK<|G8 e;let:=j.n6;show .hd Ja
 |life a c k d=>delta w6;split<;>show .one
 |age k m r=>delta u7;split;show .one;split;show .one;show .hd<|arN _ _ _
 |over k m=>delta qV;split;show .one;split;show .one;show .hd Je
 |living k m=>delta qW;split;show .one;split;show .one;show .hd Je
 |world a c=>delta w9;split;show .one;show .hd Je
 |@pinned g e f b a c he d t u=>
  delta w_;cases v:jh b with|none=>simp only;split<;>show .one|some x=>simp only;split;show .one;split;show .one;show .hd Je
 |clock a c w=>delta xa;split;show .one;show .hd Je
 |past he=>show .hd Je
 |needless=>
  delta xb;split
  .show .one
  delta zc;let:=G3 (λi=>decide<|aE QB=aE Ui) Wr;let:=j.mm;show .hd Ja
 |could=>delta xf;split;show .one;split<;>show .one
 |learned=>
  delta xg;split
  .show .one
  show .hd Je
 |told=>show .sh (by delta B6;simp[VbdtCore.ints])
def arP(g:J6)(cx:rn x):vC (f9 s<|d9 x).2:=by
 let(a,j,row):=x;cases h:bV s (a,j,(row)) <0
 .rw[OL cx h];show .one
 cases k:5<=a
 .let(n,i):=OJ cx k h;rw[OI g i];show arO g i
 let(l,b,f,d):=cx;simp only at l b f d;let m:a=0\/a=1\/a=2\/a=3\/a=4:=Ja
 rcases m with rfl|rfl|rfl|rfl|rfl
 .let rfl:=jN b J;let rfl:=f J;rw[OH];show .one
 .let rfl:=jN b J;let(e,c):=tR J J h;rw[e,OE c<|by exists d];delta tM;split
  .show .one
  split<;>show .one
 .let rfl:=jN b J;let(e,c):=tR J J h;rw[e,OF c<|by exists d];delta tN;split<;>show .one
 .let rfl:=jN b J;let(e,c):=tR J J h;rw[e,OG c<|by exists d];delta tO;split<;>show .hd Je
 let rfl:=jN b J;let rfl:=f J;show .hd Je
def rD s(xs:List qX):=xs.foldl (λs x=>(f9 s<|d9 x).1) s
def nH s(xs:List qX):=PyFlat.told<|PyFlat.played f9 s<|xs.map d9
def arQ s xs x:rD s (xs++[x])=(f9 (rD s xs)<|d9 x).1:=by delta rD;rw[zR];rfl
def OM s x xs:nH s (x::xs)=((f9 s<|d9 x).2.9:Int)::((f9 s<|d9 x).2++nH (f9 s<|d9 x).1 xs):=by rfl
theorem aeo:∀xs s x,nH s (xs++[x])=nH s xs++[((f9 (rD s xs)<|d9 x).2.9:Int)]++(f9 (rD s xs)<|d9 x).2
 |[],s,x=>by
  change _::(_++[])=([]++[_])++_
  rw[iu];rfl
 |y::xs,s,x=>by
  rw[List.cons_append,OM,OM,aeo xs];let e:rD s (y::xs)=rD (f9 s<|d9 y).1 xs:=J;ext
theorem aep:∀xs s,(∀x∈xs,rn x)->aV s->kK s->aV (rD s xs)/\kK (rD s xs)/\(nH s xs).9<=xs.9*150001
 |[],s,k,d,e=>(d,e,eX _)
 |x::xs,s,h,d,e=>by
  let(a,b,c):=ael d e<|h x dM;let(f,g,j):=aep xs _ (λy i=>h y<|df _ i) a b;show(f,g,?_);rw[OM,gm,cE,gm];lia
def arR:∀{xs},(∀x∈xs,rn x)->∀f:kj,nH eW xs≠VbdtCore.ints (jq f)
 |[],l,f=>by
  let(a,b,r,e,_):=aen f;rw[e];intro z;cases z
 |x::xs,h,f=>by
  let(a,b,r,e,g,i):=aen f;rw[e];intro z;let j:=(De z).1;let c:=(De z).2;rcases arP CG (h x dM) with d|⟨w,q,d,k⟩
  .lia
  rw[d]at c;let:=(De c).1;lia
theorem TA.lst{K s}(T:J9)(h:H i=Y JX)(w:S i≠O)(C:∀f:kj,cO (jq f)≠xs):TA K A S (aA H i<|.lst j) t s d:=by
 let st:cY H (aA H i<|.lst j):=cY.lst h;let nl:∀{b:ax}{k:Ju},b∈d.lists->H b=Y (.lst k)->aA H i (.lst j) b=Y (.lst k):=λ{b k} u e=>by
  rw[aJ]
  .show e
  intro z;rw[z]at u;show w<|T.fr _ u
 let g:∀{b l m:ax}{o:List QD},H b=Y (.ins l m o)->aA H i (.lst j) b=Y (.ins l m o):=λ{b l m o} e=>by
  rw[aJ<|eK e h Ja];show e
 show(g Qm,nl Jc YY,nl Jc Y7,nl Jc T.wl,nl Jc T.ml,nl Jc T.pl,nl Jc T.ll,by show dk (λb n (c,nm,x,hi,a,r,y,B)=>(c,nm,x,hi,g a,cN st r,cN st y,cN st B)) T.n,by show dk (λv n (p,c,e,a)=>(p,c,e,g a)) T.e,by show dk (λv n (p,c,e,a)=>(p,c,e,g a)) T.w,by show dk (λv n (p,c,e,a)=>(p,c,e,g a)) T.m,by show dk (λv n (p,c,nm,e,a,r)=>(p,c,nm,e,g a,cN st r)) T.p,?_,T.nd,T.ls,T.li,T.fr,T.fn);show dk (fun v f (q,e,a)=>(q,e,?_)) T.l;rw[aJ]
 .show a
 grind
theorem aeq:∀{l m},bJ l=bJ m->l=m
 |[],[],c=>rfl
 |[],c::d,h=>by cases h
 |c::d,[],h=>by cases h
 |a::l,b::m,h=>by
  rw[V.int.inj<|(De h).1,aeq (De h).2]
inductive arS K(A:Ad) T(vs:Ju) H(Q:VK):Prop|mk a cs f ps(c:ZC)(d:qS T H)(e:aq K H a (bJ cs))(g:(∀b,az H b->aq K b a (bJ cs)))(h:cs.9<=16000)(i:nU ka f cs=Y ps)(j:ps.9<=100)(k:(∀x∈ps.map gP,rn x))(l:∀p b,az H b->H p=O->b p=Y (.lst (bJ (nH eW (ps.map gP))))->Q JS b)
def arT(B:Jn)(Fs:Uc)(Fo:Uo)(Fl:Ud):bI g 17 "answers" ["calls"] (arS Jj A Tb'):=by
 show bI.of (B.f 121) Xd akt (aku B (ao0 B) (arM B Fs Fo Fl)<|arb B) ?_;intro vs H Q hl (a,cs,f,ps,rfl,tb,ha,has,a2,a3,bi,bo,k);show(J,λm t N a4 s1 L1=>λj T=>?_);let C:=aG (o:=Jx) T;let X:=aB (H:=N) (a:=j) (o:=Jx);let R:=s1.trans C;let L2:=L1.to C;let ab:=s1.free T;let am:∀{b:ax}{u:HO},N b=Y u->b≠j:=λe=>dH e T
 generalize aA N j Jx=H2 at C X R L2⊢;show(a,cs,f,ps,J,has H2 R,λD s'=>has D<|R.trans s',a2,a3,λp cl r s3 hp ep P K=>?_);let((dx,ac),(d,E)):=id L1;let an:=C.trans s3;let l:=E.to an;let ae:∀b∈m::QZ,H b=O/\∃u,N b=Y u:=by
  intro b h;rcases fQ.1 h with rfl|h
  .show(a4,_,ac)
  rcases dC.1 h with h|h
  .let(ys,e):=zH E h;show(E.fr b h,_,e)
  let(_,_,_,_,_,e):=zI E h;show(E.fn b h,_,e)
 let ao:∀b∈m::QZ,fh (m::QZ) r b=O:=λb h=>by delta fh;rw[ak h]
 let af:∀{b:ax}{u:HO},H2 b=O->r b=Y u->b≠j/\fh (m::QZ) r b=Y u:=by
  intro b u w h3;show(λz=>(by rw[z,X]at w;cases w),?_);delta fh;rw[aj]
  .show h3
  intro h;let(_,u2,e):=ae b h;rw[C _ _ e]at w;cases w
 let ag:=Nw (R.trans s3) λb h=>(ae b h).1
 let ap:=Gj (m::QZ) r;generalize fh (m::QZ) r=F at ao af ag ap;let a5:(cl.map Qv).9=ps.9:=by rw[bz,b_ P,bz]
 let ai:=am ac;let al:∀n b,b∈m::QZ->aA F j (.lst n) b=O:=λn b h=>by
  let(_,u,e):=ae b h;rw[aJ<|am e];show ao b h
 let a6:∀n:List V,aA F j (.lst n) p=Y (.lst<|cl.map Qv):=λn=>by
  let(e1,e2):=af hp ep;rw[aJ e1];show e2
 let a7:∀n:List V,az (mB H2 r) (aA F j<|.lst n):=λn b u e=>by
  delta mB at e;split at e
  .rename_i w;let(e1,e2):=af w e;rw[aJ e1];show e2
  cases e
 show(p,J,(_,aq.of ep),k7 (λi S D=>E3 λt' x3 x4=>A3 (S=[Y Jy,Y<|.ref m,Y<|.ref j,x3,x4]) (az (aA F j<|.lst<|bJ<|nH eW<|(ps.map gP).take i) D)<|p7 Jj A (aA F j<|.lst<|bJ<|nH eW<|(ps.map gP).take i) D m t'<|rD eW<|(ps.map gP).take i) (t,O,O,J,?_,(dx,an _ _ ac),Z4,al _ m dM) (λi S D _ (_,_,_,_,s',_)=>aq.of<|s' _ _<|a6 _) ?_ ?_)
 .intro b u e;cases h:b=j
  .subst h;rw[aB]at e;rwa [s3 _ _ X]
  rw[aJ h]at e;show ap _ _ e
 .intro i v S H4 hv (t4,x3,x4,rfl,L,L4);rw[c8]at hv;let(c,hc,rfl):=tS.1 hv;let(x,hx,CI):=d7 P hc;let hi:=(cU.1 hx).1;rw[bz]at hi;let cx:=bo x<|bM hx;let(ar,as,av):=aep ((ps.map gP).take i) eW (λy hy=>bo y<|O2 hy) CG (λf hf=>by cases hf);let a8:=arR (xs:=(ps.map gP).take i) λy hy=>bo y (O2 hy)
  let aw:=aeo ((ps.map gP).take i) eW x;let eU:=arQ eW ((ps.map gP).take i) x;rw[<-take_snoc hx]at aw eU;let bk:=(ael ar as cx).2.2;rw[oQ]at av;let lb:(nH eW<|(ps.map gP).take i).9<=99*150001:=eO av<|f7 Ja JR;show(_,m,t4,_,c,x,J,tb.to<|bZ ag ab,L,L4,ar,as,CI.to<|a7 _,cx,λq t5 H5 s5 L5 hq eq=>?_);rw[<-eU]at L5;generalize nH eW ((ps.map gP).take i)=nums at*
  let e5:=s5 _ _ aB;let qn:q≠j:=by
   intro z;rw[z,aB]at hq;cases hq
  show(.inl (J,_,aq.of e5),.inl<|aq.of eq,e5,by rw[bz,cP];lia,?_);show(.inl (J,_,aq.of aB),j,q,_,_,J,J,aB,(by rw[aJ qn];show eq),by rw[cP];simp;lia,t5,_,_,J,?_,?_)
  .intro b u e;cases h:b=j
   .subst h;rw[aB]at e⊢;rw[<-e,aw];simp[bJ]
   rw[aJ h]at e;rw[aJ h,aJ h];show s5 _ _ (by rw[aJ h];show e)
  let((a9,be),(d5,T5),a0):=L5;show((a9,by rw[aJ ai,aJ ai];show be),(d5,?_),?_)
  .rw[akX];show (T5.lst e5 (by rw[aB];simp) λf z=>a8 f ?_).s λb h=>?_
   .rw[lB]at z;show (aeq z).3
   cases a1:b=j
   .subst a1;rw[aB]at h;cases h
   rw[aJ a1]at h⊢;show h
  rw[aJ ai]at a0⊢;show a0
 intro S H4 (t4,x3,x4,rfl,L,L4);rw[a5,<-bz (f:=gP),ir]at L;show k j H4 ((bZ ag ab).trans L) ab<|L _ _ aB
def sL:Nat->List Jw|0=>[[]]|n+1=>sL n++(sL n).map (·++[(n:JH)])
theorem xA:∀n,(sL n).9=2^n
 |0=>rfl
 |n+1=>by
  rw[sL,cE,bz,xA n];lia
theorem ON:∀n,∀l∈sL n,l.9<=n
 |0,l,h=>by
  rw[fZ.1 h];ext
 |n+1,l,h=>by
  rcases dC.1 h with h|h
  .show Nat.le_succ_of_le<|ON n l h
  let(m,a,rfl):=eJ.1 h;let:=ON n m a;ext
def zS(n:JD):pW:=(((qf n).map λl=>(l.map (2^·)).sum).toArray,#[(0,2^n,(n / 6))],7)
def arU(a:1<=n)(b:n<=6):pX (fL<|sL n) ((aQ (sL n).9).toArray,#[],7) (zS n):=by
 match n,a,b with
 |1,c,d=>show pX.of λc c c c c c c=>by kernel_rfl
 |2,c,d=>show pX.of λc c c c c c c=>by kernel_rfl
 |3,c,d=>show pX.of λc c c c c c c=>by kernel_rfl
 |4,c,d=>show pX.of λc c c c c c c=>by kernel_rfl
 |5,c,d=>show pX.of λc c c c c c c=>by kernel_rfl
 |6,c,d=>show pX.of λc c c c c c c=>by kernel_rfl
def arV:∀n<7,((zS n).p.12=(sL n).9/\(zS n).p.toList.map (λi=>(sL n).getD i [])=(qf n).map (l7 afS))/\∀i∈(zS n).p.toList,i<(sL n).9:=by decide +kernel
def arW(v:n<=6)(c:a.map (·.2)=sL n)(g:∀x∈a,H x.1=Y (.lst<|x.2.map V.int)):∃r,zg a r/\∀b p,az H b->b p=Y (.lst<|r.map Qv)->NLL b p (qf n):=by
 haveI d:a.9=2^n:=by rw[<-xA n,<-c,bz]
 cases w:n=0
 .subst w;show(a.map (·.1),.inl (by rw[d];decide,J),λb p s h=>(_,h,?_));match a,d,c,g with
  |[x],K,c,g=>
   haveI y:x.2=[]:=by simpa [sL] using c
   show afB ?_ .nil;let:=s _ _<|g x<|.head _;rwa [y]at this
 let z:=arU Ja v;let((t,A),B):=arV n Ja;haveI C:2<=a.9:=by
  rw[d];show Nat.le_self_pow JE 2
 rw[xA,<-d]at t;haveI u:∀i∈(zS n).p.toList,i<a.9:=λi hi=>by
  let:=B i hi;rwa [xA,<-d]at this
 show(_,.inr (C,zS n,by rw[c,d,<-xA];show z,t,u,J),λb p s h=>(_,h,?_));haveI key:∀(f:List Nat) M,(∀i∈f,i<a.9)->f.map (λi=>(sL n).getD i [])=M.map (l7 afS)->bw (λq l=>b q=Y (.lst<|bW l)) (f.map λi=>(a.map (·.1)).getD i 0) M:=by
  intro f;induction f with
  |nil=>
   intro M _ e;haveI:M=[]:=by exists e.3
   subst this;show .nil
  |cons i f D=>
   intro M hi e;cases M with
   |nil=>cases e
   |cons m M=>
    rw[hY,hY,as6]at e;show afB ?_<|D M (λj E=>hi j<|.tail _ E) e.2;let k:=hi i<|.head _;let o:=e.1;rw[<-c]at o;haveI F:(a.map (·.1)).getD i 0=a[i].1:=by simp[k]
    haveI L:(a.map (·.2)).getD i []=a[i].2:=by simp[k]
    rw[L]at o;let:=s _ _<|g a[i]<|Pj k;rw[o,kg]at this;change b ((a.map (·.1)).getD i 0)=_
    rwa [F]
 show key _ _ u A
abbrev OO:List Str:=["size","sets","node","nodes"]
def zL:fe OO ["size"] (bY pF):=ik<|by rfl
def arX:gu "sets_of_nodes" "sets_of_nodes" pF ["size"]:=λa a a a a a=>yr λa=>by kernel_rfl
def arY(a:Jn)(B:u_ g) f bu b(outer:List Env)(s:bc)(H:Hp)(E:XK)(d:∃c,bu=.ref c/\vH Wn c P)(e:cQ 2<|b.deeper<|l9 "sets_of_nodes" (bY pF) Jd f bu):
  iP (cx g OO "sets_of_nodes" (bY pF) f bu b outer s H E) (iY pF) (ay (aP (bx<|U Z1 aa) Wv)<|ay (dc (kZ ZZ) QQ<|aP (ah ic Jl<|jy (gU Jj Jl) Zx k9 (ah ic JC<|bx Qg) [3]) Wv)<|aH<|abO P (sY pF 2) ME Jl):=by
 show eQ (ij 1 zL.nd<|jY<|br (jY cb) cb)<|eQ (vY xQ J (wj (a.b 1)<|br Q3 cb) (iB 2 zL.nd)<|fB<|ij 1 zL.nd<|iz sg ZL<|qE zL.nd (qu ZL) (nc (N:=OO) (sc:=bY pF) (own:=[("nodes",(3))])<|by decide +kernel) (λl l l l l=>iB 3 zL.nd) ZE λl l l l l=>iz sg YX<|jY<|br Wu cb)<|fB<|iQ ?_;show aor (x:="nodes") e (d,B,J) ZL aoh (λf c h i j k=>AM<|br (pE (a.b 0)<|br Q3 cb)<|br Q3 cb) J (a.b 12) J J λa a a a=>rfl
def arZ(ac:Jn)(B:u_ g)(F:xh g "sets_of_nodes" pF T.s):bI g 3 "sets_of_nodes" ["size"] (B3 T):=by
 show bI.M7 F zL arX (arY ac B) ?_;intro vs H Q P (n,rfl,n6,tb,kk);let line:200<=cz:=Je
 show (λe he=>(λa ha=>(_,J,Ja,Ja,pj (λi R m=>E3 λS a b=>A5 (R=[Y<|.int n,Y Jy,S,O]) (az H m) (m a=Y (.lst<|(b.map (·.1)).map Qv)) ((∀x∈b,m x.1=Y (.lst<|x.2.map V.int)))<|b.map (·.2)=sL i)
  (O,a,[(e,([]))],J,(aG he).trans<|aG ha,aB,?_,J) ?_ ?_)))
 .intro x c;rw[fZ.1 c,aJ<|dH aB ha];show aB
 .intro i R H2 hi (S,a,b,rfl,E,o,u,k);haveI X:b.9=2^i:=by rw[<-xA i,<-k,bz]
  haveI ab:b.9<=32:=by
   rw[X];show zN (j:=5) Je Ja
  rw[au5];show(a,J,(_,aq.of o),λD v=>yN v (λj m ys=>∃f:List (ax×List Int),ys=(f.map (·.1)).map Qv/\(∀x∈f,m x.1=Y (.lst<|x.2.map V.int)/\x.1≠D)/\f.map (·.2)=((b.map (·.2)).take j).map (·++[(i:JH)])) ([],J,Jc,Jc) (aq.of o) ?_ ?_)
  .intro j x l ys c L N ae (f,rfl,w,y);let h:=il v L;let(r,C,rfl):=sC c;rw[c8]at C;cases d:b[j]? with
   |none=>rw[d]at C;cases C
   |some pl=>
    rw[d]at C;cases C;let hj:=(cU.1 d).1;let P:=h _ _<|u pl<|bM d;haveI l6:pl.2.9<=100:=by
     let:=ON i pl.2 (by rw[<-k];show atd<|bM d);lia
    show uV (λq hq=>(by rw[aJ<|dH P hq];show P,aB,by simp;lia,λt ht=>?_));let sq:az l (aA (aA l q<|.lst [.int i]) t<|.lst<|pl.2.map V.int++[.int i]):=(aG hq).trans<|aG ht;haveI tD:t≠D:=λz=>by rw[z,(aG hq) _ _ N]at ht;cases ht
    show qO L ae Ja (mj sq) (sq _ _ N) (f++[(t,(pl.2++[(i:JH)]))],Jc,λx c=>?_,?_)
    .rcases dC.1 c with c|c
     .show(by rw[aJ (w x c).2];show sq _ _ (w x c).1,(w x c).2)
     rw[fZ.1 c];show(by rw[aJ tD,aB];simp,tD)
    haveI af:(b.map (·.2))[j]?=Y pl.2:=by rw[c8,d];rfl
    rw[take_snoc af,eV,eV,y];rfl
  intro l ys L N (f,rfl,w,y);let h:=il v L;rw[bz,bz,show b.9=(b.map (·.2)).9 by simp,ir]at y;haveI ag:f.9=b.9:=by
   let:=e8 t_ y;exists this
  show(h _ _ o,N,by simp;omega,λp d=>(_,p,b++f,J,E.trans<|h.trans WB,by rw[aB];simp,λx c=>?_,?_))
  .rcases dC.1 c with c|c
   .show (aG d) _ _<|h _ _<|u x c
   show (aG d) _ _ (w x c).1
  rw[eV,y,k];rfl
 intro R H2 (S,a,b,rfl,E,o,u,k);let e0:(n:JH).6=n:=Jc
 rw[e0]at k;haveI X:b.9=2^n:=by rw[<-xA n,<-k,bz]
 haveI ab:b.9<=64:=by
  rw[X];show zN (n:=2) (j:=6) Je n6
 let(rs,hs,hR):=arW n6 k u;show(a,b,rs,J,o,u,ab,hs,(_,(tb.to E).s),λD l h v=>kk D l (E.trans h)<|hR l D h v)
def aer{l:Jw}(h:l.9=3):∃a b c,l=[a,b,c]:=by
 match l,h with
 |[a,b,c],d=>show(a,b,c,J)
def ar0{l:Jw}(h:l.9=2):∃a b,l=[a,b]:=by
 match l,h with
 |[a,b],c=>show(a,b,J)
def F3{l:Jw}(h:l.9=1):∃a,l=[a]:=by
 match l,h with
 |[a],b=>show(a,J)
def ar1(g:d<23)(e:f.9=(bK d).9):atj (d9 (d,f,(row)))=d9 (d,f,(row)):=by
 let:d=0\/d=1\/d=2\/d=3\/d=4\/d=5\/d=6\/d=7\/d=8\/d=9\/d=10\/d=11\/d=12\/d=13\/d=14\/d=15\/d=16\/d=17\/d=18\/d=19\/d=20\/d=21\/d=22:=Ja
 rcases this with rfl|rfl|rfl|rfl|rfl|rfl|rfl|rfl|rfl|rfl|rfl|rfl|rfl|rfl|rfl|rfl|rfl|rfl|rfl|rfl|rfl|rfl|rfl
 all_goals first
  |(let rfl:=nI.1 e;rfl)
  |(let(a,rfl):=F3 e;rfl)
  |(let(a,b,rfl):=ar0 e;rfl)
  |(let(a,b,c,rfl):=aer e;rfl)
def ar2(h:xS ka l=Y (c,(t))):∃x:qX,c=d9 x/\gP c=x/\x.1<23/\x.2.1.9=(bK x.1).9/\(dY x.1=0->x.2.2=[]):=by
 cases l with
 |nil=>cases h
 |cons p r=>
  cases f:ka p with
  |none=>erw[xS,f]at h;cases h
  |some x=>
   let(n,k):=x;erw[xS,f]at h;let(a,rfl,i,rfl,rfl):=ab0 f;cases m:r.9<(bK a).9
   .lia
   rw[aj m]at h;let lt:(r.take (bK a).9).9=(bK a).9:=by ext
   cases b:dY a=0
   .erw[ak b]at h;let h:=bt h;let d:=(qe h).1;show((a,r.take (bK a).9,([])),?_,?_,i,lt,λa=>rfl)
    .delta d9;rw[<-d,ak b]
    rw[<-d];rfl
   cases g:r.drop (bK a).9 with
   |nil=>erw[aj b,g]at h;cases h
   |cons z q=>
    cases j:0<=z/\z.6<=q.9
    .erw[aj b,g,Dq,HG,ak j]at h;let h:=bt h;let d:=(qe h).1;show((a,r.take (bK a).9,(q.take z.6)),?_,?_,i,lt,λe=>absurd e b)
     .delta d9;rw[<-d,aj b]
     rw[<-d];rfl
    erw[aj b,g,Dq,HG,aj j]at h;cases h
theorem OP:∀f l ps,nU ka f l=Y ps->∀c∈ps,∃x:qX,c=d9 x/\gP c=x/\x.1<23/\x.2.1.9=(bK x.1).9/\(dY x.1=0->x.2.2=[])
 |f,[],ps,h=>by
  delta nU at h;ext
 |0,e::g,ps,h=>by delta nU at h;cases h
 |f+1,p::r,ps,h=>by
  delta nU at h;cases a:xS ka (p::r) with
  |none=>rw[a]at h;cases h
  |some ct=>
   let(c,t):=ct;rw[a]at h;simp only at h;cases b:nU ka f t with
   |none=>rw[b]at h;cases h
   |some cs=>
    rw[b]at h;let h:=bt h;subst h;intro d hd;rcases fQ.1 hd with rfl|hd
    .show ar2 a
    show OP f t cs b d hd
def CQ(h:O1 l=I):l.9<=2000:=by delta O1 at h;ext
def ar3(g:x.1<23)(f:x.2.1.9=(bK x.1).9)(h:dY x.1=0->x.2.2=[])(d:asb (d9 x)=I):rn x:=by
 show(g,f,h,?_);let(e,j,row):=x;simp only at g f h⊢;cases i:dY e=0
 .rw[h i];show eX _
 let key:∀e,e<23->dY e≠0->e=1\/e=2\/e=3\/e=7\/e=16:=Je
 rcases key e g i with rfl|rfl|rfl|rfl|rfl
 .let rfl:=jN f J;show CQ d
 .let rfl:=jN f J;show CQ d
 .let rfl:=jN f J;show CQ d
 .let(a,rfl):=F3 f;let d:(OY a&&O1 row)=I:=d;rw[jo]at d;show CQ d.2
 let(a,b,c,rfl):=aer f;let d:(OY a&&OY b&&OY c&&O1 row)=I:=d;rw[jo]at d;show CQ d.2
def ar4(h:OW l=I):∃ps,nU ka l.9 l=Y ps/\ps.9<=100/\(∀x∈ps.map gP,rn x)/\nH eW (ps.map gP)=Pb l:=by
 delta OW at h;cases a:atk l with
 |none=>rw[a]at h;cases h
 |some qs=>
  let b:=a;delta atk at b;cases f:nU ka l.9 l with
  |none=>rw[f]at b;cases b
  |some ps=>
   rw[f]at b;let b:=bt b;haveI e:ps.map atj=ps:=by
    conv=>rhs;rw[<-HE ps]
    show mK λc a=>?_
    let(x,d,_,i,j,_):=OP _ _ _ f c a;rw[d];show ar1 i j
   rw[e]at b;subst b;let cs:=OP _ _ _ f;rw[a]at h;simp at h;haveI k:ps.all asb=I:=by
    let:=h.2;delta avE at this;erw[jo]at this;show this.2.2.2
   haveI m:(ps.map gP).map d9=ps:=by
    rw[kg];conv=>rhs;rw[<-HE ps]
    show mK λc a=>?_
    let(x,d,g,_):=cs c a;change d9 (gP c)=c
    rw[g,<-d]
   show(ps,J,cV h.1,?_,?_)
   .intro x n;let(c,a,rfl):=eJ.1 n;let(x,d,g,o,p,q):=cs c a;rw[g];show ar3 o p q (by rw[<-d];show mL.1 k c a)
   delta nH Pb;rw[m,a];rfl
section
open HD (hK pw)
def ar5{P:f_}{a:ax}{o:Obj}(e:(KK P).lookup a=Y o):(o.cls==.type "list")=au:=tV.1 (an7 P) _<|M9 e
def OQ{P:f_}{h:c_}{a:ax}(c:∀b o,(hK P).get? b=Y o->h.get? b=Y o)(d:(G0 P).get a=Y {cls:=.none,data:=.fields #[]})(e:a<1279):h.get? a=Y {cls:=.none,data:=.fields #[]}:=by let f:=atm (life:={}) e d;show c _ _ f
def H0(a:ax)(c:Obj)(xs:Ju):Hp:=λb=>if b=a then Y (.fR c JX) else if b=970 then Y (.tab #[] (sY pF 2) ME) else if b=1060 then Y (.tab #[] (sY qI 2) MF) else if b=1067 then Y (.tab #[] (sY qJ 3) MG) else O
def TT:Tb:=(970,1060,1067,#[],#[],#[])
section
variable {w:bS} {s:bc} {mg mb:Str->Option aO} {ar:ax} {us:List aO} {ns:List Int}
def ar6{g:Obj}{xs:Ju}{b:ax}{u:HO}(e:H0 ar g xs b=Y u):(b=ar/\u=.fR g JX)\/(b≠ar/\(b=970\/b=1060\/b=1067)/\∃pos q,u=.tab #[] pos q):=by
 delta H0 at e;cases a:b=ar
 .rw[ak a]at e;show .inl (a,(bt e).3)
 rw[aj a]at e;cases c:b=970
 .rw[ak c]at e;show .inr (a,.inl c,_,_,(bt e).3)
 rw[aj c]at e;cases d:b=1060
 .rw[ak d]at e;show .inr (a,.inr<|.inl d,_,_,(bt e).3)
 rw[aj d]at e;cases f:b=1067
 .rw[ak f]at e;show .inr (a,.inr<|.inr f,_,_,(bt e).3)
 rw[aj f]at e;cases e
def ar7{S:ax}(L:∀b o,(hK JA).get? b=Y o->s.heap.get? b=Y o)(h:s.heap.Ns eY mg)(T:s.heap.Ns Aj mb)(ae:∀x:Str,x≠"__name__"->mb x=nV x)(af:s.heap.NoLimit)(hg:s.gens=#[])
  (i:s.heap.get? ar=Y {cls:=J2,data:=.seq us.toArray}) (hi:e9 us ns) (hl:ns.9<=16000) (ag:mg "answers"=Y (.ref S)) (ask:OW ns=I):
  o9 (bb pw w) Ro (.call (.ref S) ([.ref ar],[])) (λr k=>∃(p:ax) (N:Wz) (n:JD),r=.ok (.ret JS)/\k.heap.get? p=Y {cls:=J2,data:=.seq N.toArray n}/\e9 N (Pb ns)/\OldK s.13 k.13/\k.os=s.os/\An k.gens) s:=by
 let line:16000<=cz:=Je
 let X:(KK JA).In s.13:=λb o e=>L b o<|anQ JA b o e
 let t1:=OQ L (abC JA).1 Je;let t2:=OQ L (abE JA).1 Je;let t3:=OQ L (abG JA).1 Je;let ne:∀a:ax,s.heap.get? a=Y {cls:=.none,data:=.fields #[]}->a≠ar:=λa e z=>by
  rw[z,i]at e;cases e
 let n1:=ne _ t1;let n2:=ne _ t2;let n3:=ne _ t3;let rv:bP Qt us:=SJ hi;let as:=hi.9;generalize hH:H0 ar {cls:=J2,data:=.seq us.toArray} Qt=H;let l:∀{b:ax}{u:HO},H b=Y u->(b=ar/\u=.fR {cls:=J2,data:=.seq us.toArray} (.lst Qt))\/(b≠ar/\(b=970\/b=1060\/b=1067)/\∃pos q,u=.tab #[] pos q):=λ{b u} e=>by
  rw[<-hH]at e;show ar6 e
 let hA:H ar=Y (.fR {cls:=J2,data:=.seq us.toArray}<|.lst Qt):=by
  rw[<-hH];show ak J
 let hT:qS TT H:=by
  rw[<-hH];show(?_,?_,?_)
  .change H0 ar _ _ 970=_
   delta H0;rw[aj n1,ak J];rfl
  .change H0 ar _ _ 1060=_
   delta H0;rw[aj n2,aj Je,ak J];rfl
  change H0 ar _ _ 1067=_
  delta H0;rw[aj n3,aj Je,aj Je,ak J];rfl
 let ab:∀{b:ax},(b=970\/b=1060\/b=1067)->s.heap.get? b=Y {cls:=.none,data:=.fields #[]}:=λ{b} e=>by
  rcases e with rfl|rfl|rfl
  .show t1
  .show t2
  show t3
 let bo:gS pw w H s.13:=λb u e=>by
  rcases l e with⟨rfl,rfl⟩|⟨_,c,pos,q,rfl⟩
  .show(i,by rw[bz];omega,us,_,rv,i)
  show(#[],(#[],J),ab c,trivial,Qw)
 let ai:∀{b:ax}{o:Obj}{P:Array Al}{Q:JD},s.heap.get? b=Y o->o.data=.dict P Q->H b=O:=λ{b o P Q} e d=>by
  cases q:H b with
  |none=>rfl
  |some u=>
   exfalso;rcases l q with⟨rfl,_⟩|⟨_,c,_⟩
   .rw[i]at e;cases e;cases d
   rw[ab c]at e;cases e;cases d
 let nK:∀b o,(KK JA).lookup b=Y o->H b=O:=λb o e=>by
  cases q:H b with
  |none=>rfl
  |some u=>
   exfalso;rcases l q with⟨rfl,_⟩|⟨_,c,_⟩
   .let z:=ar5 e;let e3:=X _ _ e;rw[i]at e3;cases e3;cases z
   rcases c with rfl|rfl|rfl
   .rw[(abC JA).2]at e;cases e
   .rw[(abE JA).2]at e;cases e
   rw[(abG JA).2]at e;cases e
 let t:(KK JA).In (qm s.13 H):=λb o e=>Ru (X b o e)<|nK b o e
 let ac:∀{b:ax}{m:Str->Option aO},s.heap.Ns b m->(qm s.13 H).Ns b m:=λ{b m}(o,P,Q,e,d,r)=>(o,P,Q,Ru e<|ai e d,d,r)
 let hM:Mod (KK JA) mg (qm s.13 H):=(t,ac h,(mb,ac T,ae),let (mc,j,h2):=af;(mc,ac j,h2));let e0:og pw w (KK JA) mg (qm s.13 H) Ro [] s H:=(J,hM,λb o e=>agf e,P5<|agd _ _,trivial,λb T=>absurd (show b∈([]:List ax) from T) Jc,bo,.of_eq hg);let R:aL (pw,w,KK JA,mg,qm s.13 H) AA:=an1 X h;let B:u_ (pw,w,KK JA,mg,qm s.13 H):=an3 X h t;let(f,fd,j,h2,h3,F):=arT (Tb':=TT) R (arZ R B<|an4 X h t) ((anI R B<|an5 X h t).mono Je)<|(anM R B<|an6 X h t).mono Je;let ef:f=S:=by
  let j:mg "answers"=Y J7:=j;rw[ag]at j;cases j;rfl
 subst ef;let(ps,al,am,an,ao):=ar4 ask;let hr:cQ 17 Ro:=(J,Je,Je);show Ac (F.run Ro [] s H ([.ref ar],[]) [.ref ar] [.ref ar] (λv y=>∃p,v=.ref p/\az H y/\y p=Y (.lst<|bJ<|Pb ns)) E0 hr e0 (h3 s [.ref ar] X J) (.cons J .nil) (J,ar,ns,ns.9,ps,J,hT,.inl<|.inr (_,hA),λy g=>.inl<|.inr (_,g _ _ hA),hl,al,am,an,λp y g K q=>(p,J,g,by rw[<-ao];show q))) λr k z=>?_
 cases r with
 |error e=>show gn z
 |ok fl=>
  cases fl with
  |next=>show gn z
  |brk=>show gn z
  |cont=>show gn z
  |ret u=>
   let(v,y,os,bare,un,A,r',p,rfl,g,hp):=z;obtain rfl:u=eZ p:=r';let(_,N,n,hv,e):=A p _ hp;show(p,N,n,J,e,hv.ints,(λb o e=>?_,λb o e=>?_),os,bare)
   .cases q:H b with
    |none=>show .inl<|un.keep b o e q (by intro z;show absurd (show b∈([]:List ax) from z) Jc) Jc
    |some u=>
     rcases l q with⟨rfl,rfl⟩|⟨_,c,pos,qq,rfl⟩
     .let(C,_):=A _ _<|g _ _ q;rw[i]at e;cases e;show .inl C
     let(ap,(m,hm),C,_):=A _ _<|g _ _ q;rw[ab c]at e;cases e;subst hm;show .inr<|.inl (?_,J,#[],m,J,C);rcases c with rfl|rfl|rfl
     .let(D,vs,_,_,_,_,_,_,_,g1,g2,g3,E,_):=abB X;show(_,D,vs,g1,g2,g3,E)
     .let(D,vs,_,_,_,_,_,_,_,g1,g2,g3,E,_):=abD X;show(_,D,vs,g1,g2,g3,E)
     let(D,vs,_,_,_,_,_,_,_,g1,g2,g3,E,_):=abF X;show(_,D,vs,g1,g2,g3,E)
   cases q:H b with
   |none=>show(o,un.keep b o e q (by intro z;show absurd (show b∈([]:List ax) from z) Jc) Jc)
   |some u=>
    rcases l q with⟨rfl,rfl⟩|⟨_,c,pos,qq,rfl⟩
    .show(_,(A _ _<|g _ _ q).1)
    let(ap,_,C,_):=A _ _<|g _ _ q;show(_,C)
end
end
section
open HD (hK pw qv Bo Vu HW Rq Rr Rt pf)
theorem aes{P:f_}{h:c_}:∀{vs:List aO}{ns:Jw},avc P h vs (ns.map PySem.W.WData.int)->e9 vs ns
 |c,[],x=>by
  cases x;show .nil
 |c,n::ns,x=>by
  cases x with
  |cons a b=>
   cases a;show .cons _ _<|aes b
theorem aet{R:PySem.W.WRecords}{cl:Str->Option ax}{h:c_}:∀{vs:List aO}{ns:Jw},e9 vs ns->∃as,PySem.W.ReadsAllW R cl h vs (ns.map PySem.W.WData.int) as
 |_,_,.nil=>(_,.nil)
 |_,_,.cons n t r=>by
  let(as,q):=aet (R:=R) (cl:=cl) (h:=h) r;show(_,.cons (.int n t) q)
open PySem.W in
def avB:aeu.Holds:=by
 show holds_os (q:=qv) (loose:=Bo) (Xt:=λK=>I) (XP:=λa a=>True) (Yf:=λs=>s.13) (Ya:=λw=>hK JA) (YP:=λw h=>∀b o,(hK JA).get? b=Y o->h.get? b=Y o) (N:=17274) (kwd:=[]) Vu (λw s e b o q=>by rw[e];show q) (λw h h' y k b o q=>k b o<|y b o q) (λK K=>trivial) (λK K K K K=>trivial) J J J (λK K=>recFacts_nil J) os_shapes HW (pf Rq Rr) (J,J,J,J,J,Rt) ([.list [.int 0]],by decide +kernel,by decide +kernel) ?_;intro w iO s mg S G g T o pm X ab dV kV ho hd ac hD i j args m as t ae af c ag;let(a,v,A):=os_pre_some t;let(B,d):=Codec.encAll_of_decAll aeu.args args a v;subst B;let(l,u):=a;let c:avc JA s.13 m [.list<|(show List Int from l).map WData.int]:=c;let ask:OW l=I:=A;let f:((Codec.inLen 0 16000 (show List Int from l)&&(show List Int from l).all (Codec.inInt (-9223372036854775808) 9223372036854775807))&&I)=I:=d;rw[jo,jo]at f;let C:(show List Int from l).9<=16000:=(Codec.inNat_iff.1 f.1.1).2;cases c with
 |cons x y=>
  cases y;cases x with
  |list D E=>
   show enter_call<|Ac (ar7 g G.T.g G.T.b G.T.builtins G.T.nolimit j D (aes E) C i ask) λr F z=>?_;let(p,ai,n,rfl,e,hi,H,L,P):=z;let(al,Q):=aet (R:=[]) (cl:=classAt iO.13) (h:=F.13) hi;show(.inl (.ref p,_,_,J,λa=>rfl,ReadsW.list e J J Q,(OpenSpec.post_iff HW d _ _).2 J,λz=>Bool.noConfusion (show au=I from z)),H,L,P)
end
end I0
end
theorem PySem.Challenge.cw_driftclocks_s01_answers_holds : PySem.Challenge.rw_driftclocks_s01_answers.Holds :=
 I0.avB
