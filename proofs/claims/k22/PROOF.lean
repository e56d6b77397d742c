import PyProof.Rows.All
import Wide.All
import OpenK.AllK
import Wide.FinOn
import Lean
import PyProof.EqAt
import PyProof.EqKinds
import PyProof.TupleCall
import KE.KTryMore
import KE.KRevIter
import KE.KSortTup
import KE.KDictSum
import KE.KRevSl
import PyProof.Rows.TupDisplay
import PyProof.EnumFor
import PyProof.EnumMake
import PyProof.EnumStmt
import PyProof.DictUpdate
import PyProof.AttrMissSeq
import KE.KDictOf
import PyProof.ListStr
import PyProof.SetScanFacts
import PyProof.Rows.SetFrom
import PyProof.TupleKey
import PySem.Challenge.RW_cellpatches_k22_whole_fences
set_option Elab.async false
set_option linter.all false
set_option maxRecDepth 100000
namespace L2
open PySem PySem.Spec PyProof.Rows
abbrev Key:=Sum Int Str
def kN:Key→Value→Bool
 | .inl k,v=>Value.isInt k v
 | .inr x,v=>Value.isStrOf x v
def FA(w:World):Key→Int
 | .inl k=>hashInt k
 | .inr x=>hashStr w x
theorem bg:∀{k:Key}{v:Value},kN k v=true→(∃i t,k=Sum.inl i∧v=Value.int i t)∨(∃x t,k=Sum.inr x∧v=Value.str x t)
 | .inl i,v,h=>by
   obtain⟨t,e⟩:=Value.isInt_shape (k:=i) (v:=v) h
   exact .inl ⟨i,t,rfl,e⟩
 | .inr x,v,h=>by
   obtain⟨t,e⟩:=Value.isStrOf_shape (x:=x) (v:=v) h
   exact .inr ⟨x,t,rfl,e⟩
theorem uC(i:Int)(t:Tok):kN (.inl i) (.int i t)=true:=by simp[kN,Value.isInt]
theorem uD(x:Str)(t:Tok):kN (.inr x) (.str x t)=true:=by simp[kN,Value.isStrOf]
theorem A0(a b:Int):decide ((Sum.inl a:Key)=Sum.inl b)=(a==b):=by
 by_cases e:a=b
 ·subst e;simp
 ·have h:¬(Sum.inl a:Key)=Sum.inl b:=fun q=>e (Sum.inl.inj q)
  rw[decide_eq_false h]
  exact(beq_eq_false_iff_ne.mpr e).symm
theorem A3(a b:Str):decide ((Sum.inr a:Key)=Sum.inr b)=decide (a=b):=by
 by_cases e:a=b
 ·subst e;simp
 ·have h:¬(Sum.inr a:Key)=Sum.inr b:=fun q=>e (Sum.inr.inj q)
  rw[decide_eq_false h,decide_eq_false e]
theorem A1(a:Int)(b:Str):decide ((Sum.inl a:Key)=Sum.inr b)=false:=decide_eq_false (fun q=>nomatch q)
theorem A2(a:Str)(b:Int):decide ((Sum.inr a:Key)=Sum.inl b)=false:=decide_eq_false (fun q=>nomatch q)
def bz(prog:Program)(w:World):PySem.KeyKind prog w Key where
 is:=kN
 hash:=FA w
 inj:=fun v a b ha hb=>by
  rcases bg ha with⟨i,t,rfl,rfl⟩ | ⟨x,t,rfl,rfl⟩
  ·rcases bg hb with⟨j,u,rfl,e⟩ | ⟨y,u,rfl,e⟩
   ·injection e with e1 _;rw[e1]
   ·exact nomatch e
  ·rcases bg hb with⟨j,u,rfl,e⟩ | ⟨y,u,rfl,e⟩
   ·exact nomatch e
   ·injection e with e1 _;rw[e1]
 byValue:=fun k v h=>by
  rcases bg h with⟨i,t,rfl,rfl⟩ | ⟨x,t,rfl,rfl⟩<;>rfl
 pyHash:=fun hv h=>by
  rcases bg hv with⟨i,t,rfl,rfl⟩ | ⟨x,t,rfl,rfl⟩
  ·exact wpAny_pyHash_int h
  ·exact wpAny_pyHash_str h
 eqBool:=fun hu hv h=>by
  rcases bg hu with⟨i,t,rfl,rfl⟩ | ⟨x,t,rfl,rfl⟩
  ·rcases bg hv with⟨j,u,rfl,rfl⟩ | ⟨y,u,rfl,rfl⟩
   ·rw[A0] at h;exact wpAny_eqBool_int h
   ·rw[A1] at h;exact SeqAt.EqAt.int_str i t y u _ _ _ _ h
  ·rcases bg hv with⟨j,u,rfl,rfl⟩ | ⟨y,u,rfl,rfl⟩
   ·rw[A2] at h;exact SeqAt.EqAt.str_int x t j u _ _ _ _ h
   ·rw[A3] at h;exact wpAny_eqBool_str h
 «strs» :=fun k x t v h=>by
  rcases bg h with⟨i,u,rfl,e⟩ | ⟨y,u,rfl,e⟩
  ·exact nomatch e
  ·injection e with e1 _
   subst e1
   cases v<;>rfl
theorem p7(prog:Program)(w:World)(i:Int)(t:Tok):(bz prog w).is (.inl i) (.int i t)=true:=uC i t
theorem p8(prog:Program)(w:World)(x:Str)(t:Tok):(bz prog w).is (.inr x) (.str x t)=true:=uD x t
inductive V where
 |non | bl (b:Bool) | int (i:Int) | str (x:Str) | byt (b:Array UInt8) | flt (b:UInt64) | ref (a:Addr) | ty (n:String)
 deriving DecidableEq
def RelV:V→Value→Prop
 | .non,u=>u=Value.none
 | .bl b,u=>u=Value.bool b
 | .int i,u=>∃t,u=Value.int i t
 | .str x,u=>∃t,u=Value.str x t
 | .byt b,u=>∃t,u=Value.bytes b t
 | .flt b,u=>∃t,u=Value.float b t
 | .ref a,u=>u=Value.ref a
 | .ty n,u=>u=Value.type n
abbrev Vals:List V→List Value→Prop:=Paired RelV
theorem Vals.length{xs:List V}{us:List Value}(r:Vals xs us):xs.length=us.length:=Paired.length r
theorem Vals.get:∀{xs:List V}{us:List Value}{i:Nat}{x:V},Vals xs us→xs[i]? =some x→∃u,us[i]? =some u∧RelV x u
 |_,_,_,_, .nil,e=>by simp at e
 |_,_,0,_, .cons r _,e=>by simp at e;subst e;exact⟨_,rfl,r⟩
 |_,_,i+1,x, .cons _ t,e=>by
  obtain⟨u,h1,h2⟩:=Vals.get (i:=i) (x:=x) t (by simpa using e)
  exact⟨u,by simpa using h1,h2⟩
theorem Vals.append:∀{xs ys:List V}{us ws:List Value},Vals xs us→Vals ys ws→Vals (xs++ys) (us++ws)
 |_,_,_,_, .nil,s=>s
 |_,_,_,_, .cons r t,s=> .cons r (Vals.append t s)
theorem Vals.take:∀{xs:List V}{us:List Value}(n:Nat),Vals xs us→Vals (xs.take n) (us.take n)
 |_,_,0,_=> .nil
 |_,_,_+1, .nil=> .nil
 |_,_,n+1, .cons r t=> .cons r (Vals.take n t)
theorem Vals.drop:∀{xs:List V}{us:List Value}(n:Nat),Vals xs us→Vals (xs.drop n) (us.drop n)
 |_,_,0,r=>r
 |_,_,_+1, .nil=> .nil
 |_,_,n+1, .cons _ t=>Vals.drop n t
def RelO:Option V→Option Value→Prop
 |some v,some u=>RelV v u
 |none,none=>True
 |_,_=>False
def KV{κ:Type}:List (κ×V)→List (κ×Value)→Prop:=Paired fun(p:κ×V) (q:κ×Value)=>p.1=q.1∧RelV p.2 q.2
def kV:Key→V
 | .inl i=> .int i
 | .inr x=> .str x
inductive HO where
 |lst (xs:List V)
 |tup (xs:List V)
 |dK (ax:List (Key×V)) | dT (ax:List (List Key×V))
 |set (S:Int→Bool) (n:Nat)
 |ins (C dx:Addr) (fs:List (Str×V))
 |own (x:Addr)
 |xd (fs:List (Str×V))
 |met (f x:Addr)
 |rng (lo hi:Int)
 |frz (o:Obj) (u:HO)
 |tbl (ps:Array Value)
 |ext (φ:Heap→Prop)
abbrev Hp:=Addr→Option HO
def upd(H:Hp)(a:Addr)(o:HO):Hp:=fun b=>if b=a then some o else H b
theorem aE{H:Hp}{a:Addr}{o:HO}:upd H a o a=some o:=by unfold upd;rw[if_pos rfl]
theorem av{H:Hp}{a b:Addr}{o:HO}(h:b≠a):upd H a o b=H b:=by unfold upd;rw[if_neg h]
theorem zS{H:Hp}{a b:Addr}{o u:HO}(h:H a=some o)(h':H b=some u)(d:o≠u):a≠b:=by
 intro e;subst e;rw[h] at h';exact d (Option.some.inj h')
theorem bu{H:Hp}{a b:Addr}{o:HO}(h:H a=some o)(h':H b=none):a≠b:=by
 intro e;subst e;rw[h] at h';cases h'
section
variable(P:Program)(w:World)
def ObjOk(H:Hp)(h:Heap)(a:Addr):HO→Prop
 | .lst xs=>xs.length≤sizeLine∧∃(aG:List Value) (n:Nat),Vals xs aG∧h.get? a=some {cls:= .type "list",data:= .seq aG.toArray n}
 | .tup xs=>xs.length≤sizeLine∧∃aG:List Value,Vals xs aG∧IsTup h a aG.toArray
 | .dK ax=>ax.length≤sizeLine∧(a==sysModules)=false∧∃vs,KV ax vs∧h.DictOf (bz P w) a vs
 | .dT ax=>ax.length≤sizeLine∧(a==sysModules)=false∧∃xs:List (List Key×Addr×Value),
    Paired (fun (p:List Key×V) (q:List Key×Addr×Value)=>p.1=q.1∧H q.2.1=some (.tup (p.1.map kV))∧RelV p.2 q.2.2) ax xs∧
    ∃o es ep,h.get? a=some o∧o.ExactDict∧o.data= .dict es ep∧es.toList=xs.map (entryOfKey (tupleKind (bz P w)))∧(xs.map (·.1)).Nodup
 | .set S n=>h.SetOf (intKind P w) a S n
 | .ins C dx fs=>H dx=some (.own a)∧fs.length≤1000∧dx≠a∧h.get? a=some (PySem.W.instObj C dx)∧
    ∃mA,h.Ns1 dx mA∧(∀f,RelO (fs.lookup f) (mA f))∧PySem.Within mA (fs.map (·.1))
 | .own _=>∃o,h.get? a=some o
 | .xd fs=>∃mA,h.Ns1 a mA∧∀f,RelO (fs.lookup f) (mA f)
 | .rng lo hi=>∃t u v,h.get? a=some {cls:= .type "range",data:= .fields #[.int lo t, .int hi u, .int 1 v]}
 | .frz o u=>h.get? a=some o∧ObjOk H h a u
 | .tbl ps=>h.get? a=some {cls:= .none,data:= .fields ps}
 | .met f x=>h.get? a=some (PySem.W.methodObj (.ref f) (.ref x))
 | .ext φ=>φ h∧(∃o,h.get? a=some o)∧∀h1 h2:Heap,φ h1→(∀o,h1.get? a=some o→h2.get? a=some o)→φ h2
def HOk(H:Hp)(h:Heap):Prop:=∀a o,H a=some o→ObjOk P w H h a o
end
section
variable{P:Program}{w:World}{H H':Hp}{h h':Heap}{a:Addr}{o:HO}
theorem ObjOk.lt(x:ObjOk P w H h a o):a<h.objs.size:=by
 cases o with
 |lst xs=>obtain⟨_,_,_,_,e⟩:=x;exact Heap.lt_size e
 |tup xs=>obtain⟨_,_,_,p⟩:=x;exact p.lt
 |dK ax=>obtain⟨_,_,_,_,o,_,_,e,_⟩:=x;exact Heap.lt_size e
 |dT ax=>obtain⟨_,_,_,_,o,_,_,e,_⟩:=x;exact Heap.lt_size e
 |set S n=>obtain⟨o,_,_,_,e,_⟩:=x;exact Heap.lt_size e
 |ins C dx fs=>obtain⟨_,_,_,e,_⟩:=x;exact Heap.lt_size e
 |own y=>obtain⟨_,e⟩:=x;exact Heap.lt_size e
 |xd fs=>obtain⟨_,⟨_,_,_,e,_⟩,_⟩:=x;exact Heap.lt_size e
 |rng lo hi=>obtain⟨_,_,_,e⟩:=x;exact Heap.lt_size e
 |frz ob u=>obtain⟨e,_⟩:=x;exact Heap.lt_size e
 |tbl ps=>exact Heap.lt_size (show h.get? a=some _ from x)
 |met f y=>exact Heap.lt_size (show h.get? a=some _ from x)
 |ext φ=>obtain⟨_,⟨_,e⟩,_⟩:=x;exact Heap.lt_size e
theorem Paired.mapP{α β:Type}{F G:α→β→Prop}:∀{l₁:List α}{l₂:List β},Paired F l₁ l₂→(∀a b,F a b→G a b)→Paired G l₁ l₂
 |_,_, .nil,_=> .nil
 |_,_, .cons r t,f=> .cons (f _ _ r) (Paired.mapP t f)
theorem ObjOk.stay(x:ObjOk P w H h a o)(k:∀b u,(b=a∨H b=some (.own a))→h.get? b=some u→h'.get? b=some u)
 (ho:∀b,H b=some (.own a)→H' b=some (.own a))(ht:∀b xs,H b=some (.tup xs)→H' b=some (.tup xs)):ObjOk P w H' h' a o:=by
 induction o with
 |lst xs=>obtain⟨z,aG,n,r,e⟩:=x;exact⟨z,aG,n,r,k _ _ (.inl rfl) e⟩
 |tup xs=>obtain⟨z,aG,r,ob,e,c⟩:=x;exact⟨z,aG,r,ob,k _ _ (.inl rfl) e,c⟩
 |dK ax=>obtain⟨z,y,vs,r,ob,es,ep,e,c⟩:=x;exact⟨z,y,vs,r,ob,es,ep,k _ _ (.inl rfl) e,c⟩
 |dT ax=>
  obtain⟨z,y,xs,r,ob,es,ep,e,c⟩:=x
  exact⟨z,y,xs,Paired.mapP r fun p q z=>⟨z.1,ht _ _ z.2.1,z.2.2⟩,ob,es,ep,k _ _ (.inl rfl) e,c⟩
 |set S n=>obtain⟨ob,es,ep,t,e,c⟩:=x;exact⟨ob,es,ep,t,k _ _ (.inl rfl) e,c⟩
 |ins C dx fs=>
  obtain⟨d,z,ne,e,mA,⟨od,es,ep,e2,c⟩,r⟩:=x
  exact⟨ho _ d,z,ne,k _ _ (.inl rfl) e,mA,⟨od,es,ep,k _ _ (.inr d) e2,c⟩,r⟩
 |own y=>obtain⟨ob,e⟩:=x;exact⟨ob,k _ _ (.inl rfl) e⟩
 |xd fs=>obtain⟨mA,⟨od,es,ep,e,c⟩,r⟩:=x;exact⟨mA,⟨od,es,ep,k _ _ (.inl rfl) e,c⟩,r⟩
 |rng lo hi=>obtain⟨t,u,v,e⟩:=x;exact⟨t,u,v,k _ _ (.inl rfl) e⟩
 |frz ob u ih=>obtain⟨e,q⟩:=x;exact⟨k _ _ (.inl rfl) e,ih q⟩
 |tbl ps=>
  have e:h.get? a=some {cls:= .none,data:= .fields ps}:=x
  show h'.get? a=some {cls:= .none,data:= .fields ps}
  exact k a _ (.inl rfl) e
 |met f y=>
  have e:h.get? a=some (PySem.W.methodObj (.ref f) (.ref y)):=x
  show h'.get? a=some (PySem.W.methodObj (.ref f) (.ref y))
  exact k a _ (.inl rfl) e
 |ext φ=>obtain⟨p,⟨o,e⟩,st⟩:=x;exact⟨st _ _ p fun o q=>k _ _ (.inl rfl) q,⟨o,k _ _ (.inl rfl) e⟩,st⟩
theorem HOk.lt(x:HOk P w H h)(e:H a=some o):a<h.objs.size:=(x a o e).lt
theorem HOk.fresh(x:HOk P w H h)(e:h.objs.size≤a):H a=none:=by
 cases q:H a with
 |none=>rfl
 |some u=>exact absurd (Nat.lt_of_lt_of_le (x.lt q) e) (Nat.lt_irrefl _)
theorem HOk.kept(x:HOk P w H h)(k:∀b u,h.get? b=some u→h'.get? b=some u):HOk P w H h':=fun a o e=>
 (x a o e).stay (fun b u _ q=>k b u q) (fun _ q=>q) fun _ _ q=>q
theorem HOk.laid(x:HOk P w H h)(k:∀b u,h.get? b=some u→h'.get? b=some u)(hp:h.objs.size≤a)(new:ObjOk P w (upd H a o) h' a o):HOk P w (upd H a o) h':=fun b u e=>by
 have hn:=x.fresh hp
 by_cases hb:b=a
 ·subst hb;rw[aE] at e;cases e;exact new
 ·rw[av hb] at e
  exact(x b u e).stay (fun c v _ q=>k c v q) (fun c q=>by rw[av (bu q hn)];exact q) fun c xs q=>by rw[av (bu q hn)];exact q
end
def Rd(H:Hp)(a:Addr)(u:HO):Prop:=H a=some u∨∃o,H a=some (.frz o u)
theorem Rd.ok{P:Program}{w:World}{H:Hp}{h:Heap}{a:Addr}{u:HO}(r:Rd H a u)(x:HOk P w H h):ObjOk P w H h a u:=by
 rcases r with r | ⟨o,r⟩
 ·exact x a u r
 ·obtain⟨_,q⟩:=x a _ r
  exact q
def Ci:Option HO→Prop
 |some (.lst _)=>True
 |some (.dK _)=>True
 |some (.dT _)=>True
 |some (.set _ _)=>True
 |some (.ins _ _ _)=>True
 |some (.ext _)=>True
 |_=>False
section
variable{P:Program}{w:World}{H:Hp}{h h':Heap}{x e:Addr}{o':HO}
theorem HOk.write(ok:HOk P w H h)(mu:Ci (H x))(he:e=x∨H e=some (.own x))(k:∀b u,b≠e→h.get? b=some u→h'.get? b=some u)(B7:∃u,h'.get? e=some u)
 (new:ObjOk P w (upd H x o') h' x o'):HOk P w (upd H x o') h':=fun b u q=>by
 have Df:∀c y,H c=some (.own y)→c≠x:=fun c y r z=>by subst z;rw[r] at mu;exact mu
 have FF:∀c xs,H c=some (.tup xs)→c≠x:=fun c xs r z=>by subst z;rw[r] at mu;exact mu
 by_cases hb:b=x
 ·subst hb;rw[aE] at q;cases q;exact new
 ·rw[av hb] at q
  by_cases Aq:b=e
  ·have q':H b=some (.own x):=by
    rcases he with z | z
    ·exact absurd (Aq.trans z) hb
    ·rw[Aq];exact z
   rw[q] at q';cases q'
   obtain⟨v,hv⟩:=B7
   exact⟨v,by rw[Aq];exact hv⟩
  ·refine(ok b u q).stay (fun c v hc r=>k c v ?_ r) (fun c r=>by rw[av (Df c b r)];exact r) fun c xs r=>by rw[av (FF c xs r)];exact r
   rcases hc with rfl | hc
   ·exact Aq
   ·rintro rfl
    rcases he with z | z
    ·exact Df c b hc z
    ·rw[hc] at z;cases z;exact hb rfl
end
structure Un (fs ex:List Addr) (H H':Hp) (h h':Heap):Prop where
 keep:∀b o,h.get? b=some o→H b=none→b∉fs→b∉ex→h'.get? b=some o
 slot:∀b o,h.get? b=some o→H b=none→b∈fs→b∉ex→∃sl,h'.get? b=some {o with slots:=sl}
 free:∀b o,h.get? b=some o→H b=none→b∉ex→H' b=none
 there:∀b o,h.get? b=some o→b∉ex→∃o',h'.get? b=some o'
 tups:∀b xs,H b=some (.tup xs)→H' b=some (.tup xs)
 frzs:∀b o u,H b=some (.frz o u)→H' b=some (.frz o u)
 tbls:∀b ps,H b=some (.tbl ps)→∃more,H' b=some (.tbl (ps++more))
section
variable{fs EG ex ro:List Addr}{H H1 H2:Hp}{h h1 h2 h':Heap}{a x e:Addr}{o:HO}
theorem Un.any(u:Un fs ex H H1 h h1){b:Addr}{ob:Obj}(q:h.get? b=some ob)(n:H b=none)(hx:b∉ex):∃sl,h1.get? b=some {ob with slots:=sl}:=by
 by_cases hb:b∈fs
 ·exact u.slot b ob q n hb hx
 ·exact⟨ob.slots,u.keep b ob q n hb hx⟩
theorem Un.trans(a:Un fs ex H H1 h h1)(b:Un fs ex H1 H2 h1 h2):Un fs ex H H2 h h2 where
 keep:=fun c ob q n hc hx=>b.keep c ob (a.keep c ob q n hc hx) (a.free c ob q n hx) hc hx
 slot:=fun c ob q n hc hx=>by
  obtain⟨sl,e1⟩:=a.slot c ob q n hc hx
  obtain⟨BO,e2⟩:=b.slot c _ e1 (a.free c ob q n hx) hc hx
  exact⟨BO,e2⟩
 free:=fun c ob q n hx=>by
  obtain⟨o',e1⟩:=a.there c ob q hx
  exact b.free c o' e1 (a.free c ob q n hx) hx
 there:=fun c ob q hx=>by
  obtain⟨o',e1⟩:=a.there c ob q hx
  exact b.there c o' e1 hx
 tups:=fun c xs q=>b.tups c xs (a.tups c xs q)
 frzs:=fun c ob xs q=>b.frzs c ob xs (a.frzs c ob xs q)
 tbls:=fun c ps q=>by
  obtain⟨m1,e1⟩:=a.tbls c ps q
  obtain⟨m2,e2⟩:=b.tbls c _ e1
  exact⟨m1++m2,by rw[e2,Array.append_assoc]⟩
theorem Un.kept(k:∀b u,h.get? b=some u→h'.get? b=some u):Un fs ex H H h h':=
 ⟨fun b ob q _ _ _=>k b ob q,fun b ob q _ _ _=>⟨ob.slots,k b ob q⟩,fun _ _ _ n _=>n,fun b ob q _=>⟨ob,k b ob q⟩,fun _ _ q=>q,fun _ _ _ q=>q,fun _ ps q=>⟨#[],by rw[q];simp⟩⟩
theorem Un.refl:Un fs ex H H h h:=Un.kept fun _ _ q=>q
theorem Un.laid(k:∀b u,h.get? b=some u→h'.get? b=some u)(hp:h.objs.size≤a)(hn:H a=none):Un fs ex H (upd H a o) h h' where
 keep:=fun b u q _ _ _=>k b u q
 slot:=fun b u q _ _ _=>⟨u.slots,k b u q⟩
 free:=fun b u q n _=>by rw[av (Nat.ne_of_lt (Nat.lt_of_lt_of_le (Heap.lt_size q) hp))];exact n
 there:=fun b u q _=>⟨u,k b u q⟩
 tups:=fun b xs q=>by rw[av (bu q hn)];exact q
 frzs:=fun b u xs q=>by rw[av (bu q hn)];exact q
 tbls:=fun b ps q=>⟨#[],by rw[av (bu q hn),q];simp⟩
theorem Un.write(mu:Ci (H x))(he:e=x∨H e=some (.own x))(k:∀b u,b≠e→h.get? b=some u→h'.get? b=some u)(B7:∃u,h'.get? e=some u):Un fs ex H (upd H x o) h h':=by
 have hx:∀b,H b=none→b≠x:=fun b n z=>by subst z;rw[n] at mu;exact mu
 have hb:∀b,H b=none→b≠e:=fun b n z=>by
  subst z
  rcases he with r | r
  ·exact hx b n r
  ·rw[n] at r;cases r
 have hm:∀b u,H b=some u→¬Ci (some u)→b≠x:=fun b u q nm z=>by subst z;rw[q] at mu;exact nm mu
 refine⟨fun b u q n _ _=>k b u (hb b n) q,fun b u q n _ _=>⟨u.slots,k b u (hb b n) q⟩,fun b u q n _=>by rw[av (hx b n)];exact n,fun b u q _=>?_,
  fun b xs q=>by rw[av (hm b _ q fun z=>z)];exact q,fun b u xs q=>by rw[av (hm b _ q fun z=>z)];exact q,fun b ps q=>⟨#[],by rw[av (hm b _ q fun z=>z),q];simp⟩⟩
 by_cases Aq:b=e
 ·subst Aq;exact B7
 ·exact⟨u,k b u Aq q⟩
theorem Un.mono(u:Un fs ex H H1 h h1)(hs:∀b∈fs,b∈EG)(hx:∀b∈ex,b∈ro):Un EG ro H H1 h h1:=
 ⟨fun b ob q n hb he=>u.keep b ob q n (fun z=>hb (hs b z)) fun z=>he (hx b z),fun _ _ q n _ he=>u.any q n fun z=>he (hx _ z),fun b ob q n he=>u.free b ob q n fun z=>he (hx b z),fun b ob q he=>u.there b ob q fun z=>he (hx b z),u.tups,u.frzs,u.tbls⟩
end
def Eo(h:Heap)(H:Hp):List Addr:=(List.range h.objs.size).filter fun a=>(H a).isSome
def oi(h:Heap)(H:Hp):Heap:=PySem.W.hideAll h (Eo h H)
theorem uu(h:Heap)(H:Hp):(oi h H).objs.size=h.objs.size:=PySem.W.hideAll_size _ _
theorem vW{h:Heap}{H:Hp}{b:Addr}{o:Obj}(e:h.get? b=some o)(n:H b=none):(oi h H).get? b=some o:=
 PySem.W.hideAll_get _ e fun hm=>by
  have q:(H b).isSome=true:=(List.mem_filter.mp hm).2
  rw[n] at q;simp at q
theorem yo{h:Heap}{H:Hp}{b:Addr}{o:Obj}(e:(oi h H).get? b=some o):h.get? b=some o∧H b=none:=by
 have e':h.get? b=some o:=PySem.W.of_hideAll (Eo h H) e
 refine⟨e',?_⟩
 cases q:H b with
 |none=>rfl
 |some x=>
  have hm:b∈Eo h H:=List.mem_filter.mpr ⟨List.mem_range.mpr (Heap.lt_size e'),by simp[q]⟩
  have z:(oi h H).get? b=none:=PySem.W.hideAll_none (Eo h H) hm
  rw[z] at e;cases e
def xH(g h:Heap)(L:Addr):List (Addr×Obj):=(List.range h.objs.size).filterMap fun a=>if a=L∨(g.get? a).isSome=true then none else(h.get? a).map fun o=>(a,o)
def rest(g h:Heap)(L d:Addr):List (Addr×Obj):=(xH g h L).filter fun p=>decide (p.1≠d)
structure Mod (K:W.Frag) (mg:Str→Option Value) (base:Heap):Prop where
 kin:K.In base
 glob:base.Ns mainGlobals mg
 blt:∃mb,base.Ns builtinsNs mb∧∀x:Str,x≠"__name__"→mb x=bootBuiltins x
 nolimit:base.NoLimit
structure Cx where
 prog:Program
 w:World
 K:W.Frag
 mg:Str→Option Value
 base:Heap
 A:Around
 N:List Str
 s₀:Shared
 H₀:Hp
 env:Env
 outer:List Env
 stack:List Env
 ex:List Addr
 fn:Str→Bool
 calm:Bool
 pn:List (Addr×Obj)
 xe:Value→Shared→Prop
def j8(l:List Env):List Addr:=l.filterMap (·.frame)
abbrev Cx.fs(X:Cx):List Addr:=j8 X.outer
def EC(sc:Scope)(x:Str):Prop:=sc.names.lookup x=some .local∨sc.names.lookup x=some .cell∨sc.names.lookup x=some .free
def Loc(sc:Scope)(x:Str):Prop:=sc.names.lookup x=some .local∨sc.names.lookup x=some .cell
def Look(env:Env)(h:Heap)(m:Str→Option Value)(x:Str)(u:Value):Prop:=
 (env.kindOf x=some .local∧m x=some u)∨((env.kindOf x=some .cell∨env.kindOf x=some .free)∧∃c,env.cells.lookup x=some c∧h.IsCell c (some u))
structure Cx.Ok (X:Cx):Prop where
 mod:Mod X.K X.mg X.base
 kind:X.env.scope.kind= .function
 glob:X.env.globals=mainGlobals
 blt:X.env.builtins=builtinsNs
 above:X.s₀.heap.objs.size≤X.env.locals
 inj:∀x y c,X.env.cells.lookup x=some c→X.env.cells.lookup y=some c→x=y
 has:∀x,(X.env.kindOf x=some .cell∨X.env.kindOf x=some .free)→∃c,X.env.cells.lookup x=some c
 cab:∀x c,X.fn x=true→X.env.cells.lookup x=some c→X.s₀.heap.objs.size≤c
 hd:X.calm=true→X.A.handled=none
 frames:X.A.frames=some X.stack
 stk:X.stack=X.outer∨(X.stack=X.env::X.outer∧X.env.frame=some X.env.locals)
 exf:∀b∈X.ex,b≠X.env.locals∧∀x c,X.env.cells.lookup x=some c→c≠b
 bs:∀b o,X.base.get? b=some o→X.s₀.heap.get? b=some o∧X.H₀ b=none
 bsz:X.base.objs.size≤X.s₀.heap.objs.size
 noex:∀b o,X.base.get? b=some o→b∉X.ex
 exfs:∀b∈X.ex,b∉X.fs
 funs:X.s₀.heap.FunFrames X.base X.outer
 frf:∀b∈X.fs,X.H₀ b=none
structure Inv (X:Cx) (pins:List (Addr×Obj)) (σ:List (Option V)) (H:Hp) (s:Shared):Prop where
 ok:X.Ok
 os:s.os=X.s₀.os
 bare:AllBare s.gens
 base:Un X.fs X.ex X.H₀ H X.s₀.heap s.heap
 loc:∃m,s.heap.Ns X.env.locals m∧∀(i:Nat) (x:Str) (v:V),X.N[i]? =some x→σ[i]? =some (some v)→EC X.env.scope x→∃u,RelV v u∧Look X.env s.heap m x u
 cell:∀x c,X.env.cells.lookup x=some c→∃v,s.heap.IsCell c v
 free:H X.env.locals=none
 freeC:∀x c,X.env.cells.lookup x=some c→H c=none
 pin:∀p∈X.pn++pins,s.heap.get? p.1=some p.2∧H p.1=none∧p.1≠X.env.locals∧p.1∉X.fs∧∀v,p.2.data≠ .cell v
 hok:HOk X.prog X.w H s.heap
 len:σ.length=X.N.length
section
variable{X:Cx}{pins:List (Addr×Obj)}{σ:List (Option V)}{H H':Hp}{s:Shared}{h':Heap}
theorem Cx.Ok.nofr(ok:X.Ok){b:Addr}{o:Obj}(e:X.base.get? b=some o):b∉X.fs:=fun hb=>by
 have:=(ok.funs.mem hb).1
 rw[e] at this;cases this
theorem Inv.bs(I:Inv X pins σ H s):∀b o,X.base.get? b=some o→s.heap.get? b=some o∧H b=none:=fun b o e=>
 ⟨I.base.keep b o (I.ok.bs b o e).1 (I.ok.bs b o e).2 (I.ok.nofr e) (I.ok.noex b o e),I.base.free b o (I.ok.bs b o e).1 (I.ok.bs b o e).2 (I.ok.noex b o e)⟩
theorem Inv.bk(I:Inv X pins σ H s):∀b o,X.base.get? b=some o→s.heap.get? b=some o:=fun b o e=>(I.bs b o e).1
theorem Inv.mod(I:Inv X pins σ H s):Mod X.K X.mg X.base:=I.ok.mod
theorem Inv.kIn(I:Inv X pins σ H s):X.K.In s.heap:=I.ok.mod.kin.keeps I.bk
theorem Inv.nolimit(I:Inv X pins σ H s):s.heap.NoLimit:=I.ok.mod.nolimit.keeps I.bk
theorem Inv.lt(I:Inv X pins σ H s):X.env.locals<s.heap.objs.size:=let ⟨_,hn,_⟩:=I.loc;hn.lt
theorem Inv.sz(I:Inv X pins σ H s):X.s₀.heap.objs.size≤s.heap.objs.size:=Nat.le_trans I.ok.above (Nat.le_of_lt I.lt)
theorem Inv.nofs(I:Inv X pins σ H s){a:Addr}(h:s.heap.objs.size≤a):a∉X.fs:=fun hb=>by
 obtain⟨_,o,ho,_⟩:=I.ok.funs.mem hb
 exact absurd (Nat.lt_of_lt_of_le (Heap.lt_size ho) (Nat.le_trans I.sz h)) (Nat.lt_irrefl _)
theorem Inv.cne(I:Inv X pins σ H s):∀x c,X.env.cells.lookup x=some c→c≠X.env.locals:=fun x c e z=>by
 obtain⟨v,o,ho,hd⟩:=I.cell x c e
 obtain⟨m,⟨o',es,ep,mO,vT,_⟩,_⟩:=I.loc
 rw[z,mO] at ho;cases ho;rw[vT] at hd;cases hd
theorem Inv.funs(I:Inv X pins σ H s):s.heap.FunFrames X.base X.outer:=by
 have all:∀(l:List Env),(∀b∈j8 l,b∈X.fs)→X.s₀.heap.FunFrames X.base l→s.heap.FunFrames X.base l:=by
  intro l
  induction l with
  |nil=>intro _ _;trivial
  |cons env r ih=>
   intro hs hl
   obtain⟨hk,⟨L,o,hf,hn,ho,hd⟩,hr⟩:=hl
   have hL:L∈X.fs:=hs L (by unfold j8;rw[List.filterMap_cons,hf];exact List.mem_cons_self)
   obtain⟨sl,e⟩:=I.base.slot L o ho (I.ok.frf L hL) hL fun z=>I.ok.exfs L z hL
   exact⟨hk,⟨L,_,hf,hn,e,hd⟩,ih (fun b hb=>hs b (by unfold j8;rw[List.filterMap_cons,hf];exact List.mem_cons_of_mem _ hb)) hr⟩
 exact all X.outer (fun _ hb=>hb) I.ok.funs
theorem Inv.stack(I:Inv X pins σ H s):s.heap.FunFrames X.base X.stack:=by
 rcases I.ok.stk with e | ⟨e,hf⟩
 ·rw[e];exact I.funs
 ·rw[e]
  obtain⟨m,hn,_⟩:=I.loc
  refine .cons (by rw[I.ok.kind];decide) hf hn ?_ I.funs
  exact Heap.get?_none_of_le (Nat.le_trans I.ok.bsz I.ok.above)
theorem Inv.stkSub(I:Inv X pins σ H s):∀b∈j8 X.stack,b∈X.env.locals::X.fs:=fun b hb=>by
 rcases I.ok.stk with e | ⟨e,hf⟩
 ·rw[e] at hb;exact List.mem_cons_of_mem _ hb
 ·rw[e] at hb
  unfold j8 at hb
  rw[List.filterMap_cons,hf] at hb
  exact hb
theorem Inv.stkFree(I:Inv X pins σ H s):∀b∈j8 X.stack,H b=none:=fun b hb=>by
 rcases List.mem_cons.mp (I.stkSub b hb) with e | hb
 ·rw[e];exact I.free
 ·obtain⟨_,o,ho,_⟩:=I.ok.funs.mem hb
  exact I.base.free b o ho (I.ok.frf b hb) fun z=>I.ok.exfs b z hb
theorem Inv.step{g':Array GenState}{t':Nat}{d':Drawn}{ch:List Addr}(I:Inv X pins σ H s)
 (xC:∀b∈ch,(b∈X.ex∨X.s₀.heap.objs.size≤b)∧b≠X.env.locals∧(∀x c,X.env.cells.lookup x=some c→c≠b)∧∀p∈X.pn++pins,p.1≠b)
 (keep:∀b o,b≠X.env.locals→b∉X.fs→b∉ch→s.heap.get? b=some o→H b=none→h'.get? b=some o)
 (slot:∀b o,b≠X.env.locals→b∈X.fs→b∉ch→s.heap.get? b=some o→H b=none→∃sl,h'.get? b=some {o with slots:=sl})(free:∀b o,b∉ch→s.heap.get? b=some o→H b=none→H' b=none)
 (there:∀b o,b∉ch→s.heap.get? b=some o→∃o',h'.get? b=some o')
 (tups:∀b xs,H b=some (.tup xs)→H' b=some (.tup xs))(frzs:∀b o u,H b=some (.frz o u)→H' b=some (.frz o u))(tbls:∀b ps,H b=some (.tbl ps)→∃more,H' b=some (.tbl (ps++more)))
 (ns:∀m,s.heap.Ns X.env.locals m→h'.Ns X.env.locals m)(hok:HOk X.prog X.w H' h')(hg:AllBare g'):
 Inv X pins σ H' {s with heap:=h',gens:=g',drawn:=d',toks:=t'}:=by
 have G4:∀b o,X.s₀.heap.get? b=some o→b≠X.env.locals:=fun b o e=>Nat.ne_of_lt (Nat.lt_of_lt_of_le (Heap.lt_size e) I.ok.above)
 have Ek:∀b o,X.s₀.heap.get? b=some o→b∉X.ex→b∉ch:=fun b o e hx hb=>by
  rcases(xC b hb).1 with z | z
  ·exact hx z
  ·exact absurd (Nat.lt_of_lt_of_le (Heap.lt_size e) z) (Nat.lt_irrefl _)
 have cellK:∀x c,X.env.cells.lookup x=some c→∀v,s.heap.IsCell c v→h'.IsCell c v:=fun x c e v ⟨o,ho,hd⟩=>by
  have Dd:c∉ch:=fun z=>(xC c z).2.2.1 x c e rfl
  by_cases hc:c∈X.fs
  ·obtain⟨sl,q⟩:=slot c o (I.cne x c e) hc Dd ho (I.freeC x c e)
   exact⟨_,q,hd⟩
  ·exact⟨o,keep c o (I.cne x c e) hc Dd ho (I.freeC x c e),hd⟩
 refine⟨I.ok,I.os,hg,⟨fun b o e n hb hx=>?_,fun b o e n hb hx=>?_,fun b o e n hx=>?_,fun b o e hx=>?_,fun b xs e=>tups b xs (I.base.tups b xs e),fun b o xs e=>frzs b o xs (I.base.frzs b o xs e),fun b ps e=>?_⟩,?_,fun x c e=>?_,?_,fun x c e=>?_,fun p hp=>?_,hok,I.len⟩
 ·exact keep b o (G4 b o e) hb (Ek b o e hx) (I.base.keep b o e n hb hx) (I.base.free b o e n hx)
 ·obtain⟨sl,e1⟩:=I.base.slot b o e n hb hx
  obtain⟨BO,e2⟩:=slot b _ (G4 b o e) hb (Ek b o e hx) e1 (I.base.free b o e n hx)
  exact⟨BO,e2⟩
 ·obtain⟨o',e1⟩:=I.base.there b o e hx
  exact free b o' (Ek b o e hx) e1 (I.base.free b o e n hx)
 ·obtain⟨o',e1⟩:=I.base.there b o e hx
  exact there b o' (Ek b o e hx) e1
 ·obtain⟨m1,e1⟩:=I.base.tbls b ps e
  obtain⟨m2,e2⟩:=tbls b _ e1
  exact⟨m1++m2,by rw[e2,Array.append_assoc]⟩
 ·obtain⟨m,hn,hl⟩:=I.loc
  refine⟨m,ns m hn,fun i x v e1 e2 e3=>?_⟩
  obtain⟨u,r,l⟩:=hl i x v e1 e2 e3
  refine⟨u,r,?_⟩
  rcases l with l | ⟨k,c,e,z⟩
  ·exact .inl l
  ·exact .inr ⟨k,c,e,cellK x c e _ z⟩
 ·obtain⟨v,z⟩:=I.cell x c e
  exact⟨v,cellK x c e v z⟩
 ·obtain⟨m,⟨o,_,_,ho,_⟩,_⟩:=I.loc
  exact free _ o (fun z=>(xC _ z).2.1 rfl) ho I.free
 ·obtain⟨v,o,ho,hd⟩:=I.cell x c e
  exact free c o (fun z=>(xC c z).2.2.1 x c e rfl) ho (I.freeC x c e)
 ·obtain⟨e,n,ne,nf,d⟩:=I.pin p hp
  have Dd:p.1∉ch:=fun z=>(xC p.1 z).2.2.2 p hp rfl
  exact⟨keep p.1 p.2 ne nf Dd e n,free p.1 p.2 Dd e n,ne,nf,d⟩
theorem Inv.un{t':Nat}(I:Inv X pins σ H s)(u:Un X.fs [] H H' s.heap h')(hok:HOk X.prog X.w H' h'):Inv X pins σ H' {s with heap:=h',toks:=t'}:=by
 obtain⟨m,⟨o,es,ep,ho,r⟩,_⟩:=id I.loc
 obtain⟨sl,hL⟩:=u.any ho I.free (by simp)
 exact I.step (g':=s.gens) (d':=s.drawn) (ch:=[]) (fun _ z=>nomatch z) (fun b o _ hb _ e n=>u.keep b o e n hb (by simp)) (fun b o _ hb _ e n=>u.slot b o e n hb (by simp)) (fun b o _ e n=>u.free b o e n (by simp)) (fun b o _ e=>u.there b o e (by simp)) u.tups u.frzs u.tbls (fun m' hm=>by
  obtain⟨o',B4,Cv,mO,r'⟩:=hm
  rw[ho] at mO;cases mO
  exact⟨_,B4,Cv,hL,r'⟩) hok I.bare
theorem Inv.call{g':Array GenState}{t':Nat}{d':Drawn}{ch:List Addr}(I:Inv X pins σ H s)(u:Un (j8 X.stack) ch H H' s.heap h')(hok:HOk X.prog X.w H' h')(hg:AllBare g')
 (xC:∀b∈ch,(b∈X.ex∨X.s₀.heap.objs.size≤b)∧b≠X.env.locals∧(∀x c,X.env.cells.lookup x=some c→c≠b)∧∀p∈X.pn++pins,p.1≠b):
 Inv X pins σ H' {s with heap:=h',gens:=g',drawn:=d',toks:=t'}:=by
 obtain⟨m,⟨o,es,ep,ho,r⟩,_⟩:=id I.loc
 obtain⟨sl,hL⟩:=u.any ho I.free fun z=>(xC _ z).2.1 rfl
 exact I.step (ch:=ch) xC (fun b o hL hb hc e n=>u.keep b o e n (fun z=>(List.mem_cons.mp (I.stkSub b z)).elim hL hb) hc) (fun b o _ _ hc e n=>u.any e n hc) (fun b o hc e n=>u.free b o e n hc) (fun b o hc e=>u.there b o e hc) u.tups u.frzs u.tbls (fun m' hm=>by
  obtain⟨o',B4,Cv,mO,r'⟩:=hm
  rw[ho] at mO;cases mO
  exact⟨_,B4,Cv,hL,r'⟩) hok hg
theorem Inv.turned{t':Nat}{it:Addr}(I:Inv X pins σ H s)(k:∀b o,b≠it→s.heap.get? b=some o→h'.get? b=some o)(hn:H it=none)(hL:it≠X.env.locals)
 (h1:it∈X.ex∨X.s₀.heap.objs.size≤it)(h2:∀x c,X.env.cells.lookup x=some c→c≠it)(h3:∀p∈X.pn++pins,p.1≠it):Inv X pins σ H {s with heap:=h',toks:=t'}:=by
 have G5:∀b u,H b=some u→b≠it:=fun b u e z=>by rw[z,hn] at e;cases e
 refine I.step (g':=s.gens) (d':=s.drawn) (ch:=[it]) (fun b hb=>?_) (fun b o _ _ hc e _=>k b o (fun z=>hc (by simp[z])) e) (fun b o _ _ hc e _=>⟨o.slots,k b o (fun z=>hc (by simp[z])) e⟩) (fun _ _ _ _ n=>n)
  (fun b o hc e=>⟨o,k b o (fun z=>hc (by simp[z])) e⟩) (fun _ _ e=>e) (fun _ _ _ e=>e) (fun b ps e=>⟨#[],by rw[e];simp⟩) (fun m hm=>?_) (fun b u e=>?_) I.bare
 ·have e:b=it:=by simpa using hb
  subst e
  exact⟨h1,hL,h2,h3⟩
 ·obtain⟨o,es,ep,ho,r⟩:=hm
  exact⟨o,es,ep,k _ o (Ne.symm hL) ho,r⟩
 ·refine(I.hok b u e).stay (fun c v hc q=>k c v ?_ q) (fun _ q=>q) fun _ _ q=>q
  rcases hc with z | z
  ·rw[z];exact G5 b u e
  ·exact G5 c _ z
theorem Inv.tok(I:Inv X pins σ H s)(t:Nat):Inv X pins σ H {s with toks:=t}:=I.un (h':=s.heap) (t':=t) Un.refl I.hok
theorem Inv.kept{t':Nat}(I:Inv X pins σ H s)(k:∀b u,s.heap.get? b=some u→h'.get? b=some u):Inv X pins σ H {s with heap:=h',toks:=t'}:=I.un (Un.kept k) (I.hok.kept k)
theorem Inv.laid{a:Addr}{o:HO}{t':Nat}(I:Inv X pins σ H s)(k:∀b u,s.heap.get? b=some u→h'.get? b=some u)(hp:s.heap.objs.size≤a)(new:ObjOk X.prog X.w (upd H a o) h' a o):
 Inv X pins σ (upd H a o) {s with heap:=h',toks:=t'}:=I.un (Un.laid k hp (I.hok.fresh hp)) (I.hok.laid k hp new)
theorem Inv.write{x e:Addr}{o:HO}{t':Nat}(I:Inv X pins σ H s)(mu:Ci (H x))(he:e=x∨H e=some (.own x))(k:∀b u,b≠e→s.heap.get? b=some u→h'.get? b=some u)(B7:∃u,h'.get? e=some u)
 (new:ObjOk X.prog X.w (upd H x o) h' x o):Inv X pins σ (upd H x o) {s with heap:=h',toks:=t'}:=I.un (Un.write mu he k B7) (I.hok.write mu he k B7 new)
theorem Inv.pins_of{zY:List (Addr×Obj)}(I:Inv X pins σ H s)(h:∀p∈zY,s.heap.get? p.1=some p.2∧H p.1=none∧p.1≠X.env.locals∧p.1∉X.fs∧∀v,p.2.data≠ .cell v):Inv X zY σ H s:=
 ⟨I.ok,I.os,I.bare,I.base,I.loc,I.cell,I.free,I.freeC,fun p hp=>(List.mem_append.mp hp).elim (fun z=>I.pin p (List.mem_append_left _ z)) (h p),I.hok,I.len⟩
theorem qa{N:List Str}(hN:N.Nodup){i j:Nat}{x:Str}(a:N[i]? =some x)(b:N[j]? =some x):i=j:=by
 obtain⟨h1,e1⟩:=List.getElem?_eq_some_iff.mp a
 obtain⟨h2,e2⟩:=List.getElem?_eq_some_iff.mp b
 exact(List.getElem_inj hN).mp (e1.trans e2.symm)
theorem nP{M:Model}{A:Around}{E:Value→Shared→Prop}{i:Nat}{x:Str}{v:V}{u:Value}{Q:Unit→Shared→Prop}(I:Inv X pins σ H s)(hN:X.N.Nodup)(hi:X.N[i]? =some x)(hx:Loc X.env.scope x)(r:RelV v u)
 (h:∀s',Inv X pins (σ.set i (some v)) H s'→(∃a,Heap.SameBut a s.heap s'.heap∧(a=X.env.locals∨X.env.cells.lookup x=some a))→Q () s')(hf:X.fn x=true∨X.env.scope.names.lookup x=some .local:=by first | exact .inl rfl | exact .inr rfl | assumption):wpAny M A (storeName X.env x u) Q E s:=by
 obtain⟨m,hn,hl⟩:=id I.loc
 have ET:(X.env.scope.kind== .class||(X.env.scope.kind== .module&&X.env.locals !=X.env.globals))=false:=by rw[I.ok.kind];rfl
 have GD:i<σ.length:=by rw[I.len];exact(List.getElem?_eq_some_iff.mp hi).1
 have cne:=I.cne
 have tracked:∀{a:Addr}{h':Heap},(∃o,s.heap.get? a=some o∧H a=none)→Heap.SameBut a s.heap h'→HOk X.prog X.w H h':=fun {a h'} ha hs b ob e=>by
  obtain⟨_,_,zG⟩:=ha
  refine(I.hok b ob e).stay (fun c w' hc q=>(hs.2 c ?_).trans q) (fun _ q=>q) fun _ _ q=>q
  rintro rfl
  rcases hc with rfl | hc
  ·rw[zG] at e;cases e
  ·rw[zG] at hc;cases hc
 rcases hx with hk | hk
 ·refine wpAny_storeName_local hk hn (fun h' AA hs=>?_) ET
  obtain⟨oL,_,_,Ec,_⟩:=id hn
  refine h _ ⟨I.ok,I.os,I.bare,⟨fun b o e n hb hx=>?_,fun b o e n hb hx=>?_,I.base.free,fun b o e hx=>?_,I.base.tups,I.base.frzs,I.base.tbls⟩,⟨_,AA,fun j y v' e1 e2 e3=>?_⟩,fun y c e=>?_,I.free,I.freeC,fun p hp=>?_,tracked ⟨oL,Ec,I.free⟩ hs,by simpa using I.len⟩ ⟨_,hs, .inl rfl⟩
  ·exact(hs.2 b (Nat.ne_of_lt (Nat.lt_of_lt_of_le (Heap.lt_size e) I.ok.above))).trans (I.base.keep b o e n hb hx)
  ·obtain⟨sl,e1⟩:=I.base.slot b o e n hb hx
   exact⟨sl,(hs.2 b (Nat.ne_of_lt (Nat.lt_of_lt_of_le (Heap.lt_size e) I.ok.above))).trans e1⟩
  ·obtain⟨o',e1⟩:=I.base.there b o e hx
   exact⟨o',(hs.2 b (Nat.ne_of_lt (Nat.lt_of_lt_of_le (Heap.lt_size e) I.ok.above))).trans e1⟩
  ·by_cases hj:j=i
   ·subst hj
    rw[hi] at e1;cases e1
    rw[List.getElem?_set_self GD] at e2
    cases e2
    exact⟨u,r, .inl ⟨hk,by simp⟩⟩
   ·rw[List.getElem?_set_ne (Ne.symm hj)] at e2
    obtain⟨u',r',q⟩:=hl j y v' e1 e2 e3
    refine⟨u',r',?_⟩
    rcases q with⟨k,e⟩ | ⟨k,c,e,z⟩
    ·refine .inl ⟨k,?_⟩
     have:y≠x:=fun e=>hj (qa hN e1 (e▸hi))
     simp[this,e]
    ·exact .inr ⟨k,c,e,z.sameBut hs (cne y c e)⟩
  ·obtain⟨w',z⟩:=I.cell y c e
   exact⟨w',z.sameBut hs (cne y c e)⟩
  ·obtain⟨e,n,ne,nf,d⟩:=I.pin p hp
   exact⟨(hs.2 p.1 ne).trans e,n,ne,nf,d⟩
 ·have EW:X.fn x=true:=by
   rcases hf with z | z
   ·exact z
   ·rw[z] at hk;cases hk
  obtain⟨c,hc⟩:=I.ok.has x (.inl hk)
  obtain⟨w',z⟩:=I.cell x c hc
  refine wpAny_storeName_cell I.ok.kind hk hc z (fun h' zB hs=>?_)
  obtain⟨oc,GN,E9⟩:=id z
  refine h {s with heap:=h'} ⟨I.ok,I.os,I.bare,⟨fun b o e n hb hx=>?_,fun b o e n hb hx=>?_,I.base.free,fun b o e hx=>?_,I.base.tups,I.base.frzs,I.base.tbls⟩,⟨m,hn.sameBut hs (Ne.symm (cne x c hc)),fun j y v' e1 e2 e3=>?_⟩,fun y c' e=>?_,I.free,I.freeC,fun p hp=>?_,tracked ⟨oc,GN,I.freeC x c hc⟩ hs,by simpa using I.len⟩ ⟨c,hs, .inr hc⟩
  ·exact(hs.2 b (Nat.ne_of_lt (Nat.lt_of_lt_of_le (Heap.lt_size e) (I.ok.cab x c EW hc)))).trans (I.base.keep b o e n hb hx)
  ·obtain⟨sl,e1⟩:=I.base.slot b o e n hb hx
   exact⟨sl,(hs.2 b (Nat.ne_of_lt (Nat.lt_of_lt_of_le (Heap.lt_size e) (I.ok.cab x c EW hc)))).trans e1⟩
  ·obtain⟨o',e1⟩:=I.base.there b o e hx
   exact⟨o',(hs.2 b (Nat.ne_of_lt (Nat.lt_of_lt_of_le (Heap.lt_size e) (I.ok.cab x c EW hc)))).trans e1⟩
  ·by_cases hj:j=i
   ·subst hj
    rw[hi] at e1;cases e1
    rw[List.getElem?_set_self GD] at e2
    cases e2
    exact⟨u,r, .inr ⟨.inl hk,c,hc,zB⟩⟩
   ·rw[List.getElem?_set_ne (Ne.symm hj)] at e2
    obtain⟨u',r',q⟩:=hl j y v' e1 e2 e3
    refine⟨u',r',?_⟩
    rcases q with q | ⟨k,c',e,z'⟩
    ·exact .inl q
    ·refine .inr ⟨k,c',e,z'.sameBut hs ?_⟩
     rintro rfl
     exact hj (qa hN e1 (I.ok.inj _ _ _ e hc▸hi))
  ·by_cases D9:c'=c
   ·subst D9;exact⟨_,zB⟩
   ·obtain⟨w2,z2⟩:=I.cell y c' e
    exact⟨w2,z2.sameBut hs D9⟩
  ·obtain⟨e,n,ne,nf,d⟩:=I.pin p hp
   refine⟨(hs.2 p.1 ?_).trans e,n,ne,nf,d⟩
   intro q
   rw[q,GN] at e
   have q':oc=p.2:=Option.some.inj e
   exact d w' (by rw[←q'];exact E9)
theorem qK{M:Model}{A:Around}{E:Value→Shared→Prop}{i:Nat}{x:Str}{v:V}{u:Value}{Q:Unit→Shared→Prop}(I:Inv X pins σ H s)(hN:X.N.Nodup)(hi:X.N[i]? =some x)(hx:Loc X.env.scope x)(r:RelV v u)
 (h:∀s',Inv X pins (σ.set i (some v)) H s'→Q () s')(hf:X.fn x=true∨X.env.scope.names.lookup x=some .local:=by first | exact .inl rfl | exact .inr rfl | assumption):wpAny M A (storeName X.env x u) Q E s:=
 nP I hN hi hx r (fun s' I' _=>h s' I') hf
theorem Inv.call'{s':Shared}{ch:List Addr}(I:Inv X pins σ H s)(ho:s'.os=s.os)(u:Un (j8 X.stack) ch H H' s.heap s'.heap)(hok:HOk X.prog X.w H' s'.heap)(hg:AllBare s'.gens)
 (xC:∀b∈ch,(b∈X.ex∨X.s₀.heap.objs.size≤b)∧b≠X.env.locals∧(∀x c,X.env.cells.lookup x=some c→c≠b)∧∀p∈X.pn++pins,p.1≠b):Inv X pins σ H' s':=by
 obtain⟨h',g',d',t',o'⟩:=s'
 have e:o'=s.os:=ho
 subst e
 exact I.call (g':=g') (t':=t') (d':=d') u hok hg xC
end
abbrev XK:=Value→Option Addr→Hp→Prop
abbrev St:=List (Option V)
abbrev VK:=V→Hp→Prop
abbrev TE:=St→Hp→VK→Prop
abbrev TT:=St→Hp→(Bool→Hp→Prop)→Prop
abbrev TA:=St→Hp→(List V→Hp→Prop)→Prop
structure Ends where
 nx:St→Hp→Prop
 rt:VK
 bk:St→Hp→Prop:=fun _ _=>False
 ct:St→Hp→Prop:=fun _ _=>False
abbrev TS:=Ends→St→Hp→Prop
def EP(X:Cx)(pins:List (Addr×Obj))(σ:St)(Q:VK)(u:Value)(s':Shared):Prop:=∃v H',Inv X pins σ H' s'∧RelV v u∧Q v H'
def TP(X:Cx)(pins:List (Addr×Obj))(σ:St)(Q:Bool→Hp→Prop)(b:Bool)(s':Shared):Prop:=∃H',Inv X pins σ H' s'∧Q b H'
def AP(X:Cx)(pins:List (Addr×Obj))(σ:St)(Q:List V→Hp→Prop)(us:List Value)(s':Shared):Prop:=∃vs H',Inv X pins σ H' s'∧Vals vs us∧Q vs H'
def SP(X:Cx)(pins:List (Addr×Obj))(D:Ends)(f:Flow)(s':Shared):Prop:=
 match f with
 | .next=>∃σ' H',Inv X pins σ' H' s'∧D.nx σ' H'
 | .brk=>∃σ' H',Inv X pins σ' H' s'∧D.bk σ' H'
 | .cont=>∃σ' H',Inv X pins σ' H' s'∧D.ct σ' H'
 | .ret u=>∃v σ' H',Inv X pins σ' H' s'∧RelV v u∧D.rt v H'
def PE(X:Cx)(e:Expr)(t:TE):Prop:=
 ∀(pins:List (Addr×Obj)) (s:Shared) (σ:St) (H:Hp) (Q:VK),Inv X pins σ H s→t σ H Q→wpAny (model X.prog X.w) X.A (eval e X.env) (EP X pins σ Q) X.xe s
def PT(X:Cx)(e:Expr)(t:TT):Prop:=
 ∀(pins:List (Addr×Obj)) (s:Shared) (σ:St) (H:Hp) (Q:Bool→Hp→Prop),Inv X pins σ H s→t σ H Q→wpAny (model X.prog X.w) X.A (isTrue e X.env (eval e X.env)) (TP X pins σ Q) X.xe s
def PW(X:Cx)(e:Expr)(t:TT):Prop:=
 ∀(whole:Sem Value) (pins:List (Addr×Obj)) (s:Shared) (σ:St) (H:Hp) (Q:Bool→Hp→Prop),Inv X pins σ H s→t σ H Q→wpAny (model X.prog X.w) X.A (isTrue e X.env whole) (TP X pins σ Q) X.xe s
theorem PW.pt{X:Cx}{e:Expr}{t:TT}(h:PW X e t):PT X e t:=h _
def PA(X:Cx)(es:List Expr)(t:TA):Prop:=
 ∀(pos:Pos) (pins:List (Addr×Obj)) (s:Shared) (σ:St) (H:Hp) (Q:List V→Hp→Prop),Inv X pins σ H s→t σ H Q→wpAny (model X.prog X.w) X.A (spliced (backTo pos (starEach es X.env))) (AP X pins σ Q) X.xe s
def PS(X:Cx)(st:Stmt)(t:TS):Prop:=
 ∀(pins:List (Addr×Obj)) (s:Shared) (σ:St) (H:Hp) (D:Ends),Inv X pins σ H s→t D σ H→wpAny (model X.prog X.w) X.A (exec st X.env) (SP X pins D) X.xe s
def PSs(X:Cx)(st:List Stmt)(t:TS):Prop:=
 ∀(pins:List (Addr×Obj)) (s:Shared) (σ:St) (H:Hp) (D:Ends),Inv X pins σ H s→t D σ H→wpAny (model X.prog X.w) X.A (execs st X.env) (SP X pins D) X.xe s
theorem bB{α:Type}{t:Sem α}{Q Q':α→Shared→Prop}{M:Model}{A:Around}{E:Value→Shared→Prop}{s:Shared}(h:wpAny M A t Q E s)(hQ:∀a s,Q a s→Q' a s):wpAny M A t Q' E s:=wpAny_mono h hQ fun _ _ x=>x
section
variable{X:Cx}
theorem bin{a b:Expr}{ta tb:TE}(ha:PE X a ta)(hb:PE X b tb){pins:List (Addr×Obj)}{s:Shared}{σ:St}{H:Hp}{R:V→V→Hp→Prop}(I:Inv X pins σ H s)(h:ta σ H fun x H1=>tb σ H1 fun y H2=>R x y H2)
 {α:Type}{Q:α→Shared→Prop}{f:Value→Value→Sem α}
 (hf:∀v u s2 x y H2,Inv X pins σ H2 s2→RelV x v→RelV y u→R x y H2→wpAny (model X.prog X.w) X.A (f v u) Q X.xe s2):
 wpAny (model X.prog X.w) X.A (eval a X.env) (fun v s₁=>wpAny (model X.prog X.w) X.A (eval b X.env) (fun u s₂=>wpAny (model X.prog X.w) X.A (f v u) Q X.xe s₂) X.xe s₁) X.xe s:=by
 refine bB (ha pins s σ H _ I h) fun v s1 ⟨x,H1,I1,r1,q1⟩=>?_
 refine bB (hb pins s1 σ H1 _ I1 q1) fun u s2 ⟨y,H2,I2,r2,q2⟩=>?_
 exact hf v u s2 x y H2 I2 r1 r2 q2
def qL(i:Nat):TE:=fun σ H Q=>∃v,σ[i]? =some (some v)∧Q v H
def tC(v:V):TE:=fun _ H Q=>Q v H
theorem Bw{i:Nat}{x:Str}{pos:Pos}(hN:X.N[i]? =some x)(hv:EC X.env.scope x)(hd:(x==("__debug__":Str))=false:=by decide)(ve:(x==("__classdict__":Str))=false:=by decide):PE X (.Name x pos) (qL i):=by
 intro pins s σ H Q I h
 obtain⟨v,e,h⟩:=h
 obtain⟨m,hn,hl⟩:=I.loc
 obtain⟨u,r,l⟩:=hl i x v hN e hv
 have fin:EP X pins σ Q u s:=⟨v,H,I,r,h⟩
 rcases l with⟨hk,hm⟩ | ⟨hk,c,hc,zD⟩
 ·exact wpAny_Name (wpAny_loadName_local I.ok.kind hk hn hm fin) hd
 ·rcases hk with hk | hk
  ·exact wpAny_Name (wpAny_loadName_cell I.ok.kind hk hc zD fin) hd
  ·exact wpAny_Name (wpAny_loadName_free I.ok.kind hk hc zD fin ve) hd
theorem Bp{i j pos}:PE X (.Constant (.int i) j pos) (tC (.int i)):=fun _ _ _ H _ I h=>wpAny_Constant_int ⟨.int i,H,I.tok _,⟨_,rfl⟩,h⟩
theorem Ds{b j pos}:PE X (.Constant (.bool b) j pos) (tC (.bl b)):=fun _ _ _ H _ I h=>Constant_bool ⟨.bl b,H,I,rfl,h⟩
theorem Bq{j pos}:PE X (.Constant .none j pos) (tC .non):=fun _ _ _ H _ I h=>Constant_none ⟨.non,H,I,rfl,h⟩
theorem Bu{x j pos}:PE X (.Constant (.str x) j pos) (tC (.str x)):=fun _ _ _ H _ I h=>Calls.Constant_str ⟨.str x,H,I.tok _,⟨_,rfl⟩,h⟩
def Gl(X:Cx)(x:Str):Prop:=X.env.kindOf x=some .globalImplicit
theorem tw{E:Value→Shared→Prop}{pins:List (Addr×Obj)}{s:Shared}{σ:St}{H:Hp}{x:Str}{u:Value}{pos:Pos}{Q:Value→Shared→Prop}(I:Inv X pins σ H s)(hg:Gl X x)(hm:X.mg x=some u)(h:Q u s)
 (hd:(x==("__debug__":Str))=false:=by decide):wpAny (model X.prog X.w) X.A (eval (.Name x pos) X.env) Q E s:=
 Calls.Name_function_global I.ok.kind hg (Calls.loadGlobal_global (by rw[I.ok.glob];exact I.mod.glob.keeps I.bk) hm h) hd
theorem jc{E:Value→Shared→Prop}{pins:List (Addr×Obj)}{s:Shared}{σ:St}{H:Hp}{x:Str}{u:Value}{pos:Pos}{Q:Value→Shared→Prop}(I:Inv X pins σ H s)(hg:Gl X x)(hm:X.mg x=none)(hv:bootBuiltins x=some u)(h:Q u s)
 (hn:x≠"__name__":=by decide)(hd:(x==("__debug__":Str))=false:=by decide):wpAny (model X.prog X.w) X.A (eval (.Name x pos) X.env) Q E s:=by
 obtain⟨mb,h1,h2⟩:=I.mod.blt
 exact Calls.Name_function_global I.ok.kind hg (Calls.loadGlobal_builtin (by rw[I.ok.glob];exact I.mod.glob.keeps I.bk) hm (by rw[I.ok.blt];exact h1.keeps I.bk) ((h2 x hn).trans hv) h) hd
theorem yO{x:Str}{v:V}{u:Value}{pos:Pos}(hg:Gl X x)(hm:X.mg x=some u)(r:RelV v u)(hd:(x==("__debug__":Str))=false:=by decide):PE X (.Name x pos) (tC v):=
 fun _ _ _ H _ I h=>tw I hg hm ⟨v,H,I,r,h⟩ hd
theorem yK{x:Str}{v:V}{u:Value}{pos:Pos}(hg:Gl X x)(hm:X.mg x=none)(hv:bootBuiltins x=some u)(r:RelV v u)(hn:x≠"__name__":=by decide)(hd:(x==("__debug__":Str))=false:=by decide):PE X (.Name x pos) (tC v):=
 fun _ _ _ H _ I h=>jc I hg hm hv ⟨v,H,I,r,h⟩ hn hd
variable{a b:Expr}{ta tb:TE}{pos:Pos}
def PC(X:Cx)(op:CmpOp)(a b:Expr)(t:TE):Prop:=
 ∀(pins:List (Addr×Obj)) (s:Shared) (σ:St) (H:Hp) (Q:VK),Inv X pins σ H s→t σ H Q→
  wpAny (model X.prog X.w) X.A (eval a X.env) (fun v s₁=>wpAny (model X.prog X.w) X.A (eval b X.env) (fun u s₂=>wpAny (model X.prog X.w) X.A (compareOp op v u) (EP X pins σ Q) X.xe s₂) X.xe s₁) X.xe s
theorem wg(b:Expr){op:CmpOp}(h:op≠ .In)(h2:op≠ .NotIn):behindInMarks op b=false:=by
 have e1:(op==CmpOp.In)=false:=by cases op<;>first | rfl | exact absurd rfl h
 have e2:(op==CmpOp.NotIn)=false:=by cases op<;>first | rfl | exact absurd rfl h2
 cases b<;>simp[behindInMarks,e1,e2]
theorem Bo{op:CmpOp}{t:TE}(h:PC X op a b t)(h1:behindInMarks op b=false:=by first | exact wg _ (by decide) (by decide) | rfl):PE X (.Compare a [op] [b] pos) t:=fun pins s σ H Q I hw=>wpAny_Compare1 (h pins s σ H Q I hw) h1
variable{tA bN:TT}{rest:List Expr}
def FU(t u:TT):TT:=fun σ H Q=>t σ H fun c H1=>if c=true then u σ H1 Q else Q false H1
def IS(t u:TT):TT:=fun σ H Q=>t σ H fun c H1=>if c=true then Q true H1 else u σ H1 Q
def F4(t:TT):TT:=fun σ H Q=>t σ H fun c H1=>Q (!c) H1
theorem yX(ha:PT X a tA):PW X (.BoolOp .And [a] pos) tA:=by
 intro wh pins s σ H Q I h
 refine isTrue_and (bB (ha pins s σ H Q I h) fun c s1 e=>?_)
 cases c with
 |true=>exact isTrue_and_nil e
 |false=>exact e
theorem BE(ha:PT X a tA):PW X (.BoolOp .Or [a] pos) tA:=by
 intro wh pins s σ H Q I h
 refine isTrue_or (bB (ha pins s σ H Q I h) fun c s1 e=>?_)
 cases c with
 |false=>exact isTrue_or_nil e
 |true=>exact e
theorem BD(ha:PT X a tA)(hb:PW X (.BoolOp .And (b::rest) pos) bN):PW X (.BoolOp .And (a::b::rest) pos) (FU tA bN):=by
 intro wh pins s σ H Q I h
 refine isTrue_and (bB (ha pins s σ H _ I h) fun c s1 ⟨H1,I1,q1⟩=>?_)
 cases c with
 |true=>exact hb wh pins s1 σ H1 Q I1 q1
 |false=>exact⟨H1,I1,q1⟩
theorem Dx(ha:PT X a tA)(hb:PW X (.BoolOp .Or (b::rest) pos) bN):PW X (.BoolOp .Or (a::b::rest) pos) (IS tA bN):=by
 intro wh pins s σ H Q I h
 refine isTrue_or (bB (ha pins s σ H _ I h) fun c s1 ⟨H1,I1,q1⟩=>?_)
 cases c with
 |true=>exact⟨H1,I1,q1⟩
 |false=>exact hb wh pins s1 σ H1 Q I1 q1
theorem BC(ha:PT X a tA):PT X (.UnaryOp .Not a pos) (F4 tA):=by
 intro pins s σ H Q I h
 exact isTrue_not (ha pins s σ H (fun c H1=>Q (!c) H1) I h)
def DP(ta tb:TE):TE:=fun σ H Q=>ta σ H fun x H1=>∃c,x= .bl c∧if c=true then tb σ H1 Q else Q (.bl false) H1
def DW(ta:TE):TE:=fun σ H Q=>ta σ H fun x H1=>∃c,x= .bl c∧Q (.bl (!c)) H1
theorem Bs{op}{t:TE}(h:PE X a t):PE X (.BoolOp op [a] pos) t:=fun pins s σ H Q I hw=>BoolOp_one (h pins s σ H Q I hw)
theorem Bn(ha:PE X a ta)(hb:PE X (.BoolOp .And (b::rest) pos) tb):PE X (.BoolOp .And (a::b::rest) pos) (DP ta tb):=by
 intro pins s σ H Q I h
 refine BoolOp_and (bB (ha pins s σ H _ I h) fun v s1 ⟨x,H1,I1,r1,q1⟩=>?_)
 obtain⟨c,rfl,q1⟩:=q1
 cases r1
 refine wpAny_truthy_bool ?_
 cases c with
 |true=>exact hb pins s1 σ H1 Q I1 q1
 |false=>exact⟨.bl false,H1,I1,rfl,q1⟩
theorem Br(ha:PE X a ta):PE X (.UnaryOp .Not a pos) (DW ta):=by
 intro pins s σ H Q I h
 refine UnaryOp_ (bB (ha pins s σ H _ I h) fun v s1 ⟨x,H1,I1,r1,q1⟩=>?_)
 obtain⟨c,rfl,q1⟩:=q1
 cases r1
 exact not_of (wpAny_truthy_bool ⟨.bl (!c),H1,I1,rfl,q1⟩)
end
def SqL(K:W.Frag)(H:Hp)(a:Addr)(xs:List V):Prop:=
 Rd H a (.lst xs)∨
  ∃(o:Obj) (aG:Array Value) (n:Nat),K.lookup a=some o∧o.cls= .type "list"∧o.dict=none∧o.data= .seq aG n∧aG.size≤sizeLine∧Vals xs aG.toList
def SqT(K:W.Frag)(H:Hp)(a:Addr)(xs:List V):Prop:=
 Rd H a (.tup xs)∨
  ∃(o:Obj) (aG:Array Value) (n:Nat),K.lookup a=some o∧o.cls= .type "tuple"∧o.data= .seq aG n∧aG.size≤sizeLine∧Vals xs aG.toList
def ED:Value→Option V
 | .none=>some .non
 | .bool b=>some (.bl b)
 | .int i _=>some (.int i)
 | .str x _=>some (.str x)
 | .bytes b _=>some (.byt b)
 | .float b _=>some (.flt b)
 | .ref a=>some (.ref a)
 | .type n=>some (.ty n)
 |_=>none
theorem RelV.abs{x:V}{u:Value}(r:RelV x u):ED u=some x:=by
 cases x with
 |non=>cases r;rfl
 |bl _=>cases r;rfl
 |int _=>obtain⟨t,rfl⟩:=r;rfl
 |str _=>obtain⟨t,rfl⟩:=r;rfl
 |byt _=>obtain⟨t,rfl⟩:=r;rfl
 |flt _=>obtain⟨t,rfl⟩:=r;rfl
 |ref _=>cases r;rfl
 |ty _=>cases r;rfl
theorem RelV.inj{x y:V}{u:Value}(r:RelV x u)(q:RelV y u):x=y:=Option.some.inj (r.abs.symm.trans q.abs)
theorem Vals.inj:∀{xs ys:List V}{us:List Value},Vals xs us→Vals ys us→xs=ys
 |_,_,_, .nil, .nil=>rfl
 |_,_,_, .cons r t, .cons r' t'=>by rw[r.inj r',Vals.inj t t']
section
variable{X:Cx}{pins:List (Addr×Obj)}{σ:St}{H:Hp}{s:Shared}{a:Addr}{xs ys:List V}
theorem SqL.of{K:W.Frag}(h:H a=some (.lst xs)):SqL K H a xs:= .inl (.inl h)
theorem SqT.of{K:W.Frag}(h:H a=some (.tup xs)):SqT K H a xs:= .inl (.inl h)
theorem Inv.list(I:Inv X pins σ H s)(h:SqL X.K H a xs):∃aG:List Value,Vals xs aG∧PlainL s.heap a aG.toArray∧xs.length≤sizeLine:=by
 rcases h with h | ⟨o,aG,n,hk,hc,hd,hs,hz,r⟩
 ·obtain⟨z,aG,n,r,e⟩:=h.ok I.hok
  exact⟨aG,r,⟨_,n,e,rfl,rfl,rfl⟩,z⟩
 ·refine⟨aG.toList,r,⟨o,n,I.kIn a o hk,hc,hd,by simpa using hs⟩,?_⟩
  have e:=r.length
  simp only[Array.length_toList] at e
  omega
theorem Inv.tuple(I:Inv X pins σ H s)(h:SqT X.K H a xs):∃aG:List Value,Vals xs aG∧IsTup s.heap a aG.toArray∧xs.length≤sizeLine:=by
 rcases h with h | ⟨o,aG,n,hk,hc,hs,hz,r⟩
 ·obtain⟨z,aG,r,p⟩:=h.ok I.hok
  exact⟨aG,r,p,z⟩
 ·refine⟨aG.toList,r,⟨o,I.kIn a o hk,hc,n,by simpa using hs⟩,?_⟩
  have e:=r.length
  simp only[Array.length_toList] at e
  omega
theorem Inv.list_inj(I:Inv X pins σ H s)(h:SqL X.K H a xs)(h':SqL X.K H a ys):xs=ys:=by
 obtain⟨aG,r,⟨o,n,e,_,_,d⟩,_⟩:=I.list h
 obtain⟨its',r',⟨o',n',e',_,_,d'⟩,_⟩:=I.list h'
 rw[e] at e';cases e'
 rw[d] at d'
 injection d' with d1 _
 have:aG=its':=by simpa using congrArg Array.toList d1
 subst this
 exact r.inj r'
theorem Inv.tuple_inj(I:Inv X pins σ H s)(h:SqT X.K H a xs)(h':SqT X.K H a ys):xs=ys:=by
 obtain⟨aG,r,⟨o,e,_,n,d⟩,_⟩:=I.tuple h
 obtain⟨its',r',⟨o',e',_,n',d'⟩,_⟩:=I.tuple h'
 rw[e] at e';cases e'
 rw[d] at d'
 injection d' with d1 _
 have:aG=its':=by simpa using congrArg Array.toList d1
 subst this
 exact r.inj r'
end
abbrev Cx.wish(X:Cx)(E:Value→Shared→Prop):Cx:={X with xe:=E}
abbrev Cx.nox(X:Cx):Cx:=X.wish fun _ _=>False
theorem Cx.Ok.wish{X:Cx}(ok:X.Ok)(E:Value→Shared→Prop):(X.wish E).Ok:=
 ⟨ok.mod,ok.kind,ok.glob,ok.blt,ok.above,ok.inj,ok.has,ok.cab,ok.hd,ok.frames,ok.stk,ok.exf,ok.bs,ok.bsz,ok.noex,ok.exfs,ok.funs,ok.frf⟩
theorem Cx.Ok.unwish{X:Cx}{E:Value→Shared→Prop}(ok:(X.wish E).Ok):X.Ok:=
 ⟨ok.mod,ok.kind,ok.glob,ok.blt,ok.above,ok.inj,ok.has,ok.cab,ok.hd,ok.frames,ok.stk,ok.exf,ok.bs,ok.bsz,ok.noex,ok.exfs,ok.funs,ok.frf⟩
section
variable{X:Cx}{pins:List (Addr×Obj)}{σ:St}{H:Hp}{s:Shared}{E:Value→Shared→Prop}
theorem Inv.wish(I:Inv X pins σ H s)(E:Value→Shared→Prop):Inv (X.wish E) pins σ H s:=⟨I.ok.wish E,I.os,I.bare,I.base,I.loc,I.cell,I.free,I.freeC,I.pin,I.hok,I.len⟩
theorem Inv.unwish(I:Inv (X.wish E) pins σ H s):Inv X pins σ H s:=⟨I.ok.unwish,I.os,I.bare,I.base,I.loc,I.cell,I.free,I.freeC,I.pin,I.hok,I.len⟩
theorem SP.unwish{D:Ends}{f:Flow}{s':Shared}(h:SP (X.wish E) pins D f s'):SP X pins D f s':=by
 cases f with
 |next=>obtain⟨σ',H',I,q⟩:=h;exact⟨σ',H',I.unwish,q⟩
 |brk=>obtain⟨σ',H',I,q⟩:=h;exact⟨σ',H',I.unwish,q⟩
 |cont=>obtain⟨σ',H',I,q⟩:=h;exact⟨σ',H',I.unwish,q⟩
 |ret u=>obtain⟨v,σ',H',I,r,q⟩:=h;exact⟨v,σ',H',I.unwish,r,q⟩
end
section
variable{X:Cx}{st:Stmt}{rest:List Stmt}{t u:TS}{e:Expr}{te:TE}{pos:Pos}
def DU:TS:=fun D σ H=>D.nx σ H
def F8(t u:TS):TS:=fun D σ H=>t {D with nx:=u D} σ H
theorem yU:PSs X [] DU:=fun _ _ σ H _ I h=>wpAny_execs_nil ⟨σ,H,I,h⟩
theorem wQ(h1:PS X st t)(h2:PSs X rest u):PSs X (st::rest) (F8 t u):=by
 intro pins s σ H D I h
 refine wpAny_execs_cons (bB (h1 pins s σ H {D with nx:=u D} I h) fun f s1 q=>?_)
 cases f with
 |next=>
  obtain⟨σ',H',I',q⟩:=q
  exact h2 pins s1 σ' H' D I' q
 |ret v=>exact q
 |brk=>exact q
 |cont=>exact q
theorem yV(h1:PS X st t):PSs X [st] t:=by
 intro pins s σ H D I h
 refine wpAny_execs_cons (bB (h1 pins s σ H D I h) fun f s1 q=>?_)
 cases f with
 |next=>exact wpAny_execs_nil q
 |ret v=>exact q
 |brk=>exact q
 |cont=>exact q
theorem Inv.quiet{pins:List (Addr×Obj)}{σ:St}{H:Hp}{s:Shared}(I:Inv X pins σ H s):interactive X.env=false:=by simp[interactive,I.ok.kind]
def z6(te:TE):TS:=fun D σ H=>te σ H fun _ H1=>D.nx σ H1
theorem tO(he:PE X e te)(hs:swapsWith e none pos.line X.env=pure false:=by rfl):PS X (.Expr e pos) (z6 te):=by
 intro pins s σ H D I h
 exact wpAny_Expr_any (bB (he pins s σ H _ I h) fun v s1 ⟨x,H1,I1,r1,q1⟩=>⟨σ,H1,I1,q1⟩) I.quiet hs
def F7(te:TE):TS:=fun D σ H=>te σ H D.rt
theorem BA(he:PE X e te):PS X (.Return (some e) pos) (F7 te):=by
 intro pins s σ H D I h
 exact wpAny_Return_some (bB (he pins s σ H _ I h) fun v s1 ⟨x,H1,I1,r1,q1⟩=>⟨x,σ,H1,I1,r1,q1⟩)
def FZ(c:TT)(t u:TS):TS:=fun D σ H=>c σ H fun b H1=>if b=true then t D σ H1 else u D σ H1
theorem Dw{c:Expr}{a b:List Stmt}{tc:TT}(hc:PT X c tc)(ha:PSs X a t)(hb:PSs X b u):PS X (.If c a b pos) (FZ tc t u):=by
 intro pins s σ H D I h
 refine wpAny_If (bB (hc pins s σ H _ I h) fun d s1 ⟨H1,I1,q1⟩=>?_)
 cases d with
 |true=>exact ha pins s1 σ H1 D I1 q1
 |false=>exact hb pins s1 σ H1 D I1 q1
end
abbrev TG:=V→St→Hp→(St→Hp→Prop)→Prop
def PG(X:Cx)(target:Expr)(t:TG):Prop:=
 ∀(pins:List (Addr×Obj)) (s:Shared) (σ:St) (H:Hp) (v:V) (u:Value) (Q:St→Hp→Prop),Inv X pins σ H s→RelV v u→t v σ H Q→
  wpAny (model X.prog X.w) X.A (assign target X.env u) (fun _ s'=>∃σ' H',Inv X pins σ' H' s'∧Q σ' H') X.xe s
abbrev Ez:=V→V→V→Hp→(Hp→Prop)→Prop
section
variable{X:Cx}{pos:Pos}
def zA(i:Nat):TG:=fun v σ H Q=>Q (σ.set i (some v)) H
theorem cb{i:Nat}{x:Str}(hN:X.N.Nodup)(hi:X.N[i]? =some x)(hx:Loc X.env.scope x)(hf:X.fn x=true∨X.env.scope.names.lookup x=some .local:=by first | exact .inl rfl | exact .inr rfl | assumption):PG X (.Name x pos) (zA i):=by
 intro pins s σ H v u Q I r h
 exact wpAny_assign_Name (qK I hN hi hx r (fun s' I'=>⟨_,H,I',h⟩) hf)
def oh(to ti:TE)(t:Ez):TG:=fun v σ H Q=>to σ H fun o H1=>ti σ H1 fun i H2=>t o i v H2 fun H3=>Q σ H3
def FV(te:TE)(g:TG):TS:=fun D σ H=>te σ H fun x H1=>g x σ H1 D.nx
theorem oJ{tg e:Expr}{te:TE}{g:TG}(he:PE X e te)(hg:PG X tg g)(hs:swapsWithSole [tg] e pos.line X.env=pure false:=by rfl)(hw:swappedStores [tg] e X.env=pure none:=by rfl)
 (h1:(assignEach [tg] X.env).map (·.2)=[assign tg X.env]:=by rfl):PS X (.Assign [tg] e pos) (FV te g):=by
 intro pins s σ H D I h
 refine wpAny_Assign_stores (bB (he pins s σ H _ I h) fun v s1 ⟨x,H1,I1,r1,q1⟩=>?_) hs hw
 rw[h1]
 exact bB (hg pins s1 σ H1 x v _ I1 r1 q1) fun _ s2 q=>q
end
section
variable{X:Cx}{pos:Pos}
def BV(c:TT)(tb:TS):TS:=fun D σ H=>∃W:Nat→St→Hp→Prop,(∃m,W m σ H)∧∀m σ H,W m σ H→
 c σ H fun b H1=>if b=true then∃N:St→Hp→Prop,(∀σ' H',N σ' H'→∃m',m'<m∧W m' σ' H')∧tb {D with nx:=N,ct:=N,bk:=D.nx} σ H1 else D.nx σ H1
theorem wN{c:Expr}{body:List Stmt}{tc:TT}{tb:TS}(hp:PassesOwn (model X.prog X.w) X.A X.env X.xe)(hc:PT X c tc)(hb:PSs X body tb):PS X (.While c body [] pos) (BV tc tb):=by
 intro pins s σ H D I h
 obtain⟨W,⟨m0,w0⟩,turn⟩:=h
 refine wpAny_While (codeAny_whileLoop (fun n s'=>∃σ' H',Inv X pins σ' H' s'∧W n σ' H') ?_ m0 ⟨σ,H,I,w0⟩)
 rintro n s1 ⟨σ1,H1,I1,w1⟩
 refine wpAny_passesOwn hp (bB (hc pins s1 σ1 H1 _ I1 (turn n σ1 H1 w1)) fun b s2 ⟨H2,I2,q2⟩=>?_)
 cases b with
 |true=>
  obtain⟨N,hN,q2⟩:=q2
  rw[if_pos rfl]
  refine wpAny_passesOwn hp (bB (hb pins s2 σ1 H2 _ I2 q2) fun f s3 q3=>?_)
  cases f with
  |next=>
   obtain⟨σ3,H3,I3,n3⟩:=q3
   obtain⟨m',hm,w3⟩:=hN σ3 H3 n3
   exact⟨m',hm,σ3,H3,I3,w3⟩
  |cont=>
   obtain⟨σ3,H3,I3,n3⟩:=q3
   obtain⟨m',hm,w3⟩:=hN σ3 H3 n3
   exact⟨m',hm,σ3,H3,I3,w3⟩
  |brk=>exact q3
  |ret v=>exact q3
 |false=>
  rw[if_neg Bool.false_ne_true]
  exact wpAny_execs_nil ⟨σ1,H2,I2,q2⟩
end
structure It where
 go:Nat→Hp→Prop
 yld:Nat→Hp→V→Hp→Prop
 stop:Nat→Hp→Prop
def pd(X:Cx)(pins:List (Addr×Obj))(H:Hp)(b:Addr):Prop:=
 H b=none∧b≠X.env.locals∧b∉X.fs∧(b∈X.ex∨X.s₀.heap.objs.size≤b)∧(∀x c,X.env.cells.lookup x=some c→c≠b)∧∀p∈X.pn++pins,p.1≠b
theorem Inv.fpOk{X:Cx}{pins:List (Addr×Obj)}{σ:St}{H H':Hp}{s:Shared}{b:Addr}(I:Inv X pins σ H s)(hb:s.heap.objs.size≤b)(hn:H' b=none):pd X pins H' b:=by
 refine⟨hn,Nat.ne_of_gt (Nat.lt_of_lt_of_le I.lt hb),I.nofs hb, .inr (Nat.le_trans I.sz hb),fun x c e z=>?_,fun p hp z=>?_⟩
 ·obtain⟨v,q⟩:=I.cell x c e
  exact absurd (Nat.lt_of_lt_of_le q.lt (by rw[z];exact hb)) (Nat.lt_irrefl _)
 ·exact absurd (Nat.lt_of_lt_of_le (Heap.lt_size (I.pin p hp).1) (by rw[z];exact hb)) (Nat.lt_irrefl _)
structure Turn (P:Program) (w:World) (K:W.Frag) (tg:Expr) (J:It) (fp:List Addr) (it:Addr) (tn:Nat→Heap→Prop):Prop where
 mem:it∈fp
 obj:∀i h,tn i h→∀b∈fp,∃o,h.get? b=some o∧∀v,o.data≠ .cell v
 keep:∀i h h',tn i h→(∀b∈fp,∀o,h.get? b=some o→h'.get? b=some o)→tn i h'
 item:∀(X:Cx),X.prog=P→X.w=w→X.K=K→X.calm=true→∀(i:Nat) (pins:List (Addr×Obj)) (s:Shared) (σ:St) (H:Hp) (E:Value→Shared→Prop),Inv X pins σ H s→(∀b∈fp,pd X pins H b)→tn i s.heap→J.go i H→
  wpAny (model P w) X.A (pyNext (.ref it)) (fun r s1=>∃u,r=some u∧
   wpAny (model P w) X.A (letOwnedTupleGo tg (.ref it) u) (fun _ s2=>∃x H',Inv X pins σ H' s2∧RelV x u∧J.yld i H x H'∧tn (i+1) s2.heap∧∀b∈fp,H' b=none) E s1) E s
 done:∀(X:Cx),X.prog=P→X.w=w→X.K=K→X.calm=true→∀(i:Nat) (pins:List (Addr×Obj)) (s:Shared) (σ:St) (H:Hp) (E:Value→Shared→Prop),Inv X pins σ H s→(∀b∈fp,pd X pins H b)→tn i s.heap→J.stop i H→
  wpAny (model P w) X.A (pyNext (.ref it)) (fun r s1=>r=none∧Inv X pins σ H s1) E s
 self:∀(A:Around) (i:Nat) (s:Shared) (Q:Value→Shared→Prop) (E:Value→Shared→Prop),tn i s.heap→Q (.ref it) s→wpAny (model P w) A (pyIter (.ref it)) Q E s
abbrev TI:=St→Hp→(It→Hp→Prop)→Prop
def Ge(X:Cx)(pins:List (Addr×Obj))(σ:St)(tg:Expr)(R:It→Hp→Prop)(G2:Value)(s2:Shared):Prop:=
 ∃(it:Addr) (fp:List Addr) (tn:Nat→Heap→Prop) (J:It) (H':Hp),G2= .ref it∧Inv X pins σ H' s2∧Turn X.prog X.w X.K tg J fp it tn∧tn 0 s2.heap∧(∀b∈fp,pd X pins H' b)∧R J H'
def PI(X:Cx)(tg iter:Expr)(wi:TI):Prop:=
 ∀(pins:List (Addr×Obj)) (s:Shared) (σ:St) (H:Hp) (R:It→Hp→Prop),Inv X pins σ H s→wi σ H R→
  wpAny (model X.prog X.w) X.A (eval iter X.env) (fun v s1=>wpAny (model X.prog X.w) X.A (pyIter v) (Ge X pins σ tg R) X.xe s1) X.xe s
theorem mM{M:Model}{A:Around}{E:Value→Shared→Prop}{s:Shared}{tg:Expr}{it:Addr}{u:Value}{o:Obj}{n:String}{vs:Array Value}{Q:Unit→Shared→Prop}(ho:s.heap.get? it=some o)(hc:o.cls= .type n)(hd:o.data= .fields vs)
 (hn:["enumerate","zip","dict_itemiterator","dict_reverseitemiterator","odict_iterator","itertools.zip_longest","itertools.pairwise"].contains n=false)(hQ:Q () s):wpAny M A (letOwnedTupleGo tg (.ref it) u) Q E s:=by
 unfold letOwnedTupleGo
 cases tg<;>first
  |exact wpAny_pure hQ
  |(cases u<;>first
    |exact wpAny_pure hQ
    |(refine wpAny_bind (wpAny_load ho ?_)
      rw[hc,hd]
      show wpAny M A (if (["enumerate","zip","dict_itemiterator","dict_reverseitemiterator","odict_iterator","itertools.zip_longest","itertools.pairwise"].contains n&&vs[0]? ==some (rawInt _))=true then _ else _) Q E s
      rw[if_neg (by intro h;rw[hn,Bool.false_and] at h;cases h)]
      exact wpAny_pure hQ))
def Et(K:W.Frag)(a:Addr):It:=
 ⟨fun i H=>∃xs x,SqL K H a xs∧xs[i]? =some x,fun i H x H'=>H'=H∧∀xs,SqL K H a xs→xs[i]? =some x,fun i H=>∃xs,SqL K H a xs∧xs.length≤i⟩
def Eu(K:W.Frag)(a:Addr):It:=
 ⟨fun i H=>∃xs x,SqT K H a xs∧xs[i]? =some x,fun i H x H'=>H'=H∧∀xs,SqT K H a xs→xs[i]? =some x,fun i H=>∃xs,SqT K H a xs∧xs.length≤i⟩
def Cf(lo:Int)(n:Nat):It:=⟨fun i _=>i<n,fun i H x H'=>H'=H∧x= .int (lo+i),fun i _=>n≤i⟩
theorem u6{P:Program}{w:World}{K:W.Frag}{tg:Expr}(a it:Addr):Turn P w K tg (Et K a) [it] it (fun i h=>h.IsListIter it a i) where
 mem:=by simp
 obj:=fun i h st b hb=>by
  have e:b=it:=by simpa using hb
  subst e
  obtain⟨o,e,c,d⟩:=st
  exact⟨o,e,fun v z=>by rw[d] at z;cases z⟩
 keep:=fun i h h' st k=>st.at fun o e=>k it (by simp) o e
 item:=by
  intro X hP hw hK hc i pins s σ H E I hf st hg
  subst hP hw hK
  obtain⟨xs,x,hq,hx⟩:=hg
  obtain⟨aG,rv,p,hz⟩:=I.list hq
  obtain⟨u,hu,ru⟩:=rv.get hx
  obtain⟨f0,f1,f2,f3,f4,f5⟩:=hf it (by simp)
  refine wpAny_pyNext_list_item st p.isList (x:=u) (by simpa using hu) fun h' lR sb=>?_
  have I1:Inv X pins σ H {s with heap:=h'}:=I.turned (t':=s.toks) (fun b o hb e=>(sb.2 b hb).trans e) f0 f1 f3 f4 f5
  obtain⟨o,e,c,d⟩:=id lR
  exact⟨u,rfl,mM (s:={s with heap:=h'}) e c d (by decide) ⟨x,H,I1,ru,⟨rfl,fun ys hy=>by rw[I.list_inj hy hq];exact hx⟩,lR,fun b hb=>(hf b hb).1⟩⟩
 done:=by
  intro X hP hw hK hc i pins s σ H E I hf st hg
  subst hP hw hK
  obtain⟨xs,hq,hx⟩:=hg
  obtain⟨aG,rv,p,hz⟩:=I.list hq
  obtain⟨f0,f1,f2,f3,f4,f5⟩:=hf it (by simp)
  have hl:=rv.length
  exact wpAny_pyNext_list_end (I.ok.hd hc) st p.isList (by simp;omega) fun h' eb=>⟨rfl,I.turned (t':=s.toks) (fun b o hb e=>eb b o hb e) f0 f1 f3 f4 f5⟩
 self:=fun _ _ _ _ _ st h=>wpAny_pyIter_listiter st h
theorem sy{P:Program}{w:World}{K:W.Frag}{tg:Expr}(a it:Addr):Turn P w K tg (Eu K a) [it] it (fun i h=>h.IsTupleIter it a i) where
 mem:=by simp
 obj:=fun i h st b hb=>by
  have e:b=it:=by simpa using hb
  subst e
  obtain⟨o,e,c,d⟩:=st
  exact⟨o,e,fun v z=>by rw[d] at z;cases z⟩
 keep:=fun i h h' st k=>st.at fun o e=>k it (by simp) o e
 item:=by
  intro X hP hw hK hc i pins s σ H E I hf st hg
  subst hP hw hK
  obtain⟨xs,x,hq,hx⟩:=hg
  obtain⟨aG,rv,p,hz⟩:=I.tuple hq
  obtain⟨u,hu,ru⟩:=rv.get hx
  obtain⟨f0,f1,f2,f3,f4,f5⟩:=hf it (by simp)
  refine wpAny_pyNext_tuple_item st (show s.heap.IsTuple a aG.toArray from p) (x:=u) (by simpa using hu) fun h' lR sb=>?_
  have I1:Inv X pins σ H {s with heap:=h'}:=I.turned (t':=s.toks) (fun b o hb e=>(sb.2 b hb).trans e) f0 f1 f3 f4 f5
  obtain⟨o,e,c,d⟩:=id lR
  exact⟨u,rfl,mM (s:={s with heap:=h'}) e c d (by decide) ⟨x,H,I1,ru,⟨rfl,fun ys hy=>by rw[I.tuple_inj hy hq];exact hx⟩,lR,fun b hb=>(hf b hb).1⟩⟩
 done:=by
  intro X hP hw hK hc i pins s σ H E I hf st hg
  subst hP hw hK
  obtain⟨xs,hq,hx⟩:=hg
  obtain⟨aG,rv,p,hz⟩:=I.tuple hq
  obtain⟨f0,f1,f2,f3,f4,f5⟩:=hf it (by simp)
  have hl:=rv.length
  exact wpAny_pyNext_tuple_end (I.ok.hd hc) st (show s.heap.IsTuple a aG.toArray from p) (by simp;omega) fun h' eb=>⟨rfl,I.turned (t':=s.toks) (fun b o hb e=>eb b o hb e) f0 f1 f3 f4 f5⟩
 self:=fun _ _ _ _ _ st h=>wpAny_pyIter_tupleiter st h
theorem sx{P:Program}{w:World}{K:W.Frag}{tg:Expr}(it:Addr)(lo:Int)(n:Nat):Turn P w K tg (Cf lo n) [it] it (fun i h=>IsRangeIter h it (lo+(i:Nat)*1) ((n:Int) - (i:Nat)) 1) where
 mem:=by simp
 obj:=fun i h st b hb=>by
  have e:b=it:=by simpa using hb
  subst e
  exact⟨_,st,fun v z=>by
   have z':Data.fields _=Data.cell v:=z
   cases z'⟩
 keep:=fun i h h' st k=>k it (by simp) _ st
 item:=by
  intro X hP hw hK hc i pins s σ H E I hf st hg
  subst hP hw hK
  obtain⟨f0,f1,f2,f3,f4,f5⟩:=hf it (by simp)
  have W:=Walks.range (prog:=X.prog) (w:=X.w) (I.ok.hd hc) it lo 1 n
  refine W.item i s _ _ hg st fun v h' tk hv lR kk=>?_
  obtain⟨t,rfl⟩:=hv
  have I1:Inv X pins σ H {s with heap:=h',toks:=tk}:=I.turned (fun b o hb e=>kk b o (by simpa using hb) e) f0 f1 f3 f4 f5
  refine⟨_,rfl,mM (s:={s with heap:=h',toks:=tk}) (n:="range_iterator") lR rfl rfl (by decide) ⟨.int (lo+i),H,I1,⟨t,?_⟩,⟨rfl,rfl⟩,lR,fun b hb=>(hf b hb).1⟩⟩
  rw[Int.mul_one]
 done:=by
  intro X hP hw hK hc i pins s σ H E I hf st hg
  subst hP hw hK
  obtain⟨f0,f1,f2,f3,f4,f5⟩:=hf it (by simp)
  exact wpAny_pyNext_range_end (I.ok.hd hc) st (by have:n≤i:=hg;omega) fun h' eb=>⟨rfl,I.turned (t':=s.toks) (fun b o hb e=>eb b o hb e) f0 f1 f3 f4 f5⟩
 self:=fun _ _ _ _ _ st h=>wpAny_pyIter_rangeiter st h
section
variable{X:Cx}{tg:Expr}
def C5(K:W.Frag)(tl:TE):TI:=fun σ H R=>tl σ H fun x H1=>∃a,x= .ref a∧(∃xs,SqL K H1 a xs)∧R (Et K a) H1
def Fu(K:W.Frag)(tl:TE):TI:=fun σ H R=>tl σ H fun x H1=>∃a,x= .ref a∧(∃xs,SqT K H1 a xs)∧R (Eu K a) H1
theorem yP{l:Expr}{tl:TE}(hl:PE X l tl):PI X tg l (C5 X.K tl):=by
 intro pins s σ H R I h
 refine bB (hl pins s σ H _ I h) fun v s1 ⟨x,H1,I1,r1,q1⟩=>?_
 obtain⟨a,e,⟨xs,hq⟩,q⟩:=q1
 subst e
 cases r1
 obtain⟨aG,rv,p,hz⟩:=I1.list hq
 refine wpAny_pyIter_list p.isList ?_
 refine⟨s1.heap.objs.size,[s1.heap.objs.size],_,_,H1,rfl,I1.kept (t':=s1.toks) fun b o e=>Heap.get?_push_of_some _ e,u6 a _,⟨_,Heap.get?_push_size _ rfl,rfl,rfl⟩,fun b hb=>?_,q⟩
 have e:b=s1.heap.objs.size:=by simpa using hb
 subst e
 exact I1.fpOk (Nat.le_refl _) (I1.hok.fresh (Nat.le_refl _))
theorem By{l:Expr}{tl:TE}(hl:PE X l tl):PI X tg l (Fu X.K tl):=by
 intro pins s σ H R I h
 refine bB (hl pins s σ H _ I h) fun v s1 ⟨x,H1,I1,r1,q1⟩=>?_
 obtain⟨a,e,⟨xs,hq⟩,q⟩:=q1
 subst e
 cases r1
 obtain⟨aG,rv,p,hz⟩:=I1.tuple hq
 refine wpAny_pyIter_tuple (show s1.heap.IsTuple a aG.toArray from p) ?_
 refine⟨s1.heap.objs.size,[s1.heap.objs.size],_,_,H1,rfl,I1.kept (t':=s1.toks) fun b o e=>Heap.get?_push_of_some _ e,sy a _,⟨_,Heap.get?_push_size _ rfl,rfl,rfl⟩,fun b hb=>?_,q⟩
 have e:b=s1.heap.objs.size:=by simpa using hb
 subst e
 exact I1.fpOk (Nat.le_refl _) (I1.hok.fresh (Nat.le_refl _))
theorem qw{pins:List (Addr×Obj)}{σ:St}{H:Hp}{s:Shared}{R:It→Hp→Prop}{E:Value→Shared→Prop}{lo hi:Int}{t u v:Tok}{tk:Nat}(I:Inv X pins σ H s)(h1: -(2 ^ 62)≤lo)(h2:lo<2 ^ 62)(h3: -(2 ^ 62)≤hi)(h4:hi<2 ^ 62)
 (q:R (Cf lo (hi - lo).toNat) H):wpAny (model X.prog X.w) X.A (pyIter (.ref s.heap.objs.size)) (Ge X pins σ tg R) E {s with heap:=s.heap.push {cls:= .type "range",data:= .fields #[.int lo t, .int hi u, .int 1 v]},toks:=tk}:=by
 refine wpAny_pyIter_range (IsRange.new ..) (small_one h1 h2 h3 h4) ?_
 have I1:Inv X pins σ H {s with heap:=s.heap.push {cls:= .type "range",data:= .fields #[.int lo t, .int hi u, .int 1 v]},toks:=tk}:=I.kept fun b o e=>Heap.get?_push_of_some _ e
 refine⟨(s.heap.push {cls:= .type "range",data:= .fields #[.int lo t, .int hi u, .int 1 v]}).objs.size,[(s.heap.push {cls:= .type "range",data:= .fields #[.int lo t, .int hi u, .int 1 v]}).objs.size],_,_,H,rfl,
  I1.kept (t':=tk) fun b o e=>Heap.get?_push_of_some _ e,sx _ lo (hi - lo).toNat,?_,fun b hb=>?_,q⟩
 ·have e1:lo+((0:Nat):Int)*1=lo:=by simp
  have e2:(((hi - lo).toNat:Nat):Int) - ((0:Nat):Int)=Builtin.Range.rangeSize lo hi 1:=by rw[rangeSize_one];split<;>omega
  show IsRangeIter _ _ (lo+((0:Nat):Int)*1) ((((hi - lo).toNat:Nat):Int) - ((0:Nat):Int)) 1
  rw[e1,e2]
  exact Heap.get?_push_size _ rfl
 ·have e:b=(s.heap.push {cls:= .type "range",data:= .fields #[.int lo t, .int hi u, .int 1 v]}).objs.size:=by simpa using hb
  subst e
  exact I1.fpOk (Nat.le_refl _) (I1.hok.fresh (Nat.le_refl _))
def C6(ta:TA):TI:=fun σ H R=>ta σ H fun vs H1=>∃j:Int,vs=[.int j]∧ -(2 ^ 62)≤j∧j<2 ^ 62∧R (Cf 0 j.toNat) H1
def C7(ta:TA):TI:=fun σ H R=>ta σ H fun vs H1=>∃i j:Int,vs=[.int i, .int j]∧(-(2 ^ 62)≤i∧i<2 ^ 62∧ -(2 ^ 62)≤j∧j<2 ^ 62)∧R (Cf i (j - i).toNat) H1
theorem uV{a:Expr}{ta:TA}{p pos:Pos}(hg:Gl X "range")(hm:X.mg "range"=none)(ha:PA X [a] ta)(hs:starEach [a] X.env=[(false,eval a X.env)]:=by rfl):PI X tg (.Call (.Name "range" p) [a] [] pos) (C6 ta):=by
 intro pins s σ H R I h
 refine Call_ (jc I hg hm boot_range (PyProof.Rows.callWith_type1 (bB (ha pos pins s σ H _ I h) fun us s1 ⟨vs,H1,I1,r1,q1⟩=>?_) hs rfl))
 obtain⟨j,e,q1,q2,q⟩:=q1
 subst e
 cases r1 with
 |cons r rr=>
  cases rr
  obtain⟨t,rfl⟩:=r
  exact call_range_1 (qw I1 (by omega) (by omega) q1 q2 (by simpa using q))
theorem uW{a b:Expr}{ta:TA}{p pos:Pos}(hg:Gl X "range")(hm:X.mg "range"=none)(ha:PA X [a,b] ta)(hs:starEach [a,b] X.env=[(false,eval a X.env),(false,eval b X.env)]:=by rfl)(Ee:starEach [b] X.env=[(false,eval b X.env)]:=by rfl):
 PI X tg (.Call (.Name "range" p) [a,b] [] pos) (C7 ta):=by
 intro pins s σ H R I h
 refine Call_ (jc I hg hm boot_range (PyProof.Rows.callWith_type1 (bB (ha pos pins s σ H _ I h) fun us s1 ⟨vs,H1,I1,r1,q1⟩=>?_) (by rw[hs,Ee]) (by rw[Ee];rfl)))
 obtain⟨i,j,e,⟨q1,q2,q3,q4⟩,q⟩:=q1
 subst e
 cases r1 with
 |cons r rr=>
  cases rr with
  |cons r' rr=>
   cases rr
   obtain⟨t,rfl⟩:=r
   obtain⟨t',rfl⟩:=r'
   exact call_range_2 (qw I1 q1 q2 q3 q4 q)
def FY(wi:TI)(g:TG)(tb:TS):TS:=fun D σ H=>wi σ H fun J H1=>∃W:Nat→Nat→St→Hp→Prop,(∃m,W 0 m σ H1)∧∀i m σ H,W i m σ H→
 (J.stop i H∧D.nx σ H)∨(J.go i H∧∃N:St→Hp→Prop,(∀σ' H',N σ' H'→∃m',m'<m∧W (i+1) m' σ' H')∧∀x H',J.yld i H x H'→g x σ H' fun σ2 H2=>tb {D with nx:=N,ct:=N,bk:=D.nx} σ2 H2)
def lB(fp:List Addr)(h:Heap):List (Addr×Obj):=fp.filterMap fun b=>(h.get? b).map fun o=>(b,o)
theorem eW{fp:List Addr}{h:Heap}{b:Addr}{o:Obj}(hb:b∈fp)(e:h.get? b=some o):(b,o)∈lB fp h:=List.mem_filterMap.mpr ⟨b,hb,by rw[e];rfl⟩
theorem uL{fp:List Addr}{h:Heap}{p:Addr×Obj}(hp:p∈lB fp h):p.1∈fp∧h.get? p.1=some p.2:=by
 obtain⟨b,hb,e⟩:=List.mem_filterMap.mp hp
 cases q:h.get? b with
 |none=>rw[q] at e;cases e
 |some o=>
  rw[q] at e
  have e':(b,o)=p:=Option.some.inj e
  subst e'
  exact⟨hb,q⟩
theorem Inv.pinned{pins:List (Addr×Obj)}{σ:St}{H:Hp}{s:Shared}{fp:List Addr}(I:Inv X pins σ H s)(hf:∀b∈fp,pd X pins H b)(ho:∀b∈fp,∃o,s.heap.get? b=some o∧∀v,o.data≠ .cell v):Inv X (pins++lB fp s.heap) σ H s:=
 I.pins_of fun p hp=>(List.mem_append.mp hp).elim (fun z=>I.pin p (List.mem_append_right _ z)) fun z=>by
  obtain⟨hb,e⟩:=uL z
  obtain⟨f0,f1,f2,_⟩:=hf p.1 hb
  obtain⟨o,e',d⟩:=ho p.1 hb
  rw[e] at e';cases e'
  exact⟨e,f0,f1,f2,d⟩
theorem Inv.unpinned{pins pl:List (Addr×Obj)}{σ:St}{H:Hp}{s:Shared}(I:Inv X (pins++pl) σ H s):Inv X pins σ H s:=I.pins_of fun p hp=>I.pin p (List.mem_append_right _ (List.mem_append_left _ hp))
theorem Bz{iter:Expr}{body:List Stmt}{wi:TI}{g:TG}{tb:TS}{pos:Pos}(hp:PassesOwn (model X.prog X.w) X.A X.env X.xe)(hc:X.calm=true)(hi:PI X tg iter wi)(hg:PG X tg g)(hb:PSs X body tb)
 (hs:∀x,foldedSetIterable iter X.env x=pure x:=by intro _;rfl):PS X (.For tg iter body [] pos) (FY wi g tb):=by
 intro pins s σ H D I h
 refine wpAny_For (bB (hi pins s σ H _ I h) fun v s1 h1=>bB h1 fun G2 s2 h2=>?_) hs
 obtain⟨it,fp,tn,J,H2,e,I2,T,DN,f2,W,⟨m0,w0⟩,turn⟩:=h2
 subst e
 have BR:∀{H':Hp},(∀b∈fp,H' b=none)→∀b∈fp,pd X pins H' b:=fun hn b hb=>⟨hn b hb,(f2 b hb).2⟩
 refine codeAny_forLoop_any (fun n s'=>∃i σ' H',Inv X pins σ' H' s'∧tn i s'.heap∧(∀b∈fp,H' b=none)∧W i n σ' H') ?_ m0 ⟨0,σ,H2,I2,DN,fun b hb=>(f2 b hb).1,w0⟩
 rintro n s3 ⟨i,σ3,H3,I3,Cb,D6,w3⟩
 rcases turn i n σ3 H3 w3 with⟨stop,qn⟩ | ⟨go,N,hN,step⟩
 ·refine wpAny_passesOwn hp (bB (T.done X rfl rfl rfl hc i pins s3 σ3 H3 X.xe I3 (BR D6) Cb stop) fun r s4 ⟨hr,I4⟩=>?_)
  subst hr
  exact wpAny_execs_nil ⟨σ3,H3,I4,qn⟩
 ·refine wpAny_passesOwn hp (bB (T.item X rfl rfl rfl hc i pins s3 σ3 H3 X.xe I3 (BR D6) Cb go) fun r s4 ⟨u,hr,h4⟩=>?_)
  subst hr
  refine wpAny_passesOwn hp (bB h4 fun _ s5 ⟨x,H5,I5,r5,y5,FT,Hv⟩=>?_)
  have I5':=I5.pinned (BR Hv) (T.obj _ _ FT)
  refine wpAny_passesOwn hp (bB (hg _ s5 σ3 H5 x u _ I5' r5 (step x H5 y5)) fun _ s6 ⟨σ6,H6,I6,q6⟩=>?_)
  refine wpAny_passesOwn hp (bB (hb _ s6 σ6 H6 _ I6 q6) fun f s7 q7=>?_)
  have again:∀{σ7:St}{H7:Hp},Inv X (pins++lB fp s5.heap) σ7 H7 s7→N σ7 H7→∃m,m<n∧∃i σ' H',Inv X pins σ' H' s7∧tn i s7.heap∧(∀b∈fp,H' b=none)∧W i m σ' H':=fun {σ7 H7} I7 n7=>by
   obtain⟨m',hm,w7⟩:=hN σ7 H7 n7
   refine⟨m',hm,i+1,σ7,H7,I7.unpinned,T.keep _ _ _ FT fun b hb o e=>(I7.pin (b,o) (List.mem_append_right _ (List.mem_append_right _ (eW hb e)))).1,fun b hb=>?_,w7⟩
   obtain⟨o,e,d⟩:=T.obj _ _ FT b hb
   exact(I7.pin (b,o) (List.mem_append_right _ (List.mem_append_right _ (eW hb e)))).2.1
  cases f with
  |next=>obtain⟨σ7,H7,I7,n7⟩:=q7;exact again I7 n7
  |cont=>obtain⟨σ7,H7,I7,n7⟩:=q7;exact again I7 n7
  |brk=>obtain⟨σ7,H7,I7,q7⟩:=q7;exact⟨σ7,H7,I7.unpinned,q7⟩
  |ret v=>obtain⟨x7,σ7,H7,I7,r7,q7⟩:=q7;exact⟨x7,σ7,H7,I7.unpinned,r7,q7⟩
end
abbrev R2:=V→V→Hp→VK→Prop
def OpR(X:Cx)(f:Value→Value→Sem Value)(r:R2):Prop:=
 ∀(pins:List (Addr×Obj)) (s:Shared) (σ:St) (H:Hp) (x y:V) (v u:Value) (Q:VK),Inv X pins σ H s→RelV x v→RelV y u→r x y H Q→
  wpAny (model X.prog X.w) X.A (f v u) (EP X pins σ Q) X.xe s
def EB(X:Cx)(f:Value→Sem Value)(r:V→Hp→VK→Prop):Prop:=
 ∀(pins:List (Addr×Obj)) (s:Shared) (σ:St) (H:Hp) (x:V) (v:Value) (Q:VK),Inv X pins σ H s→RelV x v→r x H Q→
  wpAny (model X.prog X.w) X.A (f v) (EP X pins σ Q) X.xe s
def CallR(X:Cx)(f:Value)(r:List V→Hp→VK→Prop):Prop:=
 ∀(pins:List (Addr×Obj)) (s:Shared) (σ:St) (H:Hp) (xs:List V) (us:List Value) (Q:VK),Inv X pins σ H s→Vals xs us→r xs H Q→
  wpAny (model X.prog X.w) X.A (call f us) (EP X pins σ Q) X.xe s
def EA(X:Cx)(r:V→Hp→(Bool→Hp→Prop)→Prop):Prop:=
 ∀(pins:List (Addr×Obj)) (s:Shared) (σ:St) (H:Hp) (x:V) (v:Value) (Q:Bool→Hp→Prop),Inv X pins σ H s→RelV x v→r x H Q→
  wpAny (model X.prog X.w) X.A (truthy v) (TP X pins σ Q) X.xe s
def DX(r:R2)(ta tb:TE):TE:=fun σ H Q=>ta σ H fun x H1=>tb σ H1 fun y H2=>r x y H2 Q
def IV(r:V→Hp→VK→Prop)(ta:TE):TE:=fun σ H Q=>ta σ H fun x H1=>r x H1 Q
def rI(C:Int→Int→Prop)(g:Int→Int→V):R2:=fun x y H Q=>∃i j,x= .int i∧y= .int j∧C i j∧Q (g i j) H
def tT(g:Int→Int→V):R2:=fun x y H Q=>∃i j,x= .int i∧y= .int j∧Q (g i j) H
def rU(g:Int→V):V→Hp→VK→Prop:=fun x H Q=>∃i,x= .int i∧Q (g i) H
section
variable{X:Cx}{a b c:Expr}{ta tb tc:TE}{pos:Pos}
theorem Ac(ha:PE X a ta)(hb:PE X b tb){pins:List (Addr×Obj)}{s:Shared}{σ:St}{H:Hp}{R:V→V→Hp→Prop}(I:Inv X pins σ H s)
 (h:ta σ H fun x H1=>tb σ H1 fun y H2=>R x y H2){Q:Value→Shared→Prop}{f:Value→Value→Sem Value}
 (hf:∀v u s2 x y H2,Inv X pins σ H2 s2→RelV x v→RelV y u→R x y H2→wpAny (model X.prog X.w) X.A (f v u) Q X.xe s2):
 wpAny (model X.prog X.w) X.A (eval a X.env) (fun v s₁=>wpAny (model X.prog X.w) X.A (eval b X.env) (fun u s₂=>wpAny (model X.prog X.w) X.A (f v u) Q X.xe s₂) X.xe s₁) X.xe s:=by
 refine bB (ha pins s σ H _ I h) fun v s1 ⟨x,H1,I1,r1,q1⟩=>?_
 refine bB (hb pins s1 σ H1 _ I1 q1) fun u s2 ⟨y,H2,I2,r2,q2⟩=>?_
 exact hf v u s2 x y H2 I2 r1 r2 q2
theorem Du{op:Operator}{r:R2}(ho:OpR X (binaryOp op) r)(ha:PE X a ta)(hb:PE X b tb):PE X (.BinOp a op b pos) (DX r ta tb):=by
 intro pins s σ H Q I h
 exact wpAny_BinOp (Ac ha hb I h fun v u s2 x y H2 I2 rx ry q=>ho pins s2 σ H2 x y v u Q I2 rx ry q)
theorem Dv{op:UnaryOp}{r:V→Hp→VK→Prop}(ho:EB X (unaryOp op) r)(ha:PE X a ta):PE X (.UnaryOp op a pos) (IV r ta):=by
 intro pins s σ H Q I h
 exact UnaryOp_ (bB (ha pins s σ H _ I h) fun v s1 ⟨x,H1,I1,r1,q1⟩=>ho pins s1 σ H1 x v Q I1 r1 q1)
theorem FG{f:Value→Value→Sem Value}{C:Int→Int→Prop}{g:Int→Int→Int}
 (rule:∀(i j:Int) (t u:Tok) (s:Shared) (Q:Value→Shared→Prop) (E:Value→Shared→Prop),C i j→Q (.int (g i j) s.toks) {s with toks:=s.toks+1}→wpAny (model X.prog X.w) X.A (f (.int i t) (.int j u)) Q E s):
 OpR X f (rI C fun i j=> .int (g i j)):=by
 intro pins s σ H x y v u Q I rx ry h
 obtain⟨i,j,rfl,rfl,hc,q⟩:=h
 obtain⟨t,rfl⟩:=rx
 obtain⟨t',rfl⟩:=ry
 exact rule i j t t' s _ _ hc ⟨.int (g i j),H,I.tok _,⟨_,rfl⟩,q⟩
theorem Dk{f:Value→Value→Sem Value}{g:Int→Int→Int}
 (rule:∀(i j:Int) (t u:Tok) (s:Shared) (Q:Value→Shared→Prop) (E:Value→Shared→Prop),Q (.int (g i j) s.toks) {s with toks:=s.toks+1}→wpAny (model X.prog X.w) X.A (f (.int i t) (.int j u)) Q E s):
 OpR X f (tT fun i j=> .int (g i j)):=by
 intro pins s σ H x y v u Q I rx ry h
 obtain⟨i,j,rfl,rfl,q⟩:=h
 obtain⟨t,rfl⟩:=rx
 obtain⟨t',rfl⟩:=ry
 exact rule i j t t' s _ _ ⟨.int (g i j),H,I.tok _,⟨_,rfl⟩,q⟩
theorem A6{f:Value→Value→Sem Value}{g:Int→Int→Bool}
 (rule:∀(i j:Int) (t u:Tok) (s:Shared) (Q:Value→Shared→Prop) (E:Value→Shared→Prop),Q (.bool (g i j)) s→wpAny (model X.prog X.w) X.A (f (.int i t) (.int j u)) Q E s):
 OpR X f (tT fun i j=> .bl (g i j)):=by
 intro pins s σ H x y v u Q I rx ry h
 obtain⟨i,j,rfl,rfl,q⟩:=h
 obtain⟨t,rfl⟩:=rx
 obtain⟨t',rfl⟩:=ry
 exact rule i j t t' s _ _ ⟨.bl (g i j),H,I,rfl,q⟩
def Cd(i j:Int):Prop:=0<j∧j<1073741824
def CMul(i j:Int):Prop:=(-(2 ^ 64)<i∧i<2 ^ 64)∨(-(2 ^ 64)<j∧j<2 ^ 64)
theorem CMul.ok{i j:Int}(h:CMul i j):IntMulOk i j:=by
 rcases h with⟨h1,h2⟩ | ⟨h1,h2⟩
 ·exact .of_left (intBits_le_64 h1 h2)
 ·exact .of_right (intBits_le_64 h1 h2)
theorem A7:OpR X (binaryOp .Add) (tT fun i j=> .int (i+j)):=Dk fun _ _ _ _ _ _ _ q=>add_int q
theorem Bc:OpR X (binaryOp .Sub) (tT fun i j=> .int (i - j)):=Dk fun _ _ _ _ _ _ _ q=>sub_int q
theorem Ba:OpR X (binaryOp .Mult) (rI CMul fun i j=> .int (i*j)):=FG fun _ _ _ _ _ _ _ hc q=>mul_int q hc.ok
theorem yq:OpR X (binaryOp .FloorDiv) (rI Cd fun i j=> .int (i / j)):=FG fun i j _ _ _ _ _ hc q=>by
 have h1:(0:Int)<j:=hc.1
 have h2:j<1073741824:=hc.2
 exact floordiv_int (by omega) (by rw[Int.fdiv_eq_ediv_of_nonneg i (by omega)];exact q) (.inl (PyProof.noPylong_small (by omega)))
theorem A_:OpR X (binaryOp .Mod) (rI (fun _ j=>0<j) fun i j=> .int (i % j)):=FG fun i j _ _ _ _ _ hc q=>by
 have h1:(0:Int)<j:=hc
 exact mod_int' (by omega) (by rw[Int.fmod_eq_emod_of_nonneg i (by omega)];exact q)
theorem IX{f:Value→Sem Value}{g:Int→Int}
 (rule:∀(i:Int) (t:Tok) (s:Shared) (Q:Value→Shared→Prop) (E:Value→Shared→Prop),Q (.int (g i) s.toks) {s with toks:=s.toks+1}→wpAny (model X.prog X.w) X.A (f (.int i t)) Q E s):
 EB X f (rU fun i=> .int (g i)):=by
 intro pins s σ H x v Q I rx h
 obtain⟨i,rfl,q⟩:=h
 obtain⟨t,rfl⟩:=rx
 exact rule i t s _ _ ⟨.int (g i),H,I.tok _,⟨_,rfl⟩,q⟩
theorem BZ:EB X (unaryOp .USub) (rU fun i=> .int (-i)):=IX fun _ _ _ _ _ q=>neg_int q
end
section
variable{X:Cx}{a b c:Expr}{ta tb tc:TE}{pos:Pos}
theorem vK{pins:List (Addr×Obj)}{σ:St}{H:Hp}{s:Shared}{Q:VK}{k k':Bool}(I:Inv X pins σ H s)(q:Q (.bl k) H)(e:k=k'):EP X pins σ Q (.bool k') s:=by
 subst e
 exact⟨.bl k,H,I,rfl,q⟩
theorem zU:OpR X (compareOp .Lt) (tT fun i j=> .bl (decide (i<j))):=A6 fun _ _ _ _ _ _ _ q=>lt_int q
theorem nv:OpR X (compareOp .LtE) (tT fun i j=> .bl (decide (i≤j))):=A6 fun _ _ _ _ _ _ _ q=>le_int q
theorem Dl:OpR X (compareOp .Gt) (tT fun i j=> .bl (decide (j<i))):=A6 fun _ _ _ _ _ _ _ q=>gt_int q
theorem uO:OpR X (compareOp .In) (fun x y H Q=>∃i j,x= .str i∧y= .str j∧Q (.bl (!(Builtin.Str.occurrences j i 0 j.length 1).isEmpty)) H):=by
 intro pins s σ H x y v u Q I rx ry h
 obtain⟨i,j,rfl,rfl,q⟩:=h
 obtain⟨t,rfl⟩:=rx
 obtain⟨t',rfl⟩:=ry
 exact in_str (vK I q rfl)
theorem yr:OpR X (compareOp .IsNot) (fun x y H Q=>y= .non∧Q (.bl (!decide (x= .non))) H):=by
 intro pins s σ H x y v u Q I rx ry h
 obtain⟨rfl,q⟩:=h
 cases ry
 refine isnot_none_gen (vK I q ?_)
 cases x<;>first
  |(cases rx;rfl)
  |(obtain ⟨t,rfl⟩:=rx;rfl)
theorem OpR.or{f:Value→Value→Sem Value}{r r':R2}(h:OpR X f r)(h':OpR X f r'):OpR X f (fun x y H Q=>r x y H Q∨r' x y H Q):=by
 intro pins s σ H x y v u Q I rx ry q
 rcases q with q | q
 ·exact h pins s σ H x y v u Q I rx ry q
 ·exact h' pins s σ H x y v u Q I rx ry q
theorem wm(b:Expr){op:CmpOp}(h:op≠ .In:=by decide)(h2:op≠ .NotIn:=by decide):behindInMarks op b=false:=by
 have e1:(op==CmpOp.In)=false:=by cases op<;>first | rfl | exact absurd rfl h
 have e2:(op==CmpOp.NotIn)=false:=by cases op<;>first | rfl | exact absurd rfl h2
 cases b<;>simp[behindInMarks,e1,e2]
theorem yM{op:CmpOp}{r:R2}(ho:OpR X (compareOp op) r)(ha:PE X a ta)(hb:PE X b tb)(hm:behindInMarks op b=false):PE X (.Compare a [op] [b] pos) (DX r ta tb):=by
 intro pins s σ H Q I h
 exact wpAny_Compare1 (Ac ha hb I h fun v u s2 x y H2 I2 rx ry q=>ho pins s2 σ H2 x y v u Q I2 rx ry q) hm
def z7(t:TE):TT:=fun σ H Q=>t σ H fun x H'=>∃k,x= .bl k∧Q k H'
theorem yW{op:CmpOp}{r:R2}(ho:OpR X (compareOp op) r)(ha:PE X a ta)(hb:PE X b tb)(hm:behindInMarks op b=false):PT X (.Compare a [op] [b] pos) (z7 (DX r ta tb)):=by
 intro pins s σ H Q I h
 refine wpAny_isTrue_Compare1 (bB (ha pins s σ H _ I h) fun v s1 ⟨x,H1,I1,r1,q1⟩=>bB (hb pins s1 σ H1 _ I1 q1) fun u s2 ⟨y,H2,I2,r2,q2⟩=>
  bB (ho pins s2 σ H2 x y v u _ I2 r1 r2 q2) fun c s3 ⟨z,H3,I3,r3,k,e,q3⟩=>?_) hm
 subst e
 cases r3
 exact wpAny_truthy_bool ⟨H3,I3,q3⟩
def sr(r r':R2)(ta tb tc:TE):TE:=fun σ H Q=>ta σ H fun x H1=>tb σ H1 fun y H2=>r x y H2 fun z H3=>∃k,z= .bl k∧
 (if k=true then tc σ H3 fun w' H4=>r' y w' H4 Q else Q (.bl false) H3)
theorem wJ{op rX:CmpOp}{r r':R2}(ho:OpR X (compareOp op) r)(mO:OpR X (compareOp rX) r')(ha:PE X a ta)(hb:PE X b tb)(hc:PE X c tc)
 (hm:lastMarks [op,rX] [b,c]=false:=by with_unfolding_all rfl):PE X (.Compare a [op,rX] [b,c] pos) (sr r r' ta tb tc):=by
 intro pins s σ H Q I h
 refine Compare_chain (bB (ha pins s σ H _ I h) fun v s1 ⟨x,H1,I1,r1,q1⟩=>chain_link (bB (hb pins s1 σ H1 _ I1 q1) fun u s2 ⟨y,H2,I2,r2,q2⟩=>
  bB (ho pins s2 σ H2 x y v u _ I2 r1 r2 q2) fun d s3 ⟨z,H3,I3,r3,k,e,q3⟩=>?_)) hm
 subst e
 cases r3
 refine wpAny_truthy_bool ?_
 cases k with
 |false=>exact ite_ff ⟨.bl false,H3,I3,rfl,q3⟩
 |true=>exact ite_tt (chain_last (bB (hc pins s3 σ H3 _ I3 q3) fun w' s4 ⟨z',H4,I4,r4,q4⟩=>mO pins s4 σ H4 y z' u w' Q I4 r2 r4 q4))
theorem wU{op rX:CmpOp}{r r':R2}(ho:OpR X (compareOp op) r)(mO:OpR X (compareOp rX) r')(ha:PE X a ta)(hb:PE X b tb)(hc:PE X c tc)
 (hm:lastMarks [op,rX] [b,c]=false:=by with_unfolding_all rfl):PT X (.Compare a [op,rX] [b,c] pos) (z7 (sr r r' ta tb tc)):=by
 intro pins s σ H Q I h
 refine isTrue_chain (bB (ha pins s σ H _ I h) fun v s1 ⟨x,H1,I1,r1,q1⟩=>test_link (bB (hb pins s1 σ H1 _ I1 q1) fun u s2 ⟨y,H2,I2,r2,q2⟩=>
  bB (ho pins s2 σ H2 x y v u _ I2 r1 r2 q2) fun d s3 ⟨z,H3,I3,r3,k,e,q3⟩=>?_)) hm
 subst e
 cases r3
 refine wpAny_truthy_bool ?_
 cases k with
 |false=>
  obtain⟨k',e',q'⟩:=q3
  cases e'
  exact ite_ff ⟨H3,I3,q'⟩
 |true=>
  refine ite_tt (test_last (bB (hc pins s3 σ H3 _ I3 q3) fun w' s4 ⟨z',H4,I4,r4,q4⟩=>bB (mO pins s4 σ H4 y z' u w' _ I4 r2 r4 q4) fun d' s5 ⟨z2,H5,I5,r5,k2,e2,q5⟩=>?_))
  subst e2
  cases r5
  exact wpAny_truthy_bool ⟨H5,I5,q5⟩
def Cj(K:W.Frag)(x:V)(H:Hp)(k:Bool):Prop:=
 match x with
 | .non=>k=false
 | .bl b=>k=b
 | .int i=>k=(i !=0)
 | .str y=>y.length≤sizeLine∧k=((y.length:Int) !=0)
 | .byt y=>y.size≤sizeLine∧k=((y.size:Int) !=0)
 | .ref p=>(∃xs,SqL K H p xs∧k=!xs.isEmpty)∨(∃xs,SqT K H p xs∧k=!xs.isEmpty)∨∃ax,H p=some (.dK ax)∧k=!ax.isEmpty
 |_=>False
theorem rD{κ:Type}{ax:List (κ×V)}{vs:List (κ×Value)}(r:KV ax vs):(!vs.isEmpty)=!ax.isEmpty:=by
 cases r<;>rfl
theorem kI{xs:List V}{aG:List Value}(r:Vals xs aG):(!aG.toArray.isEmpty)=!xs.isEmpty:=by
 cases r<;>simp
theorem jd:(sizeLine:Nat)<2 ^ 63:=by rw[sizeLine_eq];decide
theorem BX:EA X (fun x H Q=>∃k,Cj X.K x H k∧Q k H):=by
 intro pins s σ H x v Q I rx h
 obtain⟨k,e,q⟩:=h
 have hl:=jd
 have hs:sizeLine=16777216:=sizeLine_eq
 cases x with
 |non=>
  cases rx
  have e':k=false:=e
  subst e'
  exact truthy_none ⟨H,I,q⟩
 |bl b=>
  cases rx
  have e':k=b:=e
  subst e'
  exact wpAny_truthy_bool ⟨H,I,q⟩
 |int i=>
  obtain⟨t,rfl⟩:=rx
  have e':k=(i !=0):=e
  subst e'
  exact PySem.P.truthy_int ⟨H,I,q⟩
 |str y=>
  obtain⟨t,rfl⟩:=rx
  obtain⟨hy,e'⟩:y.length≤sizeLine∧k=((y.length:Int) !=0):=e
  subst e'
  exact PySem.P.truthy_str (by omega) ⟨H,I.tok _,q⟩
 |byt y=>
  obtain⟨t,rfl⟩:=rx
  obtain⟨hy,e'⟩:y.size≤sizeLine∧k=((y.size:Int) !=0):=e
  subst e'
  exact PySem.W.truthy_bytes (by omega) ⟨H,I.tok _,q⟩
 |ref p=>
  cases rx
  have e':(∃xs,SqL X.K H p xs∧k=!xs.isEmpty)∨(∃xs,SqT X.K H p xs∧k=!xs.isEmpty)∨∃ax,H p=some (.dK ax)∧k=!ax.isEmpty:=e
  rcases e' with⟨xs,hx,e'⟩ | ⟨xs,hx,e'⟩ | ⟨ax,hx,e'⟩
  ·subst e'
   obtain⟨aG,r,pl,hz⟩:=I.list hx
   have hlen:=r.length
   exact wpAny_truthy_list pl.isList (by simp only[List.size_toArray];omega) ⟨H,I.tok _,by rw[kI r];exact q⟩
  ·subst e'
   obtain⟨aG,r,pl,hz⟩:=I.tuple hx
   have hlen:=r.length
   exact truthy_tuple pl (by simp only[List.size_toArray];omega) ⟨H,I.tok _,by rw[kI r];exact q⟩
  ·subst e'
   obtain⟨hz,hS,vs,r,m⟩:ax.length≤sizeLine∧(p==sysModules)=false∧∃vs,KV ax vs∧s.heap.DictOf (bz X.prog X.w) p vs:=I.hok p _ hx
   have hlen:ax.length=vs.length:=Paired.length r
   exact wpAny_truthy_dict hS m (by omega) ⟨H,I.tok _,by rw[rD r];exact q⟩
 |_=>exact(show False from e).elim
theorem wV(ha:PE X a ta)(he:∀whole,isTrue a X.env whole=(do let v←whole;standAt a.pos;holding [v] (truthy v))):
 PT X a (fun σ H Q=>ta σ H fun x H'=>∃k,Cj X.K x H' k∧Q k H'):=by
 intro pins s σ H Q I h
 exact isTrue_plain (bB (ha pins s σ H _ I h) fun v s1 ⟨x,H1,I1,r1,q1⟩=>BX pins s1 σ H1 x v Q I1 r1 q1) (he _)
theorem vals1{x:V}{us:List Value}(r:Vals [x] us):∃u,us=[u]∧RelV x u:=by
 cases r with
 |cons r1 r2=>cases r2;exact⟨_,rfl,r1⟩
theorem vals2{x y:V}{us:List Value}(r:Vals [x,y] us):∃u w',us=[u,w']∧RelV x u∧RelV y w':=by
 cases r with
 |cons r1 r2=>
  cases r2 with
  |cons r3 r4=>cases r4;exact⟨_,_,rfl,r1,r3⟩
theorem vx:CallR X (.builtin "abs") (fun xs H Q=>∃i,xs=[.int i]∧Q (.int (if i<0 then -i else i)) H):=by
 intro pins s σ H xs us Q I r h
 obtain⟨i,rfl,q⟩:=h
 obtain⟨u,rfl,t,rfl⟩:=vals1 r
 exact call_abs_int fun u tk=>⟨.int (if i<0 then -i else i),H,I.tok _,⟨_,rfl⟩,q⟩
theorem uc(hc:X.calm=true):CallR X (.builtin "max") (fun xs H Q=>∃i j,xs=[.int i, .int j]∧Q (.int (if j>i then j else i)) H):=by
 intro pins s σ H xs us Q I r h
 obtain⟨i,j,rfl,q⟩:=h
 obtain⟨u,w',rfl,⟨t,rfl⟩,⟨t',rfl⟩⟩:=vals2 r
 refine max_two_ints (I.ok.hd hc) fun h' tk k=>⟨_,H,I.kept k,?_,q⟩
 by_cases hj:j>i
 ·rw[if_pos hj,if_pos hj];exact⟨_,rfl⟩
 ·rw[if_neg hj,if_neg hj];exact⟨_,rfl⟩
theorem ud(hc:X.calm=true):CallR X (.builtin "min") (fun xs H Q=>∃i j,xs=[.int i, .int j]∧Q (.int (if j<i then j else i)) H):=by
 intro pins s σ H xs us Q I r h
 obtain⟨i,j,rfl,q⟩:=h
 obtain⟨u,w',rfl,⟨t,rfl⟩,⟨t',rfl⟩⟩:=vals2 r
 refine min_two_ints (I.ok.hd hc) fun h' tk k=>⟨_,H,I.kept k,?_,q⟩
 by_cases hj:j<i
 ·rw[if_pos hj,if_pos hj];exact⟨_,rfl⟩
 ·rw[if_neg hj,if_neg hj];exact⟨_,rfl⟩
end
structure ObjM (h:Heap) (x dx C:Addr) (mA:Str→Option Value):Prop where
 obj:h.get? x=some (PySem.W.instObj C dx)
 ns:h.Ns1 dx mA
 ne:dx≠x
theorem uH{h:Heap}{dx:Addr}{mA:Str→Option Value}(n:h.Ns1 dx mA):∃od,h.get? dx=some od∧∀name,PySem.W.lookIn name od=some (mA name):=by
 obtain⟨o,es,ep,ho,hd,hk,_,hm⟩:=n
 refine⟨o,ho,fun name=>?_⟩
 have e:=hm name
 unfold nsFind findBy at e
 rw[←Array.find?_toList] at e
 unfold PySem.W.lookIn
 rw[hd]
 dsimp only
 split
 ·rename_i y q
  rw[q] at e
  exact congrArg some e
 ·rename_i q
  rw[q] at e
  have a:es.toList.any (·.refKey)=false:=by
   rw[List.any_eq_false]
   intro y hy
   obtain⟨z,t,Au⟩:=hk y (Array.mem_toList_iff.mp hy)
   simp[DictEntry.refKey,Au]
  have a':¬es.toList.any (·.refKey)=true:=by rw[a];exact Bool.false_ne_true
  rw[if_neg a']
  exact congrArg some e
theorem ObjM.look{h:Heap}{x dx C:Addr}{mA:Str→Option Value}(I:ObjM h x dx C mA):∃od,PySem.W.InstAt h x (PySem.W.instObj C dx) C (some od)∧∀name,PySem.W.lookIn name od=some (mA name):=
 let ⟨od,ho,hl⟩:=uH I.ns
 ⟨od,⟨I.obj,rfl,rfl,ho⟩,hl⟩
section
variable{prog:Program}{w:World}{A:Around}{E:Value→Shared→Prop}{s:Shared}{K:W.Frag}{x dx C f:Addr}{mA:Str→Option Value}{name:Str}{v:Value}
end
theorem RelO.some_of{v:V}{o:Option Value}(r:RelO (some v) o):∃u,o=some u∧RelV v u:=by
 cases o with
 |none=>exact(show False from r).elim
 |some u=>exact⟨u,rfl,r⟩
section
variable{P:Program}{w:World}{H H':Hp}{h h':Heap}{a C dx:Addr}{fs EG:List (Str×V)}
theorem yb(hok:HOk P w H h)(e:H a=some (.ins C dx fs)):∃mA,ObjM h a dx C mA∧(∀f,RelO (fs.lookup f) (mA f))∧PySem.Within mA (fs.map (·.1))∧fs.length≤1000∧H dx=some (.own a):=by
 obtain⟨d,z,ne,ob,mA,n,r,q⟩:=(show ObjOk P w H h a (.ins C dx fs) from hok a _ e)
 exact⟨mA,⟨ob,n,ne⟩,r,q,z,d⟩
end
structure Cls (K:W.Frag) (C:Addr):Prop where
 pg:PySem.W.plainGet K C Str.empty=true
 hd:PySem.W.hasDictIn K C=true
 po:PySem.W.plainOver K C=true
 sa:PySem.W.findIn K (.ref C) "__setattr__"=some (some (.builtin "object.__setattr__"))
theorem Cls.get{K:W.Frag}{C:Addr}(c:Cls K C)(f:Str):PySem.W.plainGet K C f=true:=c.pg
structure Con (K:W.Frag) (C:Addr) (f:Str) (v:V) (u:Value):Prop where
 at_:PySem.W.findIn K (.ref C) f=some (some u)
 rel:RelV v u
 get:PySem.W.specialIn K u "__get__"=some none
 cp:PySem.W.copiedNames.contains f=false
structure Meth (K:W.Frag) (C:Addr) (m:Str) (f:Addr):Prop where
 at_:PySem.W.findIn K (.ref C) m=some (some (.ref f))
 fn:PySem.W.isFn K (.ref f)=true
 kp:PySem.W.keepIn K (.ref f)=true
section
variable{X:Cx}{pins:List (Addr×Obj)}{σ:St}{H:Hp}{s:Shared}{a C dx:Addr}{fs:List (Str×V)}{f:Str}{v:V}{A:Around}{E:Value→Shared→Prop}
end
section
variable{X:Cx}{o e value:Expr}{f:Str}{pos pos' F_:Pos}{ta tv:TE}
end
section
variable{X:Cx}{pins:List (Addr×Obj)}{σ:St}{H:Hp}{s:Shared}{A:Around}{E:Value→Shared→Prop}{Q:Value→Shared→Prop}{c:Value}{b:Bool}
inductive TyOf (K:W.Frag) (H:Hp):V→Value→Prop where
 |non:TyOf K H .non (.type "NoneType")
 |bl (x:Bool):TyOf K H (.bl x) (.type "bool")
 |int (i:Int):TyOf K H (.int i) (.type "int")
 |str (x:Str):TyOf K H (.str x) (.type "str")
 |flt (x:UInt64):TyOf K H (.flt x) (.type "float")
 |lst {a:Addr}{xs:List V}(e:H a=some (.lst xs)):TyOf K H (.ref a) (.type "list")
 |frz {a:Addr}{o:Obj}{xs:List V}(e:H a=some (.frz o (.lst xs))):TyOf K H (.ref a) (.type "list")
 |tup {a:Addr}{xs:List V}(e:H a=some (.tup xs)):TyOf K H (.ref a) (.type "tuple")
 |dK {a:Addr}{ax:List (Key×V)}(e:H a=some (.dK ax)):TyOf K H (.ref a) (.type "dict")
 |dT {a:Addr}{ax:List (List Key×V)}(e:H a=some (.dT ax)):TyOf K H (.ref a) (.type "dict")
 |ins {a C dx:Addr}{fs:List (Str×V)}(e:H a=some (.ins C dx fs)) (cl:Cls K C) (ha:PySem.W.findIn K (.ref C) "__class__"=some (some (.builtin "object.__class__")))
   (hn:PySem.W.specialIn K (.builtin "object.__class__") "__get__"=some (some (.builtin "getset_descriptor.__get__"))) (GU:PySem.W.takesIn K (.builtin "object.__class__")=some true)
   (hm:PySem.W.mroIn K C (.type "object")=some true):TyOf K H (.ref a) (.ref C)
theorem uz{x:V}{u t:Value}(I:Inv X pins σ H s)(rx:RelV x u)(ty:TyOf X.K H x t)(e:PySem.W.kitOne X.K t c=some b)(h:∀tk,Q (.bool b) {s with toks:=tk}):
 wpAny (model X.prog X.w) A (call (.builtin "isinstance") [u,c]) Q E s:=by
 cases ty with
 |non=>cases (show u=Value.none from rx);exact PySem.W.kia_one PySem.W.kitx_none I.kIn True.intro e (fun z=>nomatch z) h
 |bl y=>cases (show u=Value.bool y from rx);exact PySem.W.kia_one PySem.W.kitx_bool I.kIn True.intro e (fun z=>nomatch z) h
 |int i=>obtain⟨t,q⟩:=(show∃t,u=Value.int i t from rx);cases q;exact PySem.W.kia_one PySem.W.kitx_int I.kIn True.intro e (fun z=>nomatch z) h
 |str y=>obtain⟨t,q⟩:=(show∃t,u=Value.str y t from rx);cases q;exact PySem.W.kia_one PySem.W.kitx_str I.kIn True.intro e (fun z=>nomatch z) h
 |flt y=>obtain⟨t,q⟩:=(show∃t,u=Value.float y t from rx);cases q;exact PySem.W.kia_one PySem.W.kitx_float I.kIn True.intro e (fun z=>nomatch z) h
 | @lst a xs ea=>
   cases (show u=Value.ref a from rx)
   obtain⟨_,_,n,_,h1⟩:=(show ObjOk X.prog X.w H s.heap a (.lst xs) from I.hok a _ ea)
   exact PySem.W.kia_one PySem.W.kitx_list I.kIn ⟨_,h1,rfl⟩ e (fun z=>nomatch z) h
 | @frz a ob xs ea=>
   cases (show u=Value.ref a from rx)
   obtain⟨_,_,_,n,_,h1⟩:=(show ObjOk X.prog X.w H s.heap a (.frz ob (.lst xs)) from I.hok a _ ea)
   exact PySem.W.kia_one PySem.W.kitx_list I.kIn ⟨_,h1,rfl⟩ e (fun z=>nomatch z) h
 | @tup a xs ea=>
   cases (show u=Value.ref a from rx)
   obtain⟨_,_,_,p⟩:=(show ObjOk X.prog X.w H s.heap a (.tup xs) from I.hok a _ ea)
   obtain⟨o,h1,h2,_⟩:=p
   exact PySem.W.kia_one PySem.W.kitx_tuple I.kIn ⟨o,h1,h2⟩ e (fun z=>nomatch z) h
 | @dK a ax ea=>
   cases (show u=Value.ref a from rx)
   obtain⟨_,_,vs,_,p⟩:=(show ObjOk X.prog X.w H s.heap a (.dK ax) from I.hok a _ ea)
   obtain⟨o,es,ep,h1,h2,_⟩:=p
   exact PySem.W.kia_one PySem.W.kitx_dict I.kIn ⟨o,h1,h2.1⟩ e (fun z=>nomatch z) h
 | @dT a ax ea=>
   cases (show u=Value.ref a from rx)
   obtain⟨_,_,xs,_,o,es,ep,h1,h2,_⟩:=(show ObjOk X.prog X.w H s.heap a (.dT ax) from I.hok a _ ea)
   exact PySem.W.kia_one PySem.W.kitx_dict I.kIn ⟨o,h1,h2.1⟩ e (fun z=>nomatch z) h
 | @ins a C dx fs ea cl ha hn GU hm=>
   cases (show u=Value.ref a from rx)
   obtain⟨mA,O,_⟩:=yb I.hok ea
   obtain⟨od,J,_⟩:=O.look
   exact PySem.W.kia_one (PySem.W.kitx_own (cl.get _) cl.hd ha hn GU hm) I.kIn J e (fun z=>nomatch z) h
end
structure Room (k:Nat) (A:Around):Prop where
 hd:A.handled=none
 dp:A.depth+3*k+5<recursionLimit
 un:A.units+16*k+200<cLine
theorem Room.mono{j k:Nat}{A:Around}(r:Room k A)(h:j≤k):Room j A:=⟨r.hd,by have:=r.dp;omega,by have:=r.un;omega⟩
theorem Room.deeper{k:Nat}{A:Around}(r:Room (k+1) A)(env:Env):Room k (A.deeper env):=
 ⟨r.hd,by have:=r.dp;show A.depth+1+3*k+5<_;omega,by have:=r.un;show A.units+3+16*k+200<_;omega⟩
theorem Room.depth{k:Nat}{A:Around}(r:Room k A):A.depth<recursionLimit:=by have:=r.dp;omega
theorem Room.units{k:Nat}{A:Around}(r:Room k A):A.units+64<cLine:=by have:=r.un;omega
def DV:TA:=fun _ H Q=>Q [] H
def z5(ta:TE)(tr:TA):TA:=fun σ H Q=>ta σ H fun x H1=>tr σ H1 fun xs H2=>Q (x::xs) H2
section
variable{X:Cx}{e:Expr}{es:List Expr}{te:TE}{t:TA}{pos:Pos}
theorem r0:PA X [] DV:=fun _ _ _ _ H Q I h=>Calls.spliced_nil ⟨[],H,I, .nil,h⟩
theorem tH(ha:PE X e te)(hr:PA X es t)(hs:starEach (e::es) X.env=(false,eval e X.env)::starEach es X.env:=by rfl):PA X (e::es) (z5 te t):=by
 intro pos pins s σ H Q I h
 rw[hs]
 show wpAny _ _ (spliced ((false,eval e X.env)::backTo pos (starEach es X.env))) _ _ s
 refine Calls.spliced_cons (bB (ha pins s σ H _ I h) fun u s1 ⟨x,H1,I1,r1,q1⟩=>?_)
 exact bB (hr pos pins s1 σ H1 _ I1 q1) fun us s2 ⟨xs,H2,I2,r2,q2⟩=>⟨x::xs,H2,I2, .cons r1 r2,q2⟩
def F9(t:TA):TE:=fun σ H Q=>t σ H fun xs H1=>xs.length≤sizeLine∧∀p,H1 p=none→Q (.ref p) (upd H1 p (.tup xs))
def F0(t:TA):TE:=fun σ H Q=>t σ H fun xs H1=>xs.length≤sizeLine∧∀p,H1 p=none→Q (.ref p) (upd H1 p (.lst xs))
theorem Bv{x1}(h:PA X es t):PE X (.Tuple es x1 pos) (F9 t):=by
 intro pins s σ H Q I hq
 refine wpAny_Tuple_spliced (bB (h pos pins s σ H _ I hq) fun us s1 ⟨xs,H1,I1,r,z,q⟩=>⟨by rw[←r.length];exact z,?_⟩)
 have hf:H1 s1.heap.objs.size=none:=I1.hok.fresh (Nat.le_refl _)
 refine⟨.ref s1.heap.objs.size,upd H1 s1.heap.objs.size (.tup xs),I1.laid (t':=s1.toks) (fun b u e=>Heap.get?_push_of_some _ e) (Nat.le_refl _) ?_,rfl,q _ hf⟩
 exact⟨z,us,r,⟨_,Heap.get?_push_size _ rfl,rfl,_,rfl⟩⟩
theorem r_(h:PA X es t):PE X (.List es pos) (F0 t):=by
 intro pins s σ H Q I hq
 refine wpAny_List_spliced (bB (h pos pins s σ H _ I hq) fun us s1 ⟨xs,H1,I1,r,z,q⟩=>⟨by rw[←r.length];exact z,?_⟩)
 have hf:H1 s1.heap.objs.size=none:=I1.hok.fresh (Nat.le_refl _)
 refine⟨.ref s1.heap.objs.size,upd H1 s1.heap.objs.size (.lst xs),I1.laid (t':=s1.toks) (fun b u e=>Heap.get?_push_of_some _ e) (Nat.le_refl _) ?_,rfl,q _ hf⟩
 exact⟨z,us,0,r,Heap.get?_push_size _ rfl⟩
end
abbrev Sp:=List V→Hp→VK→XK→Prop
abbrev q9:=List Env→Hp→Shared→XK→Value→Shared→Prop
structure Env0 (P:Program) (w:World) (K:W.Frag) (mg:Str→Option Value) (base:Heap) (A:Around) (outer:List Env) (s:Shared) (H:Hp):Prop where
 frames:A.frames=some outer
 mod:Mod K mg base
 bs:∀b o,base.get? b=some o→s.heap.get? b=some o∧H b=none
 bsz:base.objs.size≤s.heap.objs.size
 funs:s.heap.FunFrames base outer
 frf:∀b∈j8 outer,H b=none
 hok:HOk P w H s.heap
 bare:AllBare s.gens
def CE(outer:List Env)(P:Program)(w:World)(H:Hp)(s:Shared)(Q:VK)(u:Value)(s':Shared):Prop:=
 ∃v H',s'.os=s.os∧AllBare s'.gens∧Un (j8 outer) [] H H' s.heap s'.heap∧HOk P w H' s'.heap∧RelV v u∧Q v H'
def CR(CX:q9)(outer:List Env)(P:Program)(w:World)(H:Hp)(s:Shared)(Q:VK)(E:XK)(r:Result)(s':Shared):Prop:=
 match r with
 | .ok (.ret u)=>CE outer P w H s Q u s'
 | .ok _=>False
 | .error e=>CX outer H s E e s'
structure FnOk (P:Program) (w:World) (K:W.Frag) (mg:Str→Option Value) (base:Heap) (CX:q9) (k:Nat) (f:Addr) (fd:FuncData) (ps:List Str) (sp:Sp):Prop where
 len:∀vs H Q E,sp vs H Q E→vs.length=ps.length
 run:∀(A:Around) (outer:List Env) (s:Shared) (H:Hp) (args:Args) (us:List Value) (vs:List V) (Q:VK) (E:XK),Room k A→Env0 P w K mg base A outer s H→BindsTo s fd args (ps.zip us)→Vals vs us→sp vs H Q E→
  codeAny (model P w) A (.call (.ref f) args) (CR CX outer P w H s Q E) s
theorem FnOk.mono{P:Program}{w:World}{K:W.Frag}{mg:Str→Option Value}{base:Heap}{CX:q9}{j k:Nat}{f:Addr}{fd:FuncData}{ps:List Str}{sp:Sp}(F:FnOk P w K mg base CX j f fd ps sp)(h:j≤k):
 FnOk P w K mg base CX k f fd ps sp:=⟨F.len,fun A outer s H args us vs Q E hr=>F.run A outer s H args us vs Q E (hr.mono h)⟩
section
variable{X:Cx}{pins:List (Addr×Obj)}{σ:St}{H:Hp}{s s':Shared}
theorem Inv.env0(I:Inv X pins σ H s):Env0 X.prog X.w X.K X.mg X.base X.A X.stack s H:=
 ⟨I.ok.frames,I.ok.mod,I.bs,Nat.le_trans I.ok.bsz I.sz,I.stack,I.stkFree,I.hok,I.bare⟩
theorem Inv.after{Q:VK}{u:Value}(I:Inv X pins σ H s)(h:CE X.stack X.prog X.w H s Q u s'):EP X pins σ Q u s':=by
 obtain⟨v,H',os,bare,un,hok,r,q⟩:=h
 obtain⟨hh,g,d,t,FI⟩:=s'
 obtain rfl:FI=s.os:=os
 exact⟨v,H',I.call (h':=hh) (g':=g) (d':=d) (t':=t) (ch:=[]) un hok bare (fun b z=>absurd z (by simp)),r,q⟩
end
def DQ(sp:Sp)(zu:List V)(E:XK)(t:TA):TE:=fun σ H Q=>t σ H fun vs H1=>sp (vs++zu) H1 Q E
def Binds(K:W.Frag)(fd:FuncData)(ps:List Str)(ds:List Value):Prop:=
 ∀(s:Shared) (us:List Value),K.In s.heap→(us++ds).length=ps.length→BindsTo s fd ⟨us,[]⟩ (ps.zip (us++ds))
theorem Binds.all{K:W.Frag}{fd:FuncData}{ps:List Str}(h:∀us:List Value,us.length=ps.length→bindArgs fd ⟨us,[]⟩=pure (ps.zip us)):Binds K fd ps []:=fun s us _ hl=>by
 rw[List.append_nil] at hl⊢
 exact .of_eq (h us hl)
def Passes(CX:q9)(X:Cx)(E:XK):Prop:=∀(pins:List (Addr×Obj)) (σ:St) (H:Hp) (s:Shared) (e:Value) (s':Shared),Inv X pins σ H s→CX X.stack H s E e s'→X.xe e s'
section
variable{X:Cx}{CX:q9}{k:Nat}{f C:Addr}{fd:FuncData}{ps:List Str}{sp:Sp}{zu:List V}{ds:List Value}{E:XK}{x m:Str}{p pos apos:Pos}{e o:Expr}{es:List Expr}{ta:TE}{t:TA}
theorem BI{pins:List (Addr×Obj)}{σ:St}{H:Hp}{s:Shared}{Q:VK}{us:List Value}{vs:List V}(F:FnOk X.prog X.w X.K X.mg X.base CX k f fd ps sp)(hr:Room k X.A)(hb:Binds X.K fd ps ds)(hd:Vals zu ds)(hx:Passes CX X E)
 (I:Inv X pins σ H s)(r:Vals vs us)(h:sp (vs++zu) H Q E):wpAny (model X.prog X.w) X.A (call (.ref f) us) (EP X pins σ Q) X.xe s:=by
 have r2:Vals (vs++zu) (us++ds):=r.append hd
 have hl:(us++ds).length=ps.length:=by rw[←r2.length];exact F.len _ _ _ _ h
 refine wpAny_call (codeAny_mono (F.run X.A X.stack s H ⟨us,[]⟩ (us++ds) (vs++zu) Q E hr I.env0 (hb s us I.kIn hl) r2 h) fun r s' hq=>?_)
 cases r with
 |error e=>exact hx pins σ H s e s' I hq
 |ok fl=>
  cases fl with
  |ret u=>exact I.after hq
  |next=>exact False.elim hq
  |brk=>exact False.elim hq
  |cont=>exact False.elim hq
theorem yL(F:FnOk X.prog X.w X.K X.mg X.base CX k f fd ps sp)(hr:Room k X.A)(hg:Gl X x)(hm:X.mg x=some (.ref f))(hk:PySem.W.keepIn X.K (.ref f)=true)(hb:Binds X.K fd ps ds)(hd:Vals zu ds)(hx:Passes CX X E)
 (ha:PA X (e::es) t)(pV:(x==("__debug__":Str))=false:=by decide)(he:starEach (e::es) X.env=(false,eval e X.env)::starEach es X.env:=by rfl)(oj:(backTo pos (starEach es X.env)).any (·.1)=false:=by rfl):
 PE X (.Call (.Name x p) (e::es) [] pos) (DQ sp zu E t):=by
 intro pins s σ H Q I h
 refine wpAny_Call_Name_kw (tw I hg hm ?_ pV)
 refine PySem.W.callWith_K (h₀:=X.base) I.ok.mod.kin hk (bB (ha pos pins s σ H _ I h) fun us s1 ⟨vs,H1,I1,r,q⟩=>⟨I1.kIn,?_⟩) he oj
 exact BI F hr hb hd hx I1 r q
structure Mk (K:W.Frag) (C f:Addr):Prop where
 makes:PySem.W.makesIn K C=true
 init:PySem.W.findIn K (.ref C) "__init__"=some (some (.ref f))
 fn:PySem.W.isFn K (.ref f)=true
 kp:PySem.W.keepIn K (.ref C)=true
end
section
variable{X:Cx}{CX:q9}{k:Nat}{f C:Addr}{fd:FuncData}{ps ks:List Str}{sp:Sp}{E:XK}{x m:Str}{p pos apos IH:Pos}{e o:Expr}{es:List Expr}{Ji:List Keyword}{te ta:TE}{t tk:TA}{nm:Option Str}
structure KBinds (K:W.Frag) (fd:FuncData) (ps ks:List Str) (g:List Value→List Value→List Value) (gV:List V→List V→List V):Prop where
 to:∀(s:Shared) (us ws:List Value),K.In s.heap→(g us ws).length=ps.length→BindsTo s fd ⟨us,ks.zip ws⟩ (ps.zip (g us ws))
 rel:∀{vs:List V}{us:List Value}{zs:List V}{ws:List Value},Vals vs us→Vals zs ws→Vals (gV vs zs) (g us ws)
variable{g:List Value→List Value→List Value}{gV:List V→List V→List V}
end
structure FnScope (N P:List Str) (sc:Scope):Prop where
 kind:sc.kind= .function
 co:sc.isCoroutine=false
 gen:sc.isGenerator=false
 nd:N.Nodup
 pre:N.take P.length=P
 par:∀x∈P,sc.names.lookup x=some .local∨sc.names.lookup x=some .cell
 nofree:∀y∈sc.names,y.2≠ .free
theorem mC{kindOf:Str→Option NameKind}{x:Str}:∀{binds:List (Str×Value)}{m:Str→Option Value},(∀v,(x,v)∉binds)→bindL kindOf binds m x=m x
 |[],_,_=>rfl
 |(n,v)::r,m,h=>by
  unfold bindL
  rw[mC fun w hw=>h w (List.mem_cons_of_mem _ hw)]
  split
  ·have:x≠n:=by rintro rfl;exact h v List.mem_cons_self
   simp[this]
  ·rfl
theorem mz{kindOf:Str→Option NameKind}{x:Str}:∀{binds:List (Str×Value)}{m:Str→Option Value},(∀v,(x,v)∉binds)→bindC kindOf binds m x=m x
 |[],_,_=>rfl
 |(n,v)::r,m,h=>by
  unfold bindC
  rw[mz fun w hw=>h w (List.mem_cons_of_mem _ hw)]
  split
  ·rfl
  ·have:x≠n:=by rintro rfl;exact h v List.mem_cons_self
   simp[this]
theorem mB{kindOf:Str→Option NameKind}{x:Str}{v:Value}:∀{P:List Str}{vs:List Value}{i:Nat}{m:Str→Option Value},P.Nodup→P[i]? =some x→vs[i]? =some v→kindOf x=some .local→
 bindL kindOf (P.zip vs) m x=some v
 |[],_,_,_,_,h,_,_=>by simp at h
 |_::_,[],_,_,_,_,h,_=>by simp at h
 |p::P,w::vs,0,m,nd,h1,h2,hk=>by
  simp at h1 h2;subst h1;subst h2
  show bindL kindOf ((p,w)::P.zip vs) m p=_
  unfold bindL
  rw[mC fun v hv=>(List.nodup_cons.mp nd).1 (List.of_mem_zip hv).1,if_pos hk]
  simp
 |p::P,w::vs,i+1,m,nd,h1,h2,hk=>by
  show bindL kindOf ((p,w)::P.zip vs) m x=_
  unfold bindL
  exact mB (i:=i) (List.nodup_cons.mp nd).2 (by simpa using h1) (by simpa using h2) hk
theorem my{kindOf:Str→Option NameKind}{x:Str}{v:Value}:∀{P:List Str}{vs:List Value}{i:Nat}{m:Str→Option Value},P.Nodup→P[i]? =some x→vs[i]? =some v→kindOf x≠some .local→
 bindC kindOf (P.zip vs) m x=some v
 |[],_,_,_,_,h,_,_=>by simp at h
 |_::_,[],_,_,_,_,h,_=>by simp at h
 |p::P,w::vs,0,m,nd,h1,h2,hk=>by
  simp at h1 h2;subst h1;subst h2
  show bindC kindOf ((p,w)::P.zip vs) m p=_
  unfold bindC
  rw[mz fun v hv=>(List.nodup_cons.mp nd).1 (List.of_mem_zip hv).1,if_neg hk]
  simp
 |p::P,w::vs,i+1,m,nd,h1,h2,hk=>by
  show bindC kindOf ((p,w)::P.zip vs) m x=_
  unfold bindC
  exact my (i:=i) (List.nodup_cons.mp nd).2 (by simpa using h1) (by simpa using h2) hk
def start(N:List Str)(vs:List V):St:=vs.map some++List.replicate (N.length - vs.length) none
def fo(CX:q9)(P:Program)(w:World)(K:W.Frag)(mg:Str→Option Value)(base:Heap)(N:List Str)(qual:Str)(scope:Scope)(f:Addr)(cd:Value)(A:Around)(outer:List Env)(s:Shared)(H:Hp)(E:XK):Cx where
 prog:=P
 w:=w
 K:=K
 mg:=mg
 base:=base
 A:=A.deeper (envOfC qual scope s.heap.objs.size f cd)
 N:=N
 s₀:=s
 H₀:=H
 env:=envOfC qual scope s.heap.objs.size f cd
 outer:=outer
 stack:=envOfC qual scope s.heap.objs.size f cd::outer
 ex:=[]
 calm:=true
 fn:=fun _=>true
 pn:=[]
 xe:=fun e s'=>wpAny (model P w) (A.deeper (envOfC qual scope s.heap.objs.size f cd)) (leaving (envOfC qual scope s.heap.objs.size f cd) e) (fun _ DK=>CX outer H s E e DK) (fun e' DK=>CX outer H s E e' DK) s'
theorem pA{sc:Scope}{n:Nat}{x:Str}(h:sc.names.lookup x=some .cell):∃c,(cellsFrom n sc.names []).lookup x=some c:=by
 have q:=PySem.W.cellsFrom_some sc.names n [] (.inl h)
 exact Option.isSome_iff_exists.mp q
theorem uw{CX:q9}{P:Program}{w:World}{K:W.Frag}{mg:Str→Option Value}{base:Heap}{N ps:List Str}{qual:Str}{scope:Scope}{f:Addr}{cd:Value}{A:Around}{outer:List Env}{s s1:Shared}{H:Hp}{E:XK}{us:List Value}{vs:List V}
 (S:FnScope N ps scope)(hd:A.handled=none)(e0:Env0 P w K mg base A outer s H)(hl:vs.length=ps.length)(r:Vals vs us)
 (x:InCallC s s.heap.objs.size (bindL (envOfC qual scope s.heap.objs.size f cd).kindOf (ps.zip us) fun _=>none) (cellsFrom (s.heap.objs.size+1) scope.names []) (bindC (envOfC qual scope s.heap.objs.size f cd).kindOf (ps.zip us) fun _=>none) s1):
 Inv (fo CX P w K mg base N qual scope f cd A outer s H E) [] (start N vs) H s1:=by
 have oj:ps.length≤N.length:=by have:=congrArg List.length S.pre;rw[List.length_take] at this;omega
 obtain⟨h1,tk,rfl,hk⟩:=x.done
 have De:∀b:Addr,b∉(fo CX P w K mg base N qual scope f cd A outer s H E).ex:=fun b z=>absurd (show b∈([]:List Addr) from z) (by simp)
 refine⟨⟨e0.mod,S.kind,rfl,rfl,Nat.le_refl _,fun y z c h1 h2=>?_,fun y hy=>?_,fun y c _ h=>?_,fun _=>hd,Around.frames_deeper e0.frames, .inr ⟨rfl,rfl⟩,fun b z=>absurd z (De b),e0.bs,e0.bsz,fun b _ _=>De b,fun b z=>absurd z (De b),e0.funs,e0.frf⟩,
  rfl,e0.bare,Un.kept hk,⟨_,x.toInCall.ns,fun i y v h1 h2 h3=>?_⟩,fun y c h=>⟨_,x.cell y c h⟩,e0.hok.fresh (Nat.le_refl _),fun y c h=>?_,fun p hp=>absurd (show p∈([]:List (Addr×Obj)) from hp) (by simp),e0.hok.kept hk,?_⟩
 ·exact name_of_addr x.apart (PySem.mem_of_lookup h1) (PySem.mem_of_lookup h2)
 ·have hy:scope.names.lookup y=some .cell∨scope.names.lookup y=some .free:=hy
  rcases hy with hy | hy
  ·exact pA hy
  ·exact absurd rfl (S.nofree _ (PySem.mem_of_lookup hy))
 ·exact Nat.le_of_lt (x.above y c (PySem.mem_of_lookup h))
 ·have hi:i<vs.length:=by
   unfold start at h2
   by_cases hi:i<vs.length
   ·exact hi
   ·rw[List.getElem?_append_right (by simpa using hi)] at h2
    rw[List.getElem?_replicate] at h2
    split at h2<;>cases h2
  have ha:vs[i]? =some v:=by
   unfold start at h2
   rw[List.getElem?_append_left (by simpa using hi),List.getElem?_map] at h2
   cases e:vs[i]? with
   |none=>rw[e] at h2;cases h2
   |some a=>rw[e] at h2;cases h2;rfl
  obtain⟨u,hu,rv⟩:=r.get ha
  have hp:ps[i]? =some y:=by
   rw[←S.pre,List.getElem?_take_of_lt (by omega)];exact h1
  have G3:ps.Nodup:=by rw[←S.pre];exact S.nd.sublist (List.take_sublist _ _)
  refine⟨u,rv,?_⟩
  rcases S.par y (List.mem_of_getElem? hp) with k | k
  ·exact .inl ⟨k,mB G3 hp hu k⟩
  ·obtain⟨c,e⟩:=pA (n:=s.heap.objs.size+1) k
   refine .inr ⟨.inl k,c,e,?_⟩
   have q:=x.cell y c e
   rw[my G3 hp hu (by show scope.names.lookup y≠_;rw[k];decide)] at q
   exact q
 ·exact e0.hok.fresh (Nat.le_of_lt (x.above y c (PySem.mem_of_lookup h)))
 ·unfold start
  show _=N.length
  rw[List.length_append,List.length_map,List.length_replicate]
  omega
theorem CB{CX:q9}{P:Program}{w:World}{K:W.Frag}{mg:Str→Option Value}{base:Heap}{k:Nat}{f:Addr}{name qual:Str}{params:Arguments}{body:List Stmt}{scope:Scope}{dV kV doc pm b8 ct oc:Value}{an od:Option Addr}
 {zV:Array (Option Value)}{N ps:List Str}{sp:Sp}(lk:K.lookup f=some ⟨oc,od, .func (PySem.W.fnOf name qual params body scope dV kV doc pm an b8 ct),zV⟩)(ve:PySem.W.codeIn K b8 qual=true)(S:FnScope N ps scope)
 (len:∀vs H Q E,sp vs H Q E→vs.length=ps.length)
 (pU:∀(A:Around) (outer:List Env) (s:Shared) (H:Hp) (vs:List V) (Q:VK) (E:XK),Room k (A.deeper (envOfC qual scope s.heap.objs.size f b8))→sp vs H Q E→
  ∃t,PSs (fo CX P w K mg base N qual scope f b8 A outer s H E) body t∧t {nx:=fun _ H'=>Q .non H',rt:=Q} (start N vs) H):
 FnOk P w K mg base CX (k+1) f (PySem.W.fnOf name qual params body scope dV kV doc pm an b8 ct) ps sp:=by
 refine⟨len,fun A outer s H args us vs Q E hr e0 hb r zJ=>?_⟩
 have hl:=len _ _ _ _ zJ
 have KX:K.In s.heap:=e0.mod.kin.keeps fun b o e=>(e0.bs b o e).1
 have lim:s.heap.NoLimit:=e0.mod.nolimit.keeps fun b o e=>(e0.bs b o e).1
 have CS:∀y∈ps.zip us,scope.names.lookup y.1=some .local∨(scope.names.lookup y.1=some .cell∧((cellsFrom (s.heap.objs.size+1) scope.names []).lookup y.1).isSome=true):=fun⟨n,v⟩ hy=>by
  rcases S.par n (List.of_mem_zip hy).1 with q | q
  ·exact .inl q
  ·exact .inr ⟨q,PySem.W.cellsFrom_some _ _ _ (.inl q)⟩
 refine codeAny_call_function hr.depth (KX _ _ lk) rfl S.co S.gen rfl (PySem.W.codeRec_of KX ve) (hb _ _ _ _ ?_)
 refine wpAny_newFunctionEnv_cells S.kind CS fun env he s1 x=>?_
 subst he
 refine⟨lim.keeps x.toInCall.keep,codeAny_func ?_⟩
 obtain⟨t,ht,hq⟩:=pU A outer s H vs Q E (hr.deeper _) zJ
 have I:Inv (fo CX P w K mg base N qual scope f b8 A outer s H E) [] (start N vs) H s1:=uw S hr.hd e0 hl r x
 refine wpAny_mono (ht [] s1 (start N vs) H _ I hq) (fun fl s' hs=>?_) fun e s' hs=>hs
 have fin:∀{σ':St}{H':Hp}{v:V}{u:Value},Inv (fo CX P w K mg base N qual scope f b8 A outer s H E) [] σ' H' s'→RelV v u→Q v H'→CE outer P w H s Q u s':=
  fun {σ' H' v u} J rv q=>⟨v,H',J.os,J.bare,J.base,J.hok,rv,q⟩
 cases fl with
 |ret u=>
  obtain⟨v,σ',H',J,rv,q⟩:=hs
  exact fin J rv q
 |next=>
  obtain⟨σ',H',J,q⟩:=hs
  exact fin (v:=V.non) (u:=Value.none) J rfl q
 |brk=>
  obtain⟨_,_,_,q⟩:=hs
  exact False.elim q
 |cont=>
  obtain⟨_,_,_,q⟩:=hs
  exact False.elim q
section
variable{X:Cx}{x:Str}{p pos:Pos}{e:Expr}{es:List Expr}{t:TA}{id T:String}{r:List V→Hp→VK→Prop}
def Hd(r:List V→Hp→VK→Prop)(t:TA):TE:=fun σ H Q=>t σ H fun vs H1=>r vs H1 Q
theorem wI(hc:CallR X (.builtin id) r)(hg:Gl X x)(hm:X.mg x=none)(hv:bootBuiltins x=some (.builtin id))(ha:PA X (e::es) t)(hn:x≠"__name__":=by decide)(pV:(x==("__debug__":Str))=false:=by decide)
 (he:starEach (e::es) X.env=(false,eval e X.env)::starEach es X.env:=by rfl)(oj:(backTo pos (starEach es X.env)).any (·.1)=false:=by rfl):PE X (.Call (.Name x p) (e::es) [] pos) (Hd r t):=by
 intro pins s σ H Q I h
 refine wpAny_Call_Name_kw (jc I hg hm hv ?_ hn pV)
 exact PyProof.Rows.callWith_builtin1 (bB (ha pos pins s σ H _ I h) fun us s1 ⟨vs,H1,I1,r1,q1⟩=>hc pins s1 σ H1 vs us Q I1 r1 q1) he oj
end
end L2
namespace HT
open PySem PyProof.Rows
section
open PySem.SeqAt
open PySem.AutoSeq1 (wpAny_loadPart')
open PySem.MeetsSeq PySem.MeetsSeq2 PySem.MeetsSeq3
end
section
variable{prog:Program}{w:World}{A:Around}{E:Value→Shared→Prop}{s:Shared}
theorem cat_tup{t b:Addr}{vs ws:List Value}{Q:Value→Shared→Prop}(ht:IsTup s.heap t vs.toArray)(hb:IsTup s.heap b ws.toArray)(hv:vs≠[])
 (h1:ws=[]→Q (.ref t) s)(h2:ws≠[]→Q (.ref s.heap.objs.size) {s with heap:=s.heap.push {cls:= .type "tuple",data:= .seq (vs++ws).toArray} })
 (hsz:vs.length+ws.length≤sizeLine):wpAny (model prog w) A (binaryOp .Add (.ref t) (.ref b)) Q E s:=by
 obtain⟨⟨cls,dd,data,sl⟩,ho,hc,n,hd⟩:=id ht
 obtain⟨⟨EE,D3,data2,En⟩,AE,Ar,n2,hd2⟩:=id hb
 simp only at hc hd Ar hd2
 subst hc hd Ar hd2
 have e:vs.toArray++ws.toArray=(vs++ws).toArray:=by simp
 by_cases hw:ws=[]
 ·exact concat_meets ⟨_,ho,rfl⟩ ⟨_,AE,rfl⟩ noFill_tuple_add seq_tuple_add PySem.F.slot_tuple_add PySem.F.entry_tuple_add (PySem.F.args_tuple_add_2 _ _)
   (tuple_addW1 t b vs.toArray ws.toArray n n2 dd D3 sl En (by simpa using hv) (by simp[hw])) ⟨ho,AE,h1 hw⟩
 ·refine concat_meets ⟨_,ho,rfl⟩ ⟨_,AE,rfl⟩ noFill_tuple_add seq_tuple_add PySem.F.slot_tuple_add PySem.F.entry_tuple_add (PySem.F.args_tuple_add_2 _ _)
   (tuple_addW2 t b vs.toArray ws.toArray n n2 dd D3 sl En (by simpa using hv) (by simpa using hw) (by rw[List.size_toArray,List.size_toArray];exact hsz)) ⟨ho,AE,?_⟩
  rw[e]
  exact h2 hw
def sIx(n d:Nat):Option Int→Nat
 |none=>d
 |some v=>if v<0 then(v+(n:Int)).toNat else min v.toNat n
theorem sIx_le(n d:Nat)(hd:d≤n)(o:Option Int):sIx n d o≤n:=by
 cases o with
 |none=>exact hd
 |some v=>
  show (if v<0 then(v+(n:Int)).toNat else min v.toNat n)≤n
  by_cases hv:v<0
  ·rw[if_pos hv];omega
  ·rw[if_neg hv];exact Nat.min_le_right _ _
theorem clip_eq(v:Int)(n d:Nat):(if v<0 then max (v+(n:Int)) 0 else min v (n:Int))=((sIx n d (some v):Nat):Int):=by
 show (if v<0 then max (v+(n:Int)) 0 else min v (n:Int))=(((if v<0 then(v+(n:Int)).toNat else min v.toNat n):Nat):Int)
 by_cases hv:v<0
 ·simp only[if_pos hv];omega
 ·simp only[if_neg hv];omega
theorem adjust_gen(lo hi:Option Int)(n:Nat):Builtin.Slice.sliceAdjust lo hi 1 (n:Int)=(((sIx n 0 lo:Nat):Int),((sIx n n hi:Nat):Int)):=by
 have h1:¬((1:Int)<0):=by omega
 unfold Builtin.Slice.sliceAdjust
 simp only[h1,if_false]
 refine Prod.ext ?_ ?_
 ·cases lo with
  |none=>rfl
  |some v=>exact clip_eq v n 0
 ·cases hi with
  |none=>rfl
  |some v=>exact clip_eq v n n
theorem places_gen(i j:Nat):Builtin.Slice.slicePlaces (i:Int) (j:Int) 1=j - i:=by
 unfold Builtin.Slice.slicePlaces
 have h1:(1:Int)>0:=by omega
 simp only[h1,if_true,Int.ediv_one]
 split<;>omega
theorem slicePart_{v:Value}{o:Option Int}{Q:Option Int→Shared→Prop}(p:IsPart v o)(h:Q o s):wpAny (model prog w) A (Builtin.Slice.slicePartIndex v) Q E s:=by
 cases p with
 |none=>exact slicePart_none h
 |int i t=>exact slicePart_int h
theorem sliceApplied_gen{sl:Addr}{vl vu:Value}{lo hi:Option Int}{n:Nat}{Q:Int×Int×Nat→Shared→Prop}(hs:s.heap.IsSliceOf sl vl vu .none)(pl:IsPart vl lo)(pu:IsPart vu hi)
 (h:Q (((sIx n 0 lo:Nat):Int),1,sIx n n hi - sIx n 0 lo) s):wpAny (model prog w) A (Builtin.Slice.sliceApplied (.ref sl) (pure (n:Int))) Q E s:=by
 obtain⟨os,vZ,D_,zE⟩:=id hs
 unfold Builtin.Slice.sliceApplied Builtin.Slice.sliceFields
 refine wpAny_bind (wpAny_bind (wpAny_field vZ zE (x:=vl) rfl (wpAny_bind (wpAny_field vZ zE (x:=vu) rfl (wpAny_bind (wpAny_field vZ zE (x:= .none) rfl (wpAny_pure ?_)))))))
 refine wpAny_bind (slicePart_none ?_)
 show wpAny _ _ (if ((1:Int)==0)=true then _ else _) _ _ s
 rw[if_neg (by decide)]
 refine wpAny_bind (slicePart_ pl (wpAny_bind (slicePart_ pu (wpAny_bind (wpAny_pure ?_)))))
 show wpAny _ _ (match Builtin.Slice.sliceAdjust lo hi 1 (n:Int) with | (lo,hi)=>pure (lo,(1:Int),Builtin.Slice.slicePlaces lo hi 1)) _ _ s
 rw[adjust_gen lo hi n]
 show wpAny _ _ (pure (((sIx n 0 lo:Nat):Int),(1:Int),Builtin.Slice.slicePlaces ((sIx n 0 lo:Nat):Int) ((sIx n n hi:Nat):Int) 1)) _ _ s
 rw[places_gen]
 exact wpAny_pure h
theorem pick_gen(xs:Array Value)(i k:Nat):((List.range k).filterMap fun(m:Nat)=>xs[((i:Int)+(m:Int)*1).toNat]?).toArray=((xs.toList.drop i).take k).toArray:=by
 have e:(fun (m:Nat)=>xs[((i:Int)+(m:Int)*1).toNat]?)=fun m=>xs[i+m]? :=by
  funext m
  have:((i:Int)+(m:Int)*1).toNat=i+m:=by omega
  rw[this]
 rw[e]
 have:=pick_run xs i k
 rw[List.filterMap_map] at this
 have e2:((fun x=>xs[x]?)∘fun x=>i+x)=fun m=>xs[i+m]? :=rfl
 rw[e2] at this
 rw[this]
theorem getItem_tuple_cut{t sl:Addr}{items:Array Value}{vl vu:Value}{lo hi:Option Int}{Q:Value→Shared→Prop}(ht:IsTup s.heap t items)(hs:s.heap.IsSliceOf sl vl vu .none)(pl:IsPart vl lo)(pu:IsPart vu hi)
 (hw:¬(sIx items.size 0 lo=0∧sIx items.size items.size hi=items.size))
 (h:Q (.ref s.heap.objs.size) {s with heap:=s.heap.push {cls:= .type "tuple",data:= .seq ((items.toList.drop (sIx items.size 0 lo)).take (sIx items.size items.size hi - sIx items.size 0 lo)).toArray} })
 (hsz:items.size≤sizeLine):wpAny (model prog w) A (getItem (.ref t) (.ref sl)) Q E s:=by
 have s_:sizeOk (.seq ((items.toList.drop (sIx items.size 0 lo)).take (sIx items.size items.size hi - sIx items.size 0 lo)).toArray):=by
  show ((items.toList.drop (sIx items.size 0 lo)).take (sIx items.size items.size hi - sIx items.size 0 lo)).toArray.size≤sizeLine
  rw[List.size_toArray,List.length_take,List.length_drop,Array.length_toList]
  omega
 have hj:sIx items.size items.size hi≤items.size:=sIx_le _ _ (Nat.le_refl _) hi
 obtain⟨os,vZ,D_,zE⟩:=id hs
 have EM:s.TypeIs (.ref sl) "slice":=⟨os,vZ,D_⟩
 unfold getItem
 try with_reducible refine wpAny_holding ?_
 first | refine wpAny_bind (wpAny_pure ?_) | skip
 refine wpAny_bind (wpAny_sequenceKey ht.typeIs (by decide) ?_)
 refine wpAny_bind (wpAny_callSpecial?_slot (name:=Str.ofString "__getitem__") ht.typeIs PyProof.Rows.slot_tuple_getitem
  (wpAny_call_entry PyProof.Rows.slot_tuple_getitem ht.typeIs entry_tuple_getitem ?_ (args_tuple_getitem _ _)))
 show wpAny _ _ (Builtin.Tuple.tupleItemsOf (.ref t)>>=_) _ _ s
 refine wpAny_bind (tupleItemsOf_ ht ?_)
 refine wpAny_bind (wpAny_typeOf EM ?_)
 rw[if_pos (by decide)]
 refine wpAny_bind (sliceApplied_gen hs pl pu ?_)
 have uv:¬((((sIx items.size 0 lo:Nat):Int)==0&&(1:Int)==1&&(sIx items.size items.size hi - sIx items.size 0 lo)==items.size)=true):=by
  intro q
  rw[Bool.and_eq_true,Bool.and_eq_true] at q
  have q1:((sIx items.size 0 lo:Nat):Int)=0:=eq_of_beq q.1.1
  have q2:sIx items.size items.size hi - sIx items.size 0 lo=items.size:=eq_of_beq q.2
  exact hw ⟨by omega,by omega⟩
 show wpAny _ _ (if (((sIx items.size 0 lo:Nat):Int)==0&&(1:Int)==1&&(sIx items.size items.size hi - sIx items.size 0 lo)==items.size)=true then _ else _) _ _ s
 rw[if_neg uv,pick_gen]
 first
  |exact wpAny_bind (m:=Builtin.Tuple.tupleExact _) (wpAny_newObj_type (wpAny_pure ⟨_,rfl,wpAny_pure h⟩) s_)
  |exact wpAny_bind (m:=Builtin.Tuple.tupleExact _) (wpAny_newObj_type (wpAny_bind (wpAny_pure (wpAny_pure ⟨_,rfl,wpAny_pure h⟩))) s_)
  |exact wpAny_bind (wpAny_bind (m:=Builtin.Tuple.tupleExact _) (wpAny_newObj_type (wpAny_pure (wpAny_pure ⟨_,rfl,wpAny_pure h⟩)) s_))
  |exact wpAny_bind (wpAny_bind (m:=Builtin.Tuple.tupleExact _) (wpAny_newObj_type (wpAny_pure ⟨_,rfl,wpAny_pure h⟩) s_))
end
end HT
namespace L2
open PySem PySem.Spec PyProof.Rows
abbrev TO:=St→Hp→(Option Int→Hp→Prop)→Prop
def PO(X:Cx)(e:Option Expr)(t:TO):Prop:=
 ∀(pins:List (Addr×Obj)) (s:Shared) (σ:St) (H:Hp) (Q:Option Int→Hp→Prop),Inv X pins σ H s→t σ H Q→
  wpAny (model X.prog X.w) X.A (evalPart e X.env) (fun u s'=>∃o H',Inv X pins σ H' s'∧IsPart u o∧Q o H') X.xe s
def zh:TO:=fun _ H Q=>Q none H
def DY(t:TE):TO:=fun σ H Q=>t σ H fun x H1=>∃i,x= .int i∧Q (some i) H1
theorem intsAre_of{ns:List Int}:∀{us:List Value},Vals (ns.map V.int) us→IntsAre us ns:=by
 induction ns with
 |nil=>intro us r;rw[List.map_nil] at r;cases r;exact .nil
 |cons n ns ih=>
  intro us r
  rw[List.map_cons] at r
  cases r with
  |cons r1 r2=>
   obtain⟨t,e⟩:=r1
   subst e
   exact .cons n t (ih r2)
section
variable{X:Cx}{e:Expr}{te:TE}{lo hi:Option Expr}{tl th:TO}{pos p2:Pos}
theorem yQ:PO X none zh:=by
 intro pins s σ H Q I h
 rw[evalPart_none]
 exact wpAny_pure ⟨none,H,I, .none,h⟩
theorem yR(h:PE X e te):PO X (some e) (DY te):=by
 intro pins s σ H Q I hw
 rw[evalPart_some]
 refine bB (h pins s σ H _ I hw) fun u s1 ⟨x,H1,I1,r1,q1⟩=>?_
 obtain⟨i,rfl,q⟩:=q1
 obtain⟨t,rfl⟩:=r1
 exact⟨some i,H1,I1, .int i t,q⟩
def SlR(X:Cx)(r:V→Option Int→Option Int→Hp→VK→Prop):Prop:=
 ∀(pins:List (Addr×Obj)) (s:Shared) (σ:St) (H:Hp) (x:V) (v vl vu:Value) (lo hi:Option Int) (sl:Addr) (Q:VK),Inv X pins σ H s→RelV x v→s.heap.IsSliceOf sl vl vu .none→IsPart vl lo→IsPart vu hi→r x lo hi H Q→
  ∃T id,typeLookup (.type T) "__getitem__"=pure (some (.builtin id))∧s.TypeIs v T∧wpAny (model X.prog X.w) X.A (getItem v (.ref sl)) (EP X pins σ Q) X.xe s
theorem SlR.or{r r':V→Option Int→Option Int→Hp→VK→Prop}(h:SlR X r)(h':SlR X r'):SlR X (fun x lo hi H Q=>r x lo hi H Q∨r' x lo hi H Q):=by
 intro pins s σ H x v vl vu lo hi sl Q I rx hs pl pu q
 rcases q with q | q
 ·exact h pins s σ H x v vl vu lo hi sl Q I rx hs pl pu q
 ·exact h' pins s σ H x v vl vu lo hi sl Q I rx hs pl pu q
def IT(r:V→Option Int→Option Int→Hp→VK→Prop)(te:TE)(tl th:TO):TE:=fun σ H Q=>te σ H fun x H1=>tl σ H1 fun l H2=>th σ H2 fun u H3=>r x l u H3 Q
theorem wL{r:V→Option Int→Option Int→Hp→VK→Prop}(hr:SlR X r)(he:PE X e te)(hl:PO X lo tl)(hu:PO X hi th):PE X (.Subscript e (.Slice lo hi none p2) pos) (IT r te tl th):=by
 intro pins s σ H Q I h
 refine Subscript_ (bB (he pins s σ H _ I h) fun v s1 ⟨x,H1,I1,r1,q1⟩=>?_)
 refine wpAny_Slice (bB (hl pins s1 σ H1 _ I1 q1) fun vl s2 ⟨l,H2,I2,pl,q2⟩=>bB (hu pins s2 σ H2 _ I2 q2) fun vu s3 ⟨u,H3,I3,pu,q3⟩=>?_)
 rw[evalPart_none]
 refine wpAny_pure ?_
 have I4:Inv X pins σ H3 {s3 with heap:=s3.heap.push {cls:= .type "slice",data:= .fields #[vl,vu, .none]} }:=I3.kept (t':=s3.toks) fun b ob q=>Heap.get?_push_of_some _ q
 obtain⟨T,id,hT,ht,hg⟩:=hr pins {s3 with heap:=s3.heap.push {cls:= .type "slice",data:= .fields #[vl,vu, .none]} } σ H3 x v vl vu l u s3.heap.objs.size Q I4 r1 (Heap.IsSliceOf.new ..) pl pu q3
 show wpAny (model X.prog X.w) X.A (subscriptTail e (.Slice lo hi none p2) v (.ref s3.heap.objs.size)) (EP X pins σ Q) X.xe {s3 with heap:=s3.heap.push {cls:= .type "slice",data:= .fields #[vl,vu, .none]} }
 exact tail_any (ops:=[.ref s3.heap.objs.size,v]) ht hT hg (by with_unfolding_all rfl)
def pD(xs:List V)(lo hi:Option Int):List V:=(xs.drop (HT.sIx xs.length 0 lo)).take (HT.sIx xs.length xs.length hi - HT.sIx xs.length 0 lo)
theorem jy(xs:List V)(lo hi:Option Int):(pD xs lo hi).length≤xs.length:=by
 unfold pD
 rw[List.length_take,List.length_drop]
 omega
def FP(K:W.Frag):V→Option Int→Option Int→Hp→VK→Prop:=fun x lo hi H Q=>∃a xs,x= .ref a∧SqT K H a xs∧
 ¬(HT.sIx xs.length 0 lo=0∧HT.sIx xs.length xs.length hi=xs.length)∧∀p,H p=none→Q (.ref p) (upd H p (.tup (pD xs lo hi)))
theorem BQ:SlR X (FP X.K):=by
 intro pins s σ H x v vl vu lo hi sl Q I rx hs pl pu h
 obtain⟨a,xs,rfl,hx,hw,q⟩:=h
 cases rx
 obtain⟨aG,r,ht,hz⟩:=I.tuple hx
 have hlen:aG.toArray.size=xs.length:=by rw[List.size_toArray];exact r.length.symm
 refine⟨"tuple",_,PyProof.Rows.slot_tuple_getitem.lookup,ht.typeIs,?_⟩
 refine HT.getItem_tuple_cut ht hs pl pu (by rw[hlen];exact hw) ?_ (by rw[hlen];exact hz)
 rw[hlen]
 refine⟨.ref s.heap.objs.size,_,I.laid (t':=s.toks) (o:= .tup (pD xs lo hi)) (fun b ob q=>Heap.get?_push_of_some _ q) (Nat.le_refl _) ?_,rfl,q _ (I.hok.fresh (Nat.le_refl _))⟩
 exact⟨Nat.le_trans (jy xs lo hi) hz,_,(r.drop (HT.sIx xs.length 0 lo)).take (HT.sIx xs.length xs.length hi - HT.sIx xs.length 0 lo),IsTup.new _ _⟩
def Dz(K:W.Frag):R2:=fun x y H Q=>∃a b xs ys,x= .ref a∧y= .ref b∧SqT K H a xs∧SqT K H b ys∧xs≠[]∧xs.length+ys.length≤sizeLine∧
 (ys=[]→Q (.ref a) H)∧(ys≠[]→∀p,H p=none→Q (.ref p) (upd H p (.tup (xs++ys))))
theorem Vals.nil_iff{xs:List V}{us:List Value}(r:Vals xs us):us=[]↔xs=[]:=by
 cases r with
 |nil=>simp
 |cons _ _=>simp
theorem yp:OpR X (binaryOp .Add) (Dz X.K):=by
 intro pins s σ H x y v u Q I rx ry h
 obtain⟨a,b,xs,ys,rfl,rfl,ha,hb,hx,hz,q1,q2⟩:=h
 cases rx
 cases ry
 obtain⟨aG,r1,p1,_⟩:=I.tuple ha
 obtain⟨dE,r2,p2,_⟩:=I.tuple hb
 refine HT.cat_tup p1 p2 (fun z=>hx (r1.nil_iff.mp z)) (fun z=>⟨.ref a,H,I,rfl,q1 (r2.nil_iff.mp z)⟩) (fun z=>?_) (by rw[←r1.length,←r2.length];exact hz)
 refine⟨.ref s.heap.objs.size,_,I.laid (t':=s.toks) (o:= .tup (xs++ys)) (fun b ob q=>Heap.get?_push_of_some _ q) (Nat.le_refl _) ?_,rfl,q2 (fun w=>z (r2.nil_iff.mpr w)) _ (I.hok.fresh (Nat.le_refl _))⟩
 exact⟨by rw[List.length_append];exact hz,_,r1.append r2,IsTup.new _ _⟩
end
def xF(n:Nat)(i:Int):Option Nat:=if 0≤i then(if i<n then some i.toNat else none) else if -(n:Int)≤i then some (i+n).toNat else none
def atI{α:Type}(xs:List α)(i:Int):Option α:=(xF xs.length i).bind fun j=>xs[j]?
theorem yg{n:Nat}{i:Int}{j:Nat}(h:xF n i=some j):seqIndex? i n=some j∧j<n∧ -(n:Int)≤i∧i<n:=by
 unfold xF at h
 by_cases h0:0≤i
 ·rw[if_pos h0] at h
  by_cases h1:i<n
  ·rw[if_pos h1] at h
   have e:i.toNat=j:=Option.some.inj h
   exact⟨by rw[seqIndex_of h0 h1,e],by omega,by omega,h1⟩
  ·rw[if_neg h1] at h;cases h
 ·rw[if_neg h0] at h
  by_cases h1: -(n:Int)≤i
  ·rw[if_pos h1] at h
   have e:(i+n).toNat=j:=Option.some.inj h
   exact⟨by rw[seqIndex_neg (by omega) h1,e],by omega,h1,by omega⟩
  ·rw[if_neg h1] at h;cases h
theorem n0{α:Type}{xs:List α}{i:Int}{v:α}(h:atI xs i=some v):∃j,seqIndex? i xs.length=some j∧xs[j]? =some v∧j<xs.length∧ -(xs.length:Int)≤i∧i<xs.length:=by
 unfold atI at h
 cases e:xF xs.length i with
 |none=>rw[e] at h;cases h
 |some j=>
  rw[e] at h
  obtain⟨h1,h2,h3,h4⟩:=yg e
  exact⟨j,h1,h,h2,h3,h4⟩
theorem pj{α:Type}(xs:List α)(v:α):atI (xs++[v]) (-1)=some v:=by
 have hl:(xs++[v]).length=xs.length+1:=by simp
 have e:xF (xs++[v]).length (-1)=some xs.length:=by
  unfold xF
  rw[hl,if_neg (by decide),if_pos (by omega)]
  congr 1
  omega
 unfold atI
 rw[e]
 show (xs++[v])[xs.length]? =some v
 simp
def fZ(b:Expr):Prop:=∀o i,subscripted b false o i=operate [o,i] (getItem o i)
def Cg(X:Cx)(r:R2):Prop:=
 ∀(value slice:Expr) (pins:List (Addr×Obj)) (s:Shared) (σ:St) (H:Hp) (x y:V) (v u:Value) (Q:VK),Inv X pins σ H s→RelV x v→RelV y u→r x y H Q→
  subscripted slice false v u=operate [v,u] (getItem v u)→wpAny (model X.prog X.w) X.A (subscriptTail value slice v u) (EP X pins σ Q) X.xe s
def Ew(X:Cx)(id:String)(r:V→List V→Hp→VK→Prop):Prop:=
 ∀(pins:List (Addr×Obj)) (s:Shared) (σ:St) (H:Hp) (x:V) (xs:List V) (v:Value) (us:List Value) (Q:VK),Inv X pins σ H s→RelV x v→Vals xs us→r x xs H Q→
  wpAny (model X.prog X.w) X.A (call (.builtin id) (v::us)) (EP X pins σ Q) X.xe s
section
variable{X:Cx}{a b:Expr}{ta tb:TE}{pos:Pos}
theorem Dt{r:R2}(hr:Cg X r)(ha:PE X a ta)(hb:PE X b tb)(hs:fZ b):PE X (.Subscript a b pos) (DX r ta tb):=by
 intro pins s σ H Q I h
 exact Subscript_ (Ac ha hb I h fun v u s2 x y H2 I2 rx ry q=>hr a b pins s2 σ H2 x y v u Q I2 rx ry q (hs _ _))
def BG(K:W.Frag):R2:=fun x y H Q=>∃p xs i v,x= .ref p∧y= .int i∧SqL K H p xs∧atI xs i=some v∧Q v H
def DH(K:W.Frag):R2:=fun x y H Q=>∃p xs i v,x= .ref p∧y= .int i∧SqT K H p xs∧atI xs i=some v∧Q v H
def DG:R2:=fun x y H Q=>∃z i c,x= .str z∧y= .int i∧z.length≤sizeLine∧atI z.cps.toList i=some c∧Q (.str ⟨#[c]⟩) H
theorem tj:Cg X (BG X.K):=by
 intro value slice pins s σ H x y v u Q I rx ry h hs
 obtain⟨p,xs,i,z,rfl,rfl,hq,he,q⟩:=h
 cases rx
 obtain⟨t,rfl⟩:=ry
 obtain⟨aG,r,pl,hz⟩:=I.list hq
 obtain⟨j,h1,h2,h3,h4,h5⟩:=n0 he
 obtain⟨w,ew,vf⟩:=r.get h2
 have hl:=r.length
 have hn:=jd
 have fin:EP X pins σ Q w s:=⟨z,H,I,vf,q⟩
 by_cases h0:0≤i
 ·have hj:i.toNat=j:=by
   rw[seqIndex_of h0 h5] at h1
   exact Option.some.inj h1
  exact item_listR pl.isList h0 (by omega) (by rw[hj];simpa using ew) fin hs
 ·have hj:(i+(aG.toArray.size:Int)).toNat=j:=by
   rw[seqIndex_neg (by omega) h4] at h1
   rw[List.size_toArray,←hl]
   exact Option.some.inj h1
  exact subscriptTail_builtinR (x:=w) pl.isList.typeIs slot_list_getitem.lookup
   (wpAny_getItem_list_neg (Q:=fun r s'=>r=w∧EP X pins σ Q r s') pl.isList (by omega) (by rw[List.size_toArray]<;>omega) (by omega) (by rw[hj];simpa using ew) ⟨rfl,fin⟩) hs
theorem AV:Cg X (DH X.K):=by
 intro value slice pins s σ H x y v u Q I rx ry h hs
 obtain⟨p,xs,i,z,rfl,rfl,hq,he,q⟩:=h
 cases rx
 obtain⟨t,rfl⟩:=ry
 obtain⟨aG,r,pl,hz⟩:=I.tuple hq
 obtain⟨j,h1,h2,h3,h4,h5⟩:=n0 he
 obtain⟨w,ew,vf⟩:=r.get h2
 have hl:=r.length
 have hn:=jd
 have fin:EP X pins σ Q w s:=⟨z,H,I,vf,q⟩
 exact subscriptTail_builtinR (x:=w) pl.typeIs slot_tuple_getitem.lookup
  (getItem_tuple (j:=j) (Q:=fun r s'=>r=w∧EP X pins σ Q r s') pl (by omega) (by omega) (by rw[List.size_toArray,←hl];exact h1) (by simpa using ew) ⟨rfl,fin⟩) hs
theorem AU:Cg X DG:=by
 intro value slice pins s σ H x y v u Q I rx ry h hs
 obtain⟨z,i,c,rfl,rfl,hz,he,q⟩:=h
 obtain⟨t,rfl⟩:=rx
 obtain⟨t',rfl⟩:=ry
 obtain⟨j,h1,h2,h3,h4,h5⟩:=n0 he
 have hl:z.cps.toList.length=z.length:=by simp[Str.length]
 rw[hl] at h1 h4 h5
 have hn:=jd
 exact tail_any (typeIs_str s z t) slot_str_getitem.lookup (getItem_str (c:=c) (by
  have e1:decide (i< -(2 ^ 63:Int))=false:=decide_eq_false (by omega)
  have e2:decide (i≥2 ^ 63)=false:=decide_eq_false (by omega)
  rw[e1,e2,Bool.or_false]) (by rw[h1];simpa using h2) ⟨.str ⟨#[c]⟩,H,I.tok _,⟨_,rfl⟩,q⟩) hs
theorem oY(lo hi:Option Int)(n:Nat):(sliceBounds lo hi none n).1=((HT.sIx n 0 lo:Nat):Int)∧(sliceBounds lo hi none n).2.1=((HT.sIx n n hi:Nat):Int)∧(sliceBounds lo hi none n).2.2=1:=by
 refine⟨?_,?_,rfl⟩
 ·cases lo with
  |none=>simp[sliceBounds,HT.sIx]
  |some i=>
   simp only[sliceBounds,HT.sIx,Option.getD_none,show (1:Int)>0 by decide,if_true]
   by_cases h:i<0
   ·simp only[h,if_true]<;>omega
   ·simp only[h,if_false]<;>omega
 ·cases hi with
  |none=>simp[sliceBounds,HT.sIx]
  |some i=>
   simp only[sliceBounds,HT.sIx,Option.getD_none,show (1:Int)>0 by decide,if_true]
   by_cases h:i<0
   ·simp only[h,if_true]<;>omega
   ·simp only[h,if_false]<;>omega
theorem ml(aG:List Value)(lo hi:Option Int):slicePick aG.toArray lo hi none=((aG.drop (HT.sIx aG.length 0 lo)).take (HT.sIx aG.length aG.length hi - HT.sIx aG.length 0 lo)).toArray:=by
 obtain⟨h1,h2,h3⟩:=oY lo hi aG.toArray.size
 unfold slicePick
 rw[h1,h2,h3]
 simp only[sliceRange_one,pick_run,List.size_toArray]<;>rfl
def FO(K:W.Frag):V→Option Int→Option Int→Hp→VK→Prop:=fun x lo hi H Q=>∃a xs,x= .ref a∧SqL K H a xs∧∀p,H p=none→Q (.ref p) (upd H p (.lst (pD xs lo hi)))
theorem zc:SlR X (FO X.K):=by
 intro pins s σ H x v vl vu lo hi sl Q I rx hs pl pu h
 obtain⟨a,xs,rfl,hx,q⟩:=h
 cases rx
 obtain⟨aG,r,ht,hz⟩:=I.list hx
 have hlen:=r.length
 refine⟨"list",_,slot_list_getitem.lookup,ht.isList.typeIs,?_⟩
 refine wpAny_getItem_list_slice ht.isList hs pl pu .none (by simp) ?_ (by rw[List.size_toArray]<;>omega)
 rw[ml,←hlen]
 refine⟨.ref s.heap.objs.size,_,I.laid (t':=s.toks) (o:= .lst (pD xs lo hi)) (fun b ob q=>Heap.get?_push_of_some _ q) (Nat.le_refl _) ?_,rfl,q _ (I.hok.fresh (Nat.le_refl _))⟩
 exact⟨Nat.le_trans (jy xs lo hi) hz,_,0,(r.drop (HT.sIx xs.length 0 lo)).take (HT.sIx xs.length xs.length hi - HT.sIx xs.length 0 lo),Heap.get?_push_size _ rfl⟩
def jz:V→Bool
 | .non=>true
 | .bl _=>true
 | .int _=>true
 | .str _=>true
 |_=>false
def xA:V→V→Bool
 | .non, .non=>true
 | .bl a, .bl b=>a==b
 | .bl a, .int b=>(if a then 1 else 0)==b
 | .int a, .bl b=>a==(if b then 1 else 0)
 | .int a, .int b=>a==b
 | .str a, .str b=>a==b
 |_,_=>false
theorem Ak{A:Around}{s:Shared}{y x:V}{u v:Value}(ry:RelV y u)(rx:RelV x v)(fy:jz y=true)(fx:jz x=true):SeqAt.EqAt A s u v (xA y x):=by
 cases y with
 |non=>
  cases ry
  cases x with
  |non=>cases rx;exact SeqAt.EqAt.same _
  |bl b=>cases rx;exact SeqAt.EqAt.none_bool b
  |int b=>obtain⟨t,rfl⟩:=rx;exact SeqAt.EqAt.none_int b t
  |str b=>obtain⟨t,rfl⟩:=rx;exact SeqAt.EqAt.none_str b t
  |_=>exact absurd (show false=true from fx) Bool.false_ne_true
 |bl a=>
  cases ry
  cases x with
  |non=>cases rx;exact SeqAt.EqAt.bool_none a
  |bl b=>cases rx;exact SeqAt.EqAt.bool_bool a b
  |int b=>obtain⟨t,rfl⟩:=rx;exact SeqAt.EqAt.bool_int a b t
  |str b=>obtain⟨t,rfl⟩:=rx;exact SeqAt.EqAt.bool_str a b t
  |_=>exact absurd (show false=true from fx) Bool.false_ne_true
 |int a=>
  obtain⟨t',rfl⟩:=ry
  cases x with
  |non=>cases rx;exact SeqAt.EqAt.int_none a t'
  |bl b=>cases rx;exact SeqAt.EqAt.int_bool a t' b
  |int b=>obtain⟨t,rfl⟩:=rx;exact SeqAt.EqAt.int_int a t' b t
  |str b=>obtain⟨t,rfl⟩:=rx;exact SeqAt.EqAt.int_str a t' b t
  |_=>exact absurd (show false=true from fx) Bool.false_ne_true
 |str a=>
  obtain⟨t',rfl⟩:=ry
  cases x with
  |non=>cases rx;exact SeqAt.EqAt.str_none a t'
  |bl b=>cases rx;exact SeqAt.EqAt.str_bool a t' b
  |int b=>obtain⟨t,rfl⟩:=rx;exact SeqAt.EqAt.str_int a t' b t
  |str b=>obtain⟨t,rfl⟩:=rx;exact SeqAt.EqAt.str_str a t' b t
  |_=>exact absurd (show false=true from fx) Bool.false_ne_true
 |_=>exact absurd (show false=true from fy) Bool.false_ne_true
def xP(x:V)(u:Value):Bool:=match u with
 | .none=>xA .non x
 | .bool b=>xA (.bl b) x
 | .int i _=>xA (.int i) x
 | .str z _=>xA (.str z) x
 |_=>false
theorem vJ{x y:V}{u:Value}(r:RelV y u)(f:jz y=true):xP x u=xA y x:=by
 cases y with
 |non=>cases r;rfl
 |bl b=>cases r;rfl
 |int i=>obtain⟨t,rfl⟩:=r;rfl
 |str z=>obtain⟨t,rfl⟩:=r;rfl
 |_=>exact absurd (show false=true from f) Bool.false_ne_true
theorem nY{x:V}:∀{xs:List V}{us:List Value},Vals xs us→xs.all jz=true→us.any (xP x)=xs.any fun y=>xA y x
 |_,_, .nil,_=>rfl
 |y::xs,u::us, .cons r t,f=>by
  rw[List.all_cons,Bool.and_eq_true] at f
  rw[List.any_cons,List.any_cons,vJ r f.1,nY t f.2]
theorem kR{A:Around}{s:Shared}{x:V}{v:Value}(rx:RelV x v)(fx:jz x=true):∀{xs:List V}{us:List Value},Vals xs us→xs.all jz=true→∀u∈us,SeqAt.EqAt A s u v (xP x u)
 |_,_, .nil,_=>fun u hu=>by cases hu
 |y::xs,u::us, .cons r t,f=>fun u' hu=>by
  rw[List.all_cons,Bool.and_eq_true] at f
  rcases List.mem_cons.mp hu with rfl | hu
  ·rw[vJ r f.1];exact Ak r rx f.1 fx
  ·exact kR rx fx t f.2 u' hu
def Eh(x:V)(xs:List V):Bool:=xs.any fun y=>xA y x
def G9(K:W.Frag)(neg:Bool):R2:=fun x y H Q=>∃p xs,y= .ref p∧(SqL K H p xs∨SqT K H p xs)∧jz x=true∧xs.all jz=true∧Q (.bl (if neg then !Eh x xs else Eh x xs)) H
theorem oE:OpR X (compareOp .NotIn) (G9 X.K true):=by
 intro pins s σ H x y v u Q I rx ry h
 obtain⟨p,xs,rfl,hq,fx,fs,q⟩:=h
 cases ry
 rcases hq with hq | hq
 ·obtain⟨aG,r,pl,hz⟩:=I.list hq
  refine SeqAt.notIn_listAt (xP x) pl.isList (fun w hw=>kR rx fx r fs w (by simpa using hw)) ⟨.bl _,H,I,rfl,?_⟩
  rw[show aG.toArray.any (xP x)=aG.any (xP x) by simp,nY r fs]
  exact q
 ·obtain⟨aG,r,pl,hz⟩:=I.tuple hq
  refine SeqAt.notIn_tupleAt (xP x) pl (fun w hw=>kR rx fx r fs w (by simpa using hw)) ⟨.bl _,H,I,rfl,?_⟩
  rw[show aG.toArray.any (xP x)=aG.any (xP x) by simp,nY r fs]
  exact q
theorem n5:CallR X (.builtin "len") (fun xs H Q=>∃p ys,xs=[.ref p]∧(SqL X.K H p ys∨SqT X.K H p ys)∧Q (.int ys.length) H):=by
 intro pins s σ H xs us Q I r h
 obtain⟨p,ys,rfl,hq,q⟩:=h
 obtain⟨u,rfl,rx⟩:=vals1 r
 cases rx
 have hn:=jd
 rcases hq with hq | hq
 ·obtain⟨aG,r',pl,hz⟩:=I.list hq
  have hlen:=r'.length
  exact Calls.call_len_list pl.isList (by simp only[List.size_toArray]<;>omega) ⟨.int ys.length,H,I.tok _,⟨s.toks+1,by rw[List.size_toArray,hlen]⟩,q⟩
 ·obtain⟨aG,r',pl,hz⟩:=I.tuple hq
  have hlen:=r'.length
  exact len_tuple pl (by simp only[List.size_toArray]<;>omega) ⟨.int ys.length,H,I.tok _,⟨s.toks+1,by rw[List.size_toArray,hlen]⟩,q⟩
theorem n6:CallR X (.builtin "len") (fun xs H Q=>∃z,xs=[.str z]∧z.length≤sizeLine∧Q (.int z.length) H):=by
 intro pins s σ H xs us Q I r h
 obtain⟨z,rfl,hz,q⟩:=h
 obtain⟨u,rfl,t,rfl⟩:=vals1 r
 have hn:=jd
 exact len_str (by omega) ⟨.int z.length,H,I.tok _,⟨_,rfl⟩,q⟩
theorem CallR.or{f:Value}{r r':List V→Hp→VK→Prop}(h:CallR X f r)(h':CallR X f r'):CallR X f (fun xs H Q=>r xs H Q∨r' xs H Q):=by
 intro pins s σ H xs us Q I rs q
 rcases q with q | q
 ·exact h pins s σ H xs us Q I rs q
 ·exact h' pins s σ H xs us Q I rs q
def Er(K:W.Frag)(T:String)(x:V)(H:Hp):Prop:=match x with
 | .str _=>T="str"
 | .int _=>T="int"
 | .ref p=>(T="list"∧∃xs,SqL K H p xs)∨(T="tuple"∧∃o,K.lookup p=some o∧o.cls= .type "tuple"∧o.dict=none)∨
    (T="dict"∧((∃ax,H p=some (.dK ax))∨∃ax,H p=some (.dT ax)))∨(T="set"∧∃S n,H p=some (.set S n))
 |_=>False
theorem BY{pins:List (Addr×Obj)}{σ:St}{H:Hp}{s:Shared}{T:String}{x:V}{v:Value}(I:Inv X pins σ H s)(r:RelV x v)(ty:Er X.K T x H):
 s.TypeIs v T∧∀a,v= .ref a→∃ob,s.heap.get? a=some ob∧ob.dict=none:=by
 cases x with
 |str z=>
  obtain⟨t,rfl⟩:=r
  cases (show T="str" from ty)
  exact⟨typeIs_str s z t,fun _ e=>nomatch e⟩
 |int i=>
  obtain⟨t,rfl⟩:=r
  cases (show T="int" from ty)
  exact⟨typeIs_int s i t,fun _ e=>nomatch e⟩
 |ref p=>
  cases r
  rcases ty with⟨rfl,xs,hq⟩ | ⟨rfl,o,hk,hc,hd⟩ | ⟨rfl,hk⟩ | ⟨rfl,S,n,hk⟩
  ·obtain⟨aG,_,pl,_⟩:=I.list hq
   refine⟨pl.isList.typeIs,fun a e=>?_⟩
   cases e
   obtain⟨o,n,e,c,hd,_⟩:=pl
   exact⟨o,e,hd⟩
  ·refine⟨⟨o,I.kIn p o hk,hc⟩,fun a e=>?_⟩
   cases e
   exact⟨o,I.kIn _ o hk,hd⟩
  ·have z:∃o,s.heap.get? p=some o∧o.ExactDict:=by
    rcases hk with⟨ax,hk⟩ | ⟨ax,hk⟩
    ·obtain⟨_,_,_,_,o,_,_,e,ex,_⟩:=I.hok p _ hk
     exact⟨o,e,ex⟩
    ·obtain⟨_,_,_,_,o,_,_,e,ex,_⟩:=I.hok p _ hk
     exact⟨o,e,ex⟩
   obtain⟨o,e,ex⟩:=z
   refine⟨⟨o,e,ex.1⟩,fun a e2=>?_⟩
   cases e2
   exact⟨o,e,ex.2.1⟩
  ·obtain⟨o,_,_,_,e,ex,_⟩:=I.hok p _ hk
   refine⟨⟨o,e,ex.1⟩,fun a e2=>?_⟩
   cases e2
   exact⟨o,e,ex.2.1⟩
 |_=>exact False.elim ty
def Hc(K:W.Frag)(T:String)(r:V→List V→Hp→VK→Prop)(to:TE)(t:TA):TE:=fun σ H Q=>to σ H fun x H1=>Er K T x H1∧t σ H1 fun xs H2=>r x xs H2 Q
variable{o e:Expr}{es:List Expr}{to:TE}{t:TA}{name:Str}{apos bo:Pos}{T id:String}{r:V→List V→Hp→VK→Prop}
theorem zX(pa:PlainAttrs T)(slot:Slot T name id)(Fi:typeOf (.builtin id)=pure (.type "method_descriptor"))(hm:Ew X id r)(ho:PE X o to)(ha:PA X (e::es) t)
 (kD:attributeBase o name X.env (eval o X.env)=eval o X.env:=by rfl)
 (rA:((backTo bo (starEach (e::es) X.env)).all (fun x=>!x.1)&&(backToKw bo (keywordEach [] X.env)).all (fun x=>x.1.isSome)
  &&decide ((e::es).length+([]:List Keyword).length+(if ([]:List Keyword).isEmpty then 0 else 1)<30))=true:=by rfl)
 (kE:(apos.endLine==bo.line)=true:=by rfl) (hs:starEach (e::es) X.env=(false,eval e X.env)::starEach es X.env:=by rfl) (rB:(backTo bo (starEach es X.env)).any (·.1)=false:=by rfl):
 PE X (.Call (.Attribute o name apos) (e::es) [] bo) (Hc X.K T r to t):=by
 intro pins s σ H Q I h
 refine wpAny_Call_method_late kD rA kE rfl (bB (ho pins s σ H _ I h) fun v s1 ⟨x,H1,I1,r1,ty,q1⟩=>?_)
 obtain⟨h1,h2⟩:=BY I1 r1 ty
 refine⟨T,id,pa,slot,Fi,h1,h2,?_⟩
 have hA:=ha bo pins s1 σ H1 _ I1 q1
 rw[hs] at hA⊢
 refine Calls.callWith_builtin (by show (false||(backTo bo (starEach es X.env)).any (·.1))=false;rw[rB]<;>rfl) (Calls.evalArgs_plain ?_)
 exact bB hA fun us s2 ⟨vs,H2,I2,r2,q2⟩=>hm pins s2 σ H2 x vs v us Q I2 r1 r2 q2
end
def Gd(X:Cx)(id:String)(r:V→List V→Hp→VK→Prop):Prop:=
 ∀(pins:List (Addr×Obj)) (s:Shared) (σ:St) (H:Hp) (x:V) (xs:List V) (v:Value) (us:List Value) (Q:VK),Inv X pins σ H s→RelV x v→Vals xs us→r x xs H Q→
  wpAny (model X.prog X.w) X.A (call (.builtin id) (v::us)) (EP X pins σ Q) X.xe s
theorem Vals.one:∀{x:V}{us:List Value},Vals [x] us→∃u,us=[u]∧RelV x u
 |_,_, .cons r .nil=>⟨_,rfl,r⟩
theorem Vals.reverse{xs:List V}{us:List Value}(h:Vals xs us):Vals xs.reverse us.reverse:=by
 induction h with
 |nil=>exact .nil
 |cons r t ih=>rw[List.reverse_cons,List.reverse_cons];exact Vals.append ih (.cons r .nil)
section
variable{X:Cx}{pins:List (Addr×Obj)}{σ:St}{H:Hp}{s:Shared}{l b:Addr}{xs ys zs:List V}
theorem Inv.lset{aG its':List Value}{n:Nat}{f:Array Value→Array Value}{t':Nat}(I:Inv X pins σ H s)(hH:H l=some (.lst xs))
 (e:s.heap.get? l=some {cls:= .type "list",data:= .seq aG.toArray n})(hf:f aG.toArray=its'.toArray)(hv:Vals ys its')(hz:ys.length≤sizeLine):
 Inv X pins σ (upd H l (.lst ys)) {s with heap:=s.heap.update l (Obj.mapSeq f),toks:=t'}:=by
 have q:=PySem.IsL.update e f
 rw[hf] at q
 refine I.write (x:=l) (e:=l) (by rw[hH];exact trivial) (.inl rfl) (fun b' u hb hu=>(Heap.get?_update_other s.heap (Obj.mapSeq f) (Ne.symm hb)).trans hu) ⟨_,q⟩ ?_
 exact⟨hz,its',_,hv,q⟩
theorem Inv.lnew{aG:List Value}{t':Nat}(I:Inv X pins σ H s)(hv:Vals ys aG)(hz:ys.length≤sizeLine):
 Inv X pins σ (upd H s.heap.objs.size (.lst ys)) {s with heap:=s.heap.push {cls:= .type "list",data:= .seq aG.toArray},toks:=t'}:=
 I.laid (fun _ _ q=>Heap.get?_push_of_some _ q) (Nat.le_refl _) ⟨hz,aG,0,hv,Heap.get?_push_size _ rfl⟩
theorem Inv.fresh(I:Inv X pins σ H s):H s.heap.objs.size=none:=I.hok.fresh (Nat.le_refl _)
theorem Inv.lstM(I:Inv X pins σ H s)(hH:H l=some (.lst xs)):xs.length≤sizeLine∧∃(aG:List Value) (n:Nat),Vals xs aG∧xs.length=aG.length∧s.heap.get? l=some {cls:= .type "list",data:= .seq aG.toArray n}:=by
 obtain⟨z,aG,n,r,e⟩:=I.hok l _ hH
 exact⟨z,aG,n,r,r.length,e⟩
theorem wo{n:Nat}(h:n≤sizeLine):Builtin.List.listTooLong n=false:=by
 unfold Builtin.List.listTooLong
 exact decide_eq_false (by omega)
end
section
variable{X:Cx}
def tR:V→List V→Hp→VK→Prop:=fun x vs H Q=>∃l xs y,x= .ref l∧vs=[y]∧H l=some (.lst xs)∧xs.length<sizeLine∧Q .non (upd H l (.lst (xs++[y])))
theorem ng:Gd X "list.append" tR:=by
 intro pins s σ H x vs v us Q I rx rv h
 obtain⟨l,xs,y,rfl,rfl,hH,hz,q⟩:=h
 cases rx
 obtain⟨u,rfl,ru⟩:=rv.one
 obtain⟨z,aG,n,r,hl,e⟩:=I.lstM hH
 refine call_meets F.slot_list_append ⟨_,e,rfl⟩ F.entry_list_append (F.args_list_append_2 _ _) (PySem.list_append l aG.toArray n u (by rw[List.size_toArray];omega)) ⟨e,?_⟩
 refine⟨.non,_,I.lset (its':=aG++[u]) hH e (by simp) (r.append (.cons ru .nil)) ?_,rfl,q⟩
 rw[List.length_append,List.length_singleton]
 omega
def yY:V→List V→Hp→VK→Prop:=fun x vs H Q=>∃l b xs zs,x= .ref l∧vs=[.ref b]∧H l=some (.lst xs)∧H b=some (.lst zs)∧xs.length+zs.length≤sizeLine∧Q .non (upd H l (.lst (xs++zs)))
theorem B_:Gd X "list.extend" yY:=by
 intro pins s σ H x vs v us Q I rx rv h
 obtain⟨l,b,xs,zs,rfl,rfl,hH,hB,hz,q⟩:=h
 cases rx
 obtain⟨u,rfl,ru⟩:=rv.one
 cases ru
 obtain⟨z,aG,n,r,hl,e⟩:=I.lstM hH
 obtain⟨z2,dE,n2,r2,Av,e2⟩:=I.lstM hB
 have hsz:aG.toArray.size+dE.toArray.size≤sizeLine:=by rw[List.size_toArray,List.size_toArray];omega
 have CW:¬(!aG.toArray.isEmpty&&Builtin.List.listTooLong (aG.toArray.size+dE.toArray.size))=true:=by
  rw[wo hsz,Bool.and_false]
  exact Bool.false_ne_true
 refine call_meets F.slot_list_extend ⟨_,e,rfl⟩ F.entry_list_extend (F.args_list_extend_2 _ _)
  (AutoSeq1.list_extend_list_list_0 l aG.toArray n b dE.toArray n2 CW (by rw[List.size_toArray];omega) (by omega)) ⟨e,e2,?_⟩
 refine⟨.non,_,I.lset (its':=aG++dE) hH e (by simp) (r.append r2) ?_,rfl,q⟩
 rw[List.length_append]
 omega
def FN:R2:=fun x y H Q=>∃l b xs zs,x= .ref l∧y= .ref b∧H l=some (.lst xs)∧H b=some (.lst zs)∧xs.length+zs.length≤sizeLine∧∀p,H p=none→Q (.ref p) (upd H p (.lst (xs++zs)))
theorem A8:OpR X (binaryOp .Add) FN:=by
 intro pins s σ H x y v u Q I rx ry h
 obtain⟨l,b,xs,zs,rfl,rfl,hH,hB,hz,q⟩:=h
 cases rx
 cases ry
 obtain⟨z,aG,n,r,hl,e⟩:=I.lstM hH
 obtain⟨z2,dE,n2,r2,Av,e2⟩:=I.lstM hB
 refine PySem.P.add_list e e2 ?_ (by rw[List.size_toArray,List.size_toArray];omega)
 have ea:aG.toArray++dE.toArray=(aG++dE).toArray:=by simp
 rw[ea]
 exact⟨.ref _,_,I.lnew (t':=s.toks) (r.append r2) (by rw[List.length_append];omega),rfl,q _ I.fresh⟩
end
section
variable{prog:Program}{w:World}{A:Around}{E:Value→Shared→Prop}{s:Shared}
end
section
variable{X:Cx}
end
end L2
namespace Att
open PySem PySem.W PySem.Calls PyProof.Rows
theorem ints_of_wellAll{P:Params}{h:Heap}:∀(ns:List Int) (vs:List Value),WellAll P h vs (ns.map WData.int)→IntsAre vs ns:=by
 intro ns
 induction ns with
 |nil=>
  intro vs w
  rw[List.map_nil] at w
  cases w
  exact .nil
 |cons n ns ih=>
  intro vs w
  rw[List.map_cons] at w
  cases w with
  |cons a b=>
   cases a
   exact .cons _ _ (ih _ b)
theorem script_of{l:OpenLaw}{n:Nat}(hn:l.most=some n){P:Params}{h:Heap}{args:List WData}{vals:List Value}
 (xX:l.row.toRowW.claim.pre args=true)(Fl:WellAll P h vals args):
 ∃a vs ns,vals=[Value.ref a]∧args=[WData.list (ns.map WData.int)]∧h.get? a=some {cls:= .type "list",data:= .seq vs.toArray}∧IntsAre vs ns∧ns.length≤n:=by
 have Ir:WShape.hasAll [] args [.list .int]=true:=(pre_splitW xX).1
 have hc:l.pre.holds [] {args:=args}=true:=(pre_splitW xX).2
 obtain⟨d,r,rfl,h1,h2⟩:=hasAllW_cons Ir
 obtain rfl:=hasAllW_nil h2
 obtain⟨xs,rfl,h3⟩:=hasW_list h1
 obtain⟨ns,rfl⟩:=items_int h3
 have hlen:ns.length≤n:=by
  unfold OpenLaw.pre at hc
  have h4:(WTm.not (.lt (.lit (.int (n:Int))) (.len (.arg 0)))).holds [] {args:=[.list (ns.map .int)]}=true:=by
   have h4:=(holds_andW hc).1
   rw[hn] at h4
   exact h4
  have h5:=condW_of h4 (w_not (w_lt w_lit (w_len_list (w_arg rfl))))
  rw[List.length_map] at h5
  refine Nat.le_of_not_lt fun q=>?_
  have q':(n:Int)<((ns.length:Nat):Int):=by omega
  first
   |(rw [decide_eq_true q'] at h5;exact absurd h5 (by decide))
   |(simp at h5;omega)
 cases Fl with
 |cons w1 w2=>
  cases w2
  cases w1 with
  |list ho ER=>exact⟨_,_,ns,rfl,rfl,ho,ints_of_wellAll ns _ ER,hlen⟩
theorem post_true(l:OpenLaw)(args:List WData):l.row.toRowW.claim.post args (.bool true) args=true:=
 postW_of (r:=l.row.toRowW) (X:=(true==true))
  (show WShape.has [] (.bool true) .bool=true by first | rfl | decide | simp[WShape.has,WShape.arms,WShape.armsAll])
  (show (WTm.eq .res (.lit (.bool true))).value [] {args:=args,res:=some (.bool true),after:=args}=some (.bool (true==true)) from w_eq_bool (w_res rfl) w_lit) rfl
theorem attach_call{l:OpenLaw}{n:Nat}{q:Program}{loose:List Str}{XP:(Str→Option Value)→Heap→Prop}{YP:World→Heap→Prop}{d:DefRec}
 (hn:l.most=some n)(CL:d.params.defaults=[])
 (call:∀(w:World) (s₀ s₁:Shared) (mg mb:Str→Option Value) (fa:Addr) (o:Obj) (pm cd doc:Value) (a:Addr) (vs:List Value) (ns:List Int),
  Ground q loose [] XP w s₀ mg mb s₁.heap→YP w s₁.heap→
  s₁.heap.get? fa=some o→o.data= .func (docDef d.name d.params d.body d.scope pm cd doc)→s₁.heap.CodeRec cd d.name→mg d.name=some (.ref fa)→
  s₁.heap.get? a=some {cls:= .type "list",data:= .seq vs.toArray}→IntsAre vs ns→ns.length≤n→s₁.gens= #[]→
  codeAny (model l.prog w) callerA (.call (.ref fa) ⟨[.ref a],[]⟩) (fun r s'=>r= .ok (.ret (.bool true))∧OldK s₁.heap s'.heap∧s'.os=s₁.os∧AllBare s'.gens) s₁):
 WalkO q loose XP YP l.row.toRowW d [] (fun f vs=>PySem.call f vs):=by
 intro w s₀ s₁ mg mb G Y fa o pm cd doc dV kV ho hd ve hD Az hg args vals as xX Ik Jf Fl Jd
 obtain rfl:dV= .none:=Dflts.none hD CL
 obtain rfl:kV= .none:=Dflts.noKw hD
 obtain⟨a,vs,ns,rfl,rfl,vX,hints,hlen⟩:=script_of hn xX Fl
 refine enter_call (codeAny_mono (call w s₀ s₁ mg mb fa o pm cd doc a vs ns G Y ho (fd_plain hd) ve Az vX hints hlen hg) fun r s' hq=>?_)
 obtain⟨rfl,h2,h3,h4⟩:=hq
 exact⟨.inl ⟨.bool true, .bool true,[],rfl,fun _=>rfl, .bool true,post_true l _,fun _=>⟨List.Pairwise.nil,fun _ hm=>(nomatch hm)⟩⟩,h2,h3,h4⟩
section
variable{prog:Program}{w:World}{A:Around}{E:Value→Shared→Prop}{s:Shared}{K:Frag}
def ledger(h:Heap)(L d:Addr):List (Addr×Obj):=(List.range h.objs.size).filterMap fun a=>if a=L∨a=d then none else(h.get? a).map fun o=>(a,o)
end
end Att
namespace L2
open PySem PySem.Spec PyProof.Rows
theorem nS:∀{vs:List Value}{ns:List Int},IntsAre vs ns→Vals (ns.map V.int) vs
 |_,_, .nil=> .nil
 |_,_, .cons n t h=> .cons ⟨t,rfl⟩ (nS h)
def Aa(H:Hp):Prop:=∀b,H b=none∨∃o xs,H b=some (.frz o (.lst xs))
theorem p0{P:Program}{w:World}{K:W.Frag}{mg mb:Str→Option Value}{CX:q9}{k:Nat}{fa a:Addr}{fd:FuncData}{x:Str}{sp:Sp}{s₁:Shared}{vs:List Value}{ns:List Int}
 (KX:K.In s₁.heap)(GK:s₁.heap.Ns mainGlobals mg)(hb:s₁.heap.Ns builtinsNs mb)(HM:∀x:Str,x≠"__name__"→mb x=bootBuiltins x)(CV:s₁.heap.NoLimit)(hg:s₁.gens= #[])
 (ha:s₁.heap.get? a=some {cls:= .type "list",data:= .seq vs.toArray})(hi:IntsAre vs ns)(hl:ns.length≤sizeLine)(hr:Room k callerA)
 (F:∀base:Heap,K.In base→base.Ns mainGlobals mg→FnOk P w K mg base CX k fa fd [x] sp)(CJ:∀(s:Shared) (u:Value),BindsTo s fd ⟨[u],[]⟩ [(x,u)])
 (zJ:∀H:Hp,Aa H→SqL K H a (ns.map V.int)→sp [.ref a] H (fun v _=>v= .bl true) fun _ _ _=>False)
 (EH:∀H e s',CX [] H s₁ (fun _ _ _=>False) e s'→False):
 codeAny (model P w) callerA (.call (.ref fa) ⟨[.ref a],[]⟩) (fun r s'=>r= .ok (.ret (.bool true))∧OldK s₁.heap s'.heap∧s'.os=s₁.os∧AllBare s'.gens) s₁:=by
 have rv:=nS hi
 have FC:=hi.length
 have core:∀H:Hp,Aa H→SqL K H a (ns.map V.int)→HOk P w H s₁.heap→(∀b,H b≠none→b=a)→(H a≠none→K.lookup a=none)→
  codeAny (model P w) callerA (.call (.ref fa) ⟨[.ref a],[]⟩) (fun r s'=>r= .ok (.ret (.bool true))∧OldK s₁.heap s'.heap∧s'.os=s₁.os∧AllBare s'.gens) s₁:=by
  intro H hO hS hok hA hK
  have sP:∀{b:Addr}{o:Obj},s₁.heap.get? b=some o→H b=none→(oi s₁.heap H).get? b=some o:=fun e n=>vW e n
  have De:∀{b:Addr}{o:Obj}{es:Array DictEntry}{ep:Nat},s₁.heap.get? b=some o→o.data= .dict es ep→H b=none:=fun {b o es ep} e d=>by
   cases q:H b with
   |none=>rfl
   |some u=>
    have e':b=a:=hA b (by rw[q];simp)
    subst e'
    rw[ha] at e;cases e
    have d':Data.seq vs.toArray _=Data.dict es ep:=d
    cases d'
  have El:∀{b:Addr}{m:Str→Option Value},s₁.heap.Ns b m→(oi s₁.heap H).Ns b m:=fun {b m} ⟨o,es,ep,e,d,r⟩=>⟨o,es,ep,sP e (De e d),d,r⟩
  have Gu:K.In (oi s₁.heap H):=fun b o e=>sP (KX b o e) (by
   cases q:H b with
   |none=>rfl
   |some u=>
    have e':b=a:=hA b (by rw[q];simp)
    subst e'
    rw[hK (by rw[q];simp)] at e;cases e)
  have hM:Mod K mg (oi s₁.heap H):=⟨Gu,El GK,⟨mb,El hb,HM⟩,let ⟨mc,h1,h2⟩:=CV;⟨mc,El h1,h2⟩⟩
  have e0:Env0 P w K mg (oi s₁.heap H) callerA [] s₁ H:=⟨rfl,hM,fun b o e=>yo e,Nat.le_of_eq (uu _ _),trivial,fun b hb=>absurd (show b∈([]:List Addr) from hb) (by simp),hok, .of_eq hg⟩
  refine codeAny_mono ((F _ Gu (El GK)).run callerA [] s₁ H ⟨[.ref a],[]⟩ [.ref a] [.ref a] _ _ hr e0 (CJ s₁ (.ref a)) (.cons rfl .nil) (zJ H hO hS)) fun r s' h=>?_
  cases r with
  |error e=>exact(EH H e s' h).elim
  |ok fl=>
   cases fl with
   |next=>exact False.elim h
   |brk=>exact False.elim h
   |cont=>exact False.elim h
   |ret u=>
    obtain⟨v,H',os,bare,un,E_,r',q⟩:=h
    have q':v= .bl true:=q
    subst q'
    obtain rfl:u=Value.bool true:=r'
    refine⟨rfl,OldK.of_keep fun b o e=>?_,os,bare⟩
    cases q:H b with
    |none=>exact un.keep b o e q (by intro z;exact absurd (show b∈([]:List Addr) from z) (by simp)) (by simp)
    |some u=>
     rcases hO b with z | ⟨ob,xs,z⟩
     ·rw[q] at z;cases z
     ·have z2:=un.frzs b ob _ z
      obtain⟨e1,_⟩:=hok b _ z
      obtain⟨e2,_⟩:=E_ b _ z2
      rw[e] at e1;cases e1
      exact e2
 cases hk:K.lookup a with
 |some o=>
  have e:=KX a o hk
  rw[ha] at e
  cases e
  refine core (fun _=>none) (fun _=> .inl rfl) (.inr ⟨_,vs.toArray,_,hk,rfl,rfl,rfl,by rw[List.size_toArray,FC];exact hl,by simpa using rv⟩) (fun b u z=>by have z':(none:Option HO)=some u:=z;cases z') (fun b z=>absurd rfl z) fun z=>absurd rfl z
 |none=>
  refine core (fun b=>if b=a then some (.frz {cls:= .type "list",data:= .seq vs.toArray} (.lst (ns.map V.int))) else none) (fun b=>?_) (.inl (.inr ⟨{cls:= .type "list",data:= .seq vs.toArray},if_pos rfl⟩)) (fun b u z=>?_) (fun b z=>?_) fun _=>hk
  ·by_cases hb:b=a
   ·exact .inr ⟨_,_,if_pos hb⟩
   ·exact .inl (if_neg hb)
  ·by_cases hb:b=a
   ·have z':=(if_pos hb).symm.trans z
    cases z'
    subst hb
    exact⟨ha,by rw[List.length_map];exact hl,vs,_,rv,ha⟩
   ·have z':=(if_neg hb).symm.trans z
    cases z'
  ·by_cases hb:b=a
   ·exact hb
   ·exact absurd (if_neg hb) z
abbrev IY{K:W.Frag}{h:Heap}(_:K.In h):W.Frag:=K
theorem Es{l:PySem.W.OpenLaw}{n k:Nat}{q:Program}{loose:List Str}{XP:(Str→Option Value)→Heap→Prop}{YP:World→Heap→Prop}{d:DefRec}{K:Params→W.Frag}{CX:World→q9}{sp:World→Sp}{x:Str}
 (hn:l.most=some n)(Eb:n≤sizeLine)(CL:d.params.defaults=[])(hr:Room k callerA)
 (hY:∀(w:World) (h:Heap),YP w h→(K w.params).In h)
 (F:∀(w:World) (mg:Str→Option Value) (fa:Addr) (h:Heap),(K w.params).In h→h.Ns mainGlobals mg→mg d.name=some (.ref fa)→
  ∃fd:FuncData,(∀(s:Shared) (u:Value),BindsTo s fd ⟨[u],[]⟩ [(x,u)])∧
   ∀base:Heap,(K w.params).In base→base.Ns mainGlobals mg→FnOk l.prog w (K w.params) mg base (CX w) k fa fd [x] (sp w))
 (zJ:∀(w:World) (H:Hp) (a:Addr) (ns:List Int),ns.length≤n→Aa H→SqL (K w.params) H a (ns.map V.int)→sp w [.ref a] H (fun v _=>v= .bl true) fun _ _ _=>False)
 (EH:∀(w:World) (H:Hp) (s:Shared) (e:Value) (s':Shared),CX w [] H s (fun _ _ _=>False) e s'→False):
 PySem.W.WalkO q loose XP YP l.row.toRowW d [] (fun f vs=>PySem.call f vs):=by
 refine Att.attach_call hn CL fun w s₀ s₁ mg mb fa o pm cd doc a vs ns G Y ho hd ve Az vX hints hlen hg=>?_
 have KX:=hY w _ Y
 obtain⟨fd,hb,hF⟩:=F w mg fa _ KX G.T.g Az
 exact p0 KX G.T.g G.T.b G.T.builtins G.T.nolimit hg vX hints (Nat.le_trans hlen Eb) hr hF hb (fun H hO hS=>zJ w H a ns hlen hO hS) fun H e s'=>EH w H s₁ e s'
def de(s:Stmt):Arguments:=match s with
 | .FunctionDef _ a _ _ _ _ _ _ _ _=>a
 |_=>{posonlyargs:=[],args:=[],vararg:=none,kwonlyargs:=[],kw_defaults:=[],kwarg:=none,defaults:=[]}
def bD(s:Stmt):List Stmt:=match s with
 | .FunctionDef _ _ b _ _ _ _ _ _ _=>b
 |_=>[]
def ag(s:Stmt):Scope:=match s with
 | .FunctionDef _ _ _ _ _ _ sc _ _ _=>sc
 |_=>{kind:= .function,names:=[],isGenerator:=false,isCoroutine:=false}
abbrev Hj:q9:=fun _ _ _ _ _ _=>False
structure Fun (K:W.Frag) (x qual:Str) (st:Stmt) (f:Addr) (fd:FuncData):Prop where
 ex:∃(oc:Value) (od:Option Addr) (kV doc pm:Value) (an:Option Addr) (b8 ct:Value) (zV:Array (Option Value)),
  fd=PySem.W.fnOf x qual (de st) (bD st) (ag st) .none kV doc pm an b8 ct∧K.lookup f=some ⟨oc,od, .func fd,zV⟩∧PySem.W.codeIn K b8 qual=true
 kp:PySem.W.keepIn K (.ref f)=true
section
variable{P:Program}{w:World}{K:W.Frag}{mg:Str→Option Value}{base:Heap}
theorem Fun.binds{x qual:Str}{st:Stmt}{f:Addr}{fd:FuncData}{ps:List Str}(F:Fun K x qual st f fd)
 (h:∀(kV doc pm:Value) (an:Option Addr) (b8 ct:Value) (us:List Value),us.length=ps.length→bindArgs (PySem.W.fnOf x qual (de st) (bD st) (ag st) .none kV doc pm an b8 ct) ⟨us,[]⟩=pure (ps.zip us)):Binds K fd ps []:=by
 obtain⟨oc,od,kV,doc,pm,an,b8,ct,zV,rfl,lk,ve⟩:=F.ex
 exact .all (h kV doc pm an b8 ct)
theorem vN{x qual:Str}{st:Stmt}{f:Addr}{oc:Value}{od an:Option Addr}{zV:Array (Option Value)}{kV doc pm b8 ct:Value}(l:K.lookup f=some ⟨oc,od, .func (PySem.W.fnOf x qual (de st) (bD st) (ag st) .none kV doc pm an b8 ct),zV⟩)
 (c:PySem.W.codeIn K b8 qual=true)(k:PySem.W.keepIn K (.ref f)=true):Fun K x qual st f (PySem.W.fnOf x qual (de st) (bD st) (ag st) .none kV doc pm an b8 ct):=⟨⟨oc,od,kV,doc,pm,an,b8,ct,zV,rfl,l,c⟩,k⟩
end
section
variable{X:Cx}
theorem pv(i:Nat){x:Str}{pos:Pos}(hN:X.N[i]? =some x:=by rfl)(hv:EC X.env.scope x:=by first | exact Or.inl rfl | exact Or.inr (Or.inl rfl) | exact Or.inr (Or.inr rfl))(hd:(x==("__debug__":Str))=false:=by decide)
 (ve:(x==("__classdict__":Str))=false:=by decide):PE X (.Name x pos) (qL i):=Bw hN hv hd ve
end
def Same(H H':Hp):Prop:=∀b o,H b=some o→H' b=some o
theorem Same.refl(H:Hp):Same H H:=fun _ _ h=>h
theorem Same.trans{H H1 H2:Hp}(a:Same H H1)(b:Same H1 H2):Same H H2:=fun c o h=>b c o (a c o h)
theorem Same.free{H H':Hp}(e:Same H H'){l:Addr}(h:H' l=Option.none):H l=Option.none:=by
 cases q:H l with
 |none=>rfl
 |some o=>
  rw[e l o q] at h
  cases h
theorem Same.seq{K:W.Frag}{H H':Hp}{a:Addr}{xs:List V}(e:Same H H')(h:SqL K H a xs):SqL K H' a xs:=by
 rcases h with(h | ⟨o,h⟩) | h
 ·exact .inl (.inl (e _ _ h))
 ·exact .inl (.inr ⟨o,e _ _ h⟩)
 ·exact .inr h
section
variable{κ:Type}[DecidableEq κ]
def iS(ax:List (κ×V))(k:κ):Option V:=(ax.find? fun kv=>decide (kv.1=k)).map (·.2)
def putK(ax:List (κ×V))(k:κ)(v:V):List (κ×V):=
 if (ax.any fun kv=>decide (kv.1=k))=true then ax.map (fun kv=>if kv.1=k then(kv.1,v) else kv) else ax++[(k,v)]
theorem iU{p:κ×V}{r:List (κ×V)}{k:κ}(e:p.1=k):iS (p::r) k=some p.2:=by simp[iS,List.find?_cons,e]
theorem iT{p:κ×V}{r:List (κ×V)}{k:κ}(e:¬p.1=k):iS (p::r) k=iS r k:=by simp[iS,List.find?_cons,e]
theorem lU(k:κ):∀ax:List (κ×V),(ax.any fun kv=>decide (kv.1=k))=(iS ax k).isSome
 |[]=>rfl
 |p::r=>by
  rw[List.any_cons]
  by_cases e:p.1=k
  ·simp only[iU e,decide_eq_true e,Bool.true_or,Option.isSome_some]
  ·rw[iT e,decide_eq_false e,Bool.false_or];exact lU k r
theorem dU(ax:List (κ×V))(k:κ)(v:V):(putK ax k v).length≤ax.length+1:=by
 unfold putK
 split
 ·rw[List.length_map];omega
 ·rw[List.length_append,List.length_cons,List.length_nil];omega
theorem RelO.isSome_eq{o:Option V}{u:Option Value}(r:RelO o u):o.isSome=u.isSome:=by
 cases o with
 |none=>cases u with
  |none=>rfl
  |some _=>exact(show False from r).elim
 |some _=>cases u with
  |none=>exact(show False from r).elim
  |some _=>rfl
theorem KV.val{ax:List (κ×V)}{vs:List (κ×Value)}(r:KV ax vs)(k:κ):RelO (iS ax k) (valueAt vs k):=by
 unfold KV at r
 induction r with
 |nil=>exact True.intro
 | @cons p q ps qs h t ih=>
   obtain⟨h1,h2⟩:=h
   by_cases e:p.1=k
   ·have e':q.1=k:=h1.symm.trans e
    have b:valueAt (q::qs) k=some q.2:=by simp[valueAt,List.find?_cons,e']
    rw[iU e,b];exact h2
   ·have e':¬q.1=k:=fun z=>e (h1.trans z)
    have b:valueAt (q::qs) k=valueAt qs k:=by simp[valueAt,List.find?_cons,e']
    rw[iT e,b];exact ih
theorem KV.any{ax:List (κ×V)}{vs:List (κ×Value)}(r:KV ax vs)(k:κ):(ax.any fun kv=>decide (kv.1=k))=vs.any fun kv=>decide (kv.1=k):=by
 unfold KV at r
 induction r with
 |nil=>rfl
 |cons h t ih=>rw[List.any_cons,List.any_cons,ih,h.1]
theorem KV.repl{ax:List (κ×V)}{vs:List (κ×Value)}(r:KV ax vs)(k:κ){y:V}{u:Value}(ry:RelV y u):
 KV (ax.map fun kv=>if kv.1=k then(kv.1,y) else kv) (vs.map fun kv=>if kv.1=k then(kv.1,u) else kv):=by
 unfold KV at r⊢
 induction r with
 |nil=>exact .nil
 | @cons p q ps qs h t ih=>
   rw[List.map_cons,List.map_cons]
   refine .cons ?_ ih
   obtain⟨h1,h2⟩:=h
   by_cases e:p.1=k
   ·rw[if_pos e,if_pos (h1.symm.trans e)];exact⟨h1,ry⟩
   ·rw[if_neg e,if_neg (fun z=>e (h1.trans z))];exact⟨h1,h2⟩
theorem KV.put{ax:List (κ×V)}{vs:List (κ×Value)}(r:KV ax vs)(k:κ){y:V}{u:Value}(ry:RelV y u):KV (putK ax k y) (stored vs k u):=by
 unfold putK stored
 rw[r.any k]
 by_cases e:(vs.any fun kv=>decide (kv.1=k))=true
 ·rw[if_pos e,if_pos e];exact r.repl k ry
 ·rw[if_neg e,if_neg e];exact Paired.snoc r ⟨rfl,ry⟩
theorem KV.length{ax:List (κ×V)}{vs:List (κ×Value)}(r:KV ax vs):ax.length=vs.length:=Paired.length r
end
theorem mX{P:Program}{w:World}{k:Key}{u:Value}(r:RelV (kV k) u):(bz P w).is k u=true:=by
 cases k with
 |inl i=>obtain⟨t,e⟩:=(show∃t,u=Value.int i t from r);subst e;exact p7 P w i t
 |inr x=>obtain⟨t,e⟩:=(show∃t,u=Value.str x t from r);subst e;exact p8 P w x t
theorem AY{a b:Key}(e:kV a=kV b):a=b:=by
 cases a with
 |inl i=>cases b with
  |inl j=>have e':V.int i=V.int j:=e;injection e' with e';rw[e']
  |inr y=>exact nomatch (show V.int i=V.str y from e)
 |inr x=>cases b with
  |inl j=>exact nomatch (show V.str x=V.int j from e)
  |inr y=>have e':V.str x=V.str y:=e;injection e' with e';rw[e']
theorem tm:∀{a b:List Key},a.map kV=b.map kV→a=b
 |[],[],_=>rfl
 |[],_::_,e=>by simp at e
 |_::_,[],e=>by simp at e
 |x::xs,y::ys,e=>by
  rw[List.map_cons,List.map_cons] at e
  injection e with e1 e2
  rw[AY e1,tm e2]
theorem mV{P:Program}{w:World}:∀{ks:List Key}{us:List Value},Vals (ks.map kV) us→ItemsAre (bz P w) ks us
 |[],_,r=>by rw[List.map_nil] at r;cases r;exact .nil
 |k::ks,_,r=>by
  rw[List.map_cons] at r
  cases r with
  |cons h t=>exact .cons (mX h) (mV t)
abbrev KT(H:Hp):List (List Key×V)→List (List Key×Addr×Value)→Prop:=Paired fun p q=>p.1=q.1∧H q.2.1=some (.tup (p.1.map kV))∧RelV p.2 q.2.2
theorem KT.val{H:Hp}{ax:List (List Key×V)}{xs:List (List Key×Addr×Value)}(r:KT H ax xs)(k:List Key):RelO (iS ax k) ((atKey xs k).map (·.2)):=by
 induction r with
 |nil=>exact True.intro
 | @cons p q ps qs h t ih=>
   obtain⟨h1,_,h2⟩:=h
   by_cases e:p.1=k
   ·have e':q.1=k:=h1.symm.trans e
    have b:atKey (q::qs) k=some q.2:=by simp[atKey,List.find?_cons,e']
    rw[iU e,b];exact h2
   ·have e':¬q.1=k:=fun z=>e (h1.trans z)
    have b:atKey (q::qs) k=atKey qs k:=by simp[atKey,List.find?_cons,e']
    rw[iT e,b];exact ih
theorem KT.repl{H:Hp}{ax:List (List Key×V)}{xs:List (List Key×Addr×Value)}(r:KT H ax xs)(k:List Key){y:V}{u:Value}(ry:RelV y u):
 KT H (ax.map fun kv=>if kv.1=k then(kv.1,y) else kv) (xs.map (putAt k u)):=by
 induction r with
 |nil=>exact .nil
 | @cons p q ps qs h t ih=>
   rw[List.map_cons,List.map_cons]
   refine .cons ?_ ih
   obtain⟨h1,h2,h3⟩:=h
   unfold putAt
   by_cases e:p.1=k
   ·rw[if_pos e,if_pos (h1.symm.trans e)];exact⟨h1,h2,ry⟩
   ·rw[if_neg e,if_neg (fun z=>e (h1.trans z))];exact⟨h1,h2,h3⟩
theorem KT.put{H:Hp}{ax:List (List Key×V)}{xs:List (List Key×Addr×Value)}(r:KT H ax xs)(k:List Key){b:Addr}{y:V}{u:Value}(hb:H b=some (.tup (k.map kV)))(ry:RelV y u):
 KT H (putK ax k y) (storedH xs k b u):=by
 have e:(ax.any fun kv=>decide (kv.1=k))=(atKey xs k).isSome:=by
  rw[lU,(r.val k).isSome_eq,Option.isSome_map]
 unfold putK storedH
 rw[e]
 by_cases q:(atKey xs k).isSome=true
 ·rw[if_pos q,if_pos q];exact r.repl k ry
 ·rw[if_neg q,if_neg q];exact Paired.snoc r ⟨rfl,hb,ry⟩
theorem KT.keeps{H H':Hp}{ax:List (List Key×V)}{xs:List (List Key×Addr×Value)}(r:KT H ax xs)(ht:∀b ys,H b=some (.tup ys)→H' b=some (.tup ys)):KT H' ax xs:=
 Paired.mapP r fun _ _ z=>⟨z.1,ht _ _ z.2.1,z.2.2⟩
section
variable{P:Program}{w:World}{H:Hp}{h:Heap}{a:Addr}
theorem z0{u:HO}(ok:HOk P w H h)(e:Rd H a u):ObjOk P w H h a u:=e.ok ok
theorem pH{ax:List (Key×V)}(ok:HOk P w H h)(e:Rd H a (.dK ax)):ax.length≤sizeLine∧(a==sysModules)=false∧∃vs,KV ax vs∧h.DictOf (bz P w) a vs:=
 show ObjOk P w H h a (.dK ax) from z0 ok e
theorem zr{ax:List (Key×V)}(ok:HOk P w H h)(e:H a=some (.dK ax)):ax.length≤sizeLine∧(a==sysModules)=false∧∃vs,KV ax vs∧h.DictOf (bz P w) a vs:=pH ok (.inl e)
theorem ja{ks:List Key}(ok:HOk P w H h)(e:H a=some (.tup (ks.map kV))):(tupleKind (bz P w)).is h ks a:=by
 obtain⟨_,aG,r,o,h1,h2,n,h3⟩:=(show ObjOk P w H h a (.tup (ks.map kV)) from ok a _ e)
 exact⟨o,aG.toArray,n,h1,h2,h3,by simpa using mV r⟩
theorem pJ{ax:List (List Key×V)}(ok:HOk P w H h)(e:Rd H a (.dT ax)):ax.length≤sizeLine∧(a==sysModules)=false∧
 ∃xs,KT H ax xs∧h.DictOfH (tupleKind (bz P w)) a xs:=by
 obtain⟨z,y,xs,r,o,es,ep,h1,h2,h3,h4,h5⟩:=(show ObjOk P w H h a (.dT ax) from z0 ok e)
 refine⟨z,y,xs,r,o,es,ep,h1,h2,h3,h4,fun x hx=>?_,h5⟩
 have all:∀{l:List (List Key×V)}{m:List (List Key×Addr×Value)},KT H l m→∀x∈m,(tupleKind (bz P w)).is h x.1 x.2.1:=by
  intro l m q
  induction q with
  |nil=>intro x hx;exact nomatch hx
  | @cons p q ps qs hq t ih=>
    intro x hx
    rcases List.mem_cons.mp hx with e | hx
    ·subst e
     exact ja ok (by rw[←hq.1];exact hq.2.1)
    ·exact ih x hx
 exact all r x hx
theorem zt{ax:List (List Key×V)}(ok:HOk P w H h)(e:H a=some (.dT ax)):ax.length≤sizeLine∧(a==sysModules)=false∧
 ∃xs,KT H ax xs∧h.DictOfH (tupleKind (bz P w)) a xs:=pJ ok (.inl e)
end
def lY(H:Hp)(a:Addr)(y:V)(r:Option V):Prop:=
 (∃ax k,Rd H a (.dK ax)∧y=kV k∧r=iS ax k)∨∃ax k b,Rd H a (.dT ax)∧y= .ref b∧H b=some (.tup (k.map kV))∧r=iS ax k
def DPut(H:Hp)(a:Addr)(y v:V)(H':Hp):Prop:=
 (∃ax k,H a=some (.dK ax)∧y=kV k∧ax.length<sizeLine∧H'=upd H a (.dK (putK ax k v)))∨
 ∃ax k b,H a=some (.dT ax)∧y= .ref b∧H b=some (.tup (k.map kV))∧ax.length<sizeLine∧H'=upd H a (.dT (putK ax k v))
theorem DPut.k{H:Hp}{a:Addr}{ax:List (Key×V)}{k:Key}{v:V}(e:H a=some (.dK ax))(hl:ax.length<sizeLine):DPut H a (kV k) v (upd H a (.dK (putK ax k v))):= .inl ⟨ax,k,e,rfl,hl,rfl⟩
theorem DPut.t{H:Hp}{a b:Addr}{ax:List (List Key×V)}{k:List Key}{v:V}(e:H a=some (.dT ax))(eb:H b=some (.tup (k.map kV)))(hl:ax.length<sizeLine):
 DPut H a (.ref b) v (upd H a (.dT (putK ax k v))):= .inr ⟨ax,k,b,e,rfl,eb,hl,rfl⟩
section
variable{X:Cx}{pins:List (Addr×Obj)}{σ:St}{H:Hp}{s:Shared}{a:Addr}{y v:V}{u r:Value}{o:Option V}{A:Around}{E:Value→Shared→Prop}
theorem Inv.big(I:Inv X pins σ H s):sysModules<s.heap.objs.size:=by
 have h:mainGlobals<s.heap.objs.size:=(I.mod.glob.keeps I.bk).lt
 exact Nat.lt_trans (by decide) h
theorem uh{Q:Value→Shared→Prop}(hu:A.units+1<cLine)(I:Inv X pins σ H s)(g:lY H a y (some v))(ry:RelV y u)(h:∀w' s',Inv X pins σ H s'→RelV v w'→Q w' s'):
 wpAny (model X.prog X.w) A (getItem (.ref a) u) Q E s:=by
 rcases g with⟨ax,k,e,ey,l⟩ | ⟨ax,k,b,e,ey,eb,l⟩
 ·subst ey
  obtain⟨z,hd,vs,rel,dd⟩:=pH I.hok e
  obtain⟨w',hw,vf⟩:=RelO.some_of (v:=v) (o:=valueAt vs k) (by rw[l];exact rel.val k)
  exact wpAny_getItem_of (mX ry) dd.mapOf hw (h w' _ (I.tok _) vf)
 ·subst ey
  cases (show u=Value.ref b from ry)
  obtain⟨z,hd,xs,rel,dd⟩:=pJ I.hok e
  obtain⟨w',hw,vf⟩:=RelO.some_of (v:=v) (o:=(atKey xs k).map (·.2)) (by rw[l];exact rel.val k)
  obtain⟨p,hp,Fe⟩:=Option.map_eq_some_iff.mp hw
  refine wpAny_getItem_heap (tupleKind_room_in1 hu) (ja I.hok eb) dd hp ?_
  rw[Fe]
  exact h w' _ (I.tok _) vf
theorem Ct{Q:Value→Shared→Prop}(hu:A.units+1<cLine)(I:Inv X pins σ H s)(g:lY H a y o)(ry:RelV y u)(h:∀s',Inv X pins σ H s'→Q (.bool o.isSome) s'):
 wpAny (model X.prog X.w) A (compareOp .In u (.ref a)) Q E s:=by
 rcases g with⟨ax,k,e,ey,l⟩ | ⟨ax,k,b,e,ey,eb,l⟩
 ·subst ey
  obtain⟨z,hd,vs,rel,dd⟩:=pH I.hok e
  refine wpAny_in_of (mX ry) hd dd.mapOf ?_
  rw[←(rel.val k).isSome_eq,←l]
  exact h _ (I.tok _)
 ·subst ey
  cases (show u=Value.ref b from ry)
  obtain⟨z,hd,xs,rel,dd⟩:=pJ I.hok e
  refine wpAny_in_heap (tupleKind_room_in1 hu) (ja I.hok eb) hd dd ?_
  have q:=(rel.val k).isSome_eq
  rw[Option.isSome_map] at q
  rw[←q,←l]
  exact h _ (I.tok _)
theorem xM{Q:Value→Shared→Prop}(hu:A.units+1<cLine)(I:Inv X pins σ H s)(g:lY H a y o)(ry:RelV y u)(h:∀s',Inv X pins σ H s'→Q (.bool (!o.isSome)) s'):
 wpAny (model X.prog X.w) A (compareOp .NotIn u (.ref a)) Q E s:=by
 rcases g with⟨ax,k,e,ey,l⟩ | ⟨ax,k,b,e,ey,eb,l⟩
 ·subst ey
  obtain⟨z,hd,vs,rel,dd⟩:=pH I.hok e
  refine wpAny_notIn_of (mX ry) hd dd.mapOf ?_
  rw[←(rel.val k).isSome_eq,←l]
  exact h _ (I.tok _)
 ·subst ey
  cases (show u=Value.ref b from ry)
  obtain⟨z,hd,xs,rel,dd⟩:=pJ I.hok e
  refine wpAny_notIn_heap (tupleKind_room_in1 hu) (ja I.hok eb) hd dd ?_
  have q:=(rel.val k).isSome_eq
  rw[Option.isSome_map] at q
  rw[←q,←l]
  exact h _ (I.tok _)
theorem j5{h':Heap}{t':Nat}{ob:HO}(I:Inv X pins σ H s)(mu:Ci (H a))(hs:Heap.SameBut a s.heap h')(he:∃q,h'.get? a=some q)(new:ObjOk X.prog X.w (upd H a ob) h' a ob):
 Inv X pins σ (upd H a ob) {s with heap:=h',toks:=t'}:=
 I.write (x:=a) (e:=a) mu (.inl rfl) (fun b q hb z=>(hs.2 b hb).trans z) he new
theorem vG{P:Program}{w:World}{H':Hp}{h':Heap}{ax:List (Key×V)}{vs:List (Key×Value)}(z:ax.length≤sizeLine)(hd:(a==sysModules)=false)(rel:KV ax vs)(dd:h'.DictOf (bz P w) a vs):
 ObjOk P w H' h' a (.dK ax):=⟨z,hd,vs,rel,dd⟩
theorem uk{H':Hp}{Q:Unit→Shared→Prop}(hu:A.units+1<cLine)(I:Inv X pins σ H s)(g:DPut H a y v H')(ry:RelV y u)(rv:RelV v r)(h:∀s',Inv X pins σ H' s'→Q () s'):
 wpAny (model X.prog X.w) A (setItem (.ref a) u r) Q E s:=by
 rcases g with⟨ax,k,e,ey,l,eH⟩ | ⟨ax,k,b,e,ey,eb,l,eH⟩
 ·subst ey eH
  obtain⟨z,hd,vs,rel,dd⟩:=zr I.hok e
  have hz:vs.length≤sizeLine:=by rw[←rel.length];exact z
  have hl:(putK ax k v).length≤sizeLine:=by have:=dU ax k v;omega
  refine wpAny_setItem_pairs (hsz:=hz) (mX ry) dd fun h' xN hs=>h _ ?_
  have he:∃q,h'.get? a=some q:=let ⟨q,_,_,hq,_⟩:=xN;⟨q,hq⟩
  exact j5 I (by rw[e];exact True.intro) hs he (vG hl hd (rel.put k rv) xN)
 ·subst ey eH
  cases (show u=Value.ref b from ry)
  obtain⟨z,hd,xs,rel,dd⟩:=zt I.hok e
  have hz:xs.length≤sizeLine:=by rw[←Paired.length rel];exact z
  have hl:(putK ax k v).length≤sizeLine:=by have:=dU ax k v;omega
  refine wpAny_setItem_heap (hsz:=hz) (tupleKind_room_in1 hu) (ja I.hok eb) dd fun h' xN hs=>h _ ?_
  obtain⟨q,es,ep,hq,h2,h3,h4,_,h5⟩:=xN
  refine j5 I (by rw[e];exact True.intro) hs ⟨q,hq⟩ ⟨hl,hd,_,(rel.put k eb rv).keeps fun c ys ec=>?_,q,es,ep,hq,h2,h3,h4,h5⟩
  rw[av (zS ec e (fun z=>nomatch z))]
  exact ec
end
section
variable{X:Cx}{pins:List (Addr×Obj)}{σ:St}{H:Hp}{s:Shared}{a:Addr}{ax:List (Key×V)}{k:Key}{u:Value}{A:Around}{E:Value→Shared→Prop}
end
def z_(i:Expr):Prop:=∀ov iv,subscripted i false ov iv=operate [ov,iv] (getItem ov iv)
theorem zf{prog:Program}{w:World}{A:Around}{E:Value→Shared→Prop}{s:Shared}{env:Env}{value slice:Expr}{pos:Pos}{T id:String}{Q:Value→Shared→Prop}
 (hl:typeLookup (.type T) "__getitem__"=pure (some (.builtin id)))(hs:z_ slice)
 (h:wpAny (model prog w) A (eval value env) (fun o s₁=>wpAny (model prog w) A (eval slice env) (fun i s₂=>s₂.TypeIs o T∧wpAny (model prog w) A (getItem o i) Q E s₂) E s₁) E s):
 wpAny (model prog w) A (eval (.Subscript value slice pos) env) Q E s:=by
 refine Subscript_ (wpAny_mono h (fun o s₁ h₁=>wpAny_mono h₁ (fun i s₂ h₂=>?_) fun _ _ x=>x) fun _ _ x=>x)
 obtain⟨hT,h₂⟩:=h₂
 unfold subscriptTail
 refine wpAny_bind ?_
 rw[getitemInPython_of_ne hT.not_modules]
 refine wpAny_bind (wpAny_specialOf hT hl ?_)
 have fin:wpAny (model prog w) A (subscripted slice false o i) (fun r s₃=>wpAny (model prog w) A (letTemporaryGo value o r>>=fun _=>pure r) Q E s₃) E s₂:=by
  rw[hs o i]
  exact wpAny_operating (wpAny_mono h₂ (fun r s₃ h₃=>wpAny_bind (wpAny_letTemporaryGo (wpAny_pure h₃))) fun _ _ x=>x)
 first
  |exact wpAny_pure (wpAny_bind fin)
  |exact wpAny_bind (wpAny_pure (wpAny_bind fin))
  |exact wpAny_bind fin
theorem pG{X:Cx}{pins:List (Addr×Obj)}{σ:St}{H:Hp}{s:Shared}{a:Addr}{y:V}{o:Option V}(I:Inv X pins σ H s)(g:lY H a y o):s.TypeIs (.ref a) "dict":=by
 rcases g with⟨ax,k,e,_,_⟩ | ⟨ax,k,b,e,_,_,_⟩
 ·obtain⟨_,_,vs,_,dd⟩:=pH I.hok e
  exact dd.typeIs
 ·obtain⟨_,_,xs,_,dd⟩:=pJ I.hok e
  exact dd.typeIs
def DR(td ty:TE):TE:=fun σ H Q=>td σ H fun x H1=>ty σ H1 fun y H2=>∃a v,x= .ref a∧lY H2 a y (some v)∧Q v H2
def FW(ty td:TE):TE:=fun σ H Q=>ty σ H fun y H1=>td σ H1 fun x H2=>∃a o,x= .ref a∧lY H2 a y o∧Q (.bl o.isSome) H2
def DL(td ty tv:TE):TS:=fun D σ H=>tv σ H fun v H1=>td σ H1 fun x H2=>ty σ H2 fun y H3=>∃a H4,x= .ref a∧DPut H3 a y v H4∧D.nx σ H4
section
variable{X:Cx}{o i e value:Expr}{pos pos' F_:Pos}{td ty tv:TE}
theorem yN(hu:X.A.units+1<cLine)(ho:PE X o td)(hi:PE X i ty)(hs:z_ i):PE X (.Subscript o i pos) (DR td ty):=by
 intro pins s σ H Q I h
 refine zf PySem.F.slot_dict_getitem.lookup hs (bB (ho pins s σ H _ I h) fun u s1 ⟨x,H1,I1,rx,q1⟩=>bB (hi pins s1 σ H1 _ I1 q1) fun iv s2 ⟨y,H2,I2,ry,a,v,ex,g,q2⟩=>?_)
 subst ex
 obtain rfl:u=Value.ref a:=rx
 exact⟨pG I2 g,uh hu I2 g ry fun w' s3 I3 vf=>⟨v,H2,I3,vf,q2⟩⟩
theorem Bf(hu:X.A.units+1<cLine)(hi:PE X i ty)(ho:PE X o td):PC X .In i o (FW ty td):=by
 intro pins s σ H Q I h
 refine bB (hi pins s σ H _ I h) fun iv s1 ⟨y,H1,I1,ry,q1⟩=>bB (ho pins s1 σ H1 _ I1 q1) fun u s2 ⟨x,H2,I2,rx,a,ov,ex,g,q2⟩=>?_
 subst ex
 obtain rfl:u=Value.ref a:=rx
 exact Ct hu I2 g ry fun s3 I3=>⟨.bl ov.isSome,H2,I3,rfl,q2⟩
theorem yT(hu:X.A.units+1<cLine)(ho:PE X o td)(hi:PE X i ty)(hv:PE X value tv)(hs:swapsWith value (some (.Subscript o i pos')) pos.line X.env=pure false):
 PS X (.Assign [.Subscript o i pos'] value pos) (DL td ty tv):=by
 intro pins s σ H D I h
 refine wpAny_Assign_Subscript (bB (hv pins s σ H _ I h) fun r s1 ⟨v,H1,I1,rv,q1⟩=>bB (ho pins s1 σ H1 _ I1 q1) fun u s2 ⟨x,H2,I2,rx,q2⟩=>bB (hi pins s2 σ H2 _ I2 q2) fun iv s3 ⟨y,H3,I3,ry,a,H4,ex,g,q3⟩=>?_) hs
 subst ex
 obtain rfl:u=Value.ref a:=rx
 exact uk hu I3 g ry rv fun s4 I4=>⟨σ,H4,I4,q3⟩
end
theorem pI{P:Program}{w:World}{H:Hp}(h:Heap)(hb:sysModules<h.objs.size):ObjOk P w H (h.push {cls:= .type "dict",data:= .dict #[]}) h.objs.size (.dT []):=
 ⟨Nat.zero_le _,beq_eq_false_iff_ne.mpr (Ne.symm (Nat.ne_of_lt hb)),[], .nil,_,#[],0,Heap.get?_push_size _ rfl,⟨rfl,rfl,rfl⟩,rfl,rfl,List.nodup_nil⟩
def BU:TE:=fun _ H Q=>∀p,H p=none→Q (.ref p) (upd H p (.dT []))
section
variable{X:Cx}{pos:Pos}
theorem wK:PE X (.Dict [] [] pos) BU:=fun pins s σ H Q I h=>
 wpAny_Dict_empty ⟨.ref s.heap.objs.size,_,I.laid (a:=s.heap.objs.size) (o:= .dT []) (t':=s.toks) (fun _ _ q=>Heap.get?_push_of_some _ q) (Nat.le_refl _) (pI s.heap I.big),rfl,h _ (I.hok.fresh (Nat.le_refl _))⟩
end
def xm:List (TE×TE)→St→Hp→(List (V×V)→Hp→Prop)→Prop
 |[],_,H,Q=>Q [] H
 |(tk,tv)::r,σ,H,Q=>tk σ H fun x H1=>tv σ H1 fun y H2=>xm r σ H2 fun ps H3=>Q ((x,y)::ps) H3
abbrev VV:List (V×V)→List (Value×Value)→Prop:=Paired fun p q=>RelV p.1 q.1∧RelV p.2 q.2
def Ey(X:Cx)(pos:Pos)(keys:List (Option Expr))(values:List Expr)(Ep:List (TE×TE)):Prop:=
 ∀(pins:List (Addr×Obj)) (s:Shared) (σ:St) (H:Hp) (Q:List (V×V)→Hp→Prop),Inv X pins σ H s→xm Ep σ H Q→
  wpAny (model X.prog X.w) X.A (evalPairs (pairTrees keys values X.env pos)) (fun vs s'=>∃ps H',Inv X pins σ H' s'∧VV ps vs∧Q ps H') X.xe s
theorem yS{X:Cx}{pos:Pos}:Ey X pos [] [] []:=fun pins s σ H Q I h=>pairTrees_nil_walk ⟨[],H,I, .nil,h⟩
theorem wM{X:Cx}{pos:Pos}{k v:Expr}{ks:List (Option Expr)}{vs:List Expr}{tk tv:TE}{Ep:List (TE×TE)}(hk:PE X k tk)(hv:PE X v tv)(hr:Ey X pos ks vs Ep):
 Ey X pos (some k::ks) (v::vs) ((tk,tv)::Ep):=fun pins s σ H Q I h=>
 pairTrees_cons_walk (bB (hk pins s σ H _ I h) fun u s1 ⟨x,H1,I1,rx,q1⟩=>bB (hv pins s1 σ H1 _ I1 q1) fun w2 s2 ⟨y,H2,I2,ry,q2⟩=>
  bB (hr pins s2 σ H2 _ I2 q2) fun ws s3 ⟨ps,H3,I3,rel,q3⟩=>⟨(x,y)::ps,H3,I3, .cons ⟨rx,ry⟩ rel,q3⟩)
structure M1 (X:Cx) (o:Expr) (m:Str) (apos:Pos) (e:Expr) (bo:Pos):Prop where
 base:attributeBase o m X.env (eval o X.env)=eval o X.env
 Ht:((backTo bo (starEach [e] X.env)).all (fun x=>!x.1)&&(backToKw bo (keywordEach [] X.env)).all (fun x=>x.1.isSome)
  &&decide (([e]:List Expr).length+([]:List Keyword).length+(if ([]:List Keyword).isEmpty then 0 else 1)<30))=true
 line:(apos.endLine==bo.line)=true
 trees:backTo bo (starEach [e] X.env)=[(false,eval e X.env)]
structure M2 (X:Cx) (o:Expr) (m:Str) (apos:Pos) (e f:Expr) (bo:Pos):Prop where
 base:attributeBase o m X.env (eval o X.env)=eval o X.env
 Ht:((backTo bo (starEach [e,f] X.env)).all (fun x=>!x.1)&&(backToKw bo (keywordEach [] X.env)).all (fun x=>x.1.isSome)
  &&decide (([e,f]:List Expr).length+([]:List Keyword).length+(if ([]:List Keyword).isEmpty then 0 else 1)<30))=true
 line:(apos.endLine==bo.line)=true
 trees:backTo bo (starEach [e,f] X.env)=[(false,eval e X.env),(false,eval f X.env)]
section
variable{X:Cx}{pins:List (Addr×Obj)}{σ:St}{H:Hp}{s:Shared}{a:Addr}{y d:V}{u r:Value}{o:Option V}{A:Around}{E:Value→Shared→Prop}
end
section
variable{X:Cx}{o e f:Expr}{apos bo:Pos}{td ty tx:TE}
end
section
variable{X:Cx}{pins:List (Addr×Obj)}{σ:St}{H:Hp}{s:Shared}{a:Addr}{ax:List (Key×V)}{A:Around}{E:Value→Shared→Prop}
end
section
variable{X:Cx}{pins:List (Addr×Obj)}{σ:St}{H:Hp}{s:Shared}{a:Addr}{y:V}{u:Value}{A:Around}{E:Value→Shared→Prop}
end
end L2
namespace L3
open PySem PySem.Spec L2
open PyProof.Rows hiding St
inductive Rs (α:Type) where
 |ok (a:α) | ex (n:Nat)
def M(α:Type):=Option (Rs α)
def M.ret{α:Type}(a:α):M α:=some (.ok a)
def M.bind{α β:Type}(m:M α)(k:α→M β):M β:=match m with
 |none=>none
 |some (.ex n)=>some (.ex n)
 |some (.ok a)=>k a
def M.stuck{α:Type}:M α:=none
def M.raise{α:Type}(n:Nat):M α:=some (.ex n)
instance:Monad M where
 pure:=M.ret
 bind:=M.bind
@[simp] theorem ar{α β:Type}(a:α)(k:α→M β):(M.ret a>>=k)=k a:=rfl
@[simp] theorem Ad{α β:Type}(a:α)(k:α→M β):((pure a:M α)>>=k)=k a:=rfl
@[simp] theorem Ae{α β:Type}(n:Nat)(k:α→M β):(M.raise n>>=k)=M.raise n:=rfl
@[simp] theorem Af{α β:Type}(k:α→M β):((M.stuck:M α)>>=k)=M.stuck:=rfl
theorem M.cs{α:Type}(m:M α):m=M.stuck∨(∃n,m=M.raise n)∨∃a,m=M.ret a:=by
 match m with
 |none=>exact .inl rfl
 |some (.ex n)=>exact .inr (.inl ⟨n,rfl⟩)
 |some (.ok a)=>exact .inr (.inr ⟨a,rfl⟩)
theorem d4{α:Type}{a b:α}(h:M.ret a=M.ret b):a=b:=by
 have h:some (Rs.ok a)=some (Rs.ok b):=h
 cases h
 rfl
theorem fX{α:Type}{a:α}(h:M.stuck=M.ret a):False:=by
 have h:none=some (Rs.ok a):=h
 cases h
theorem wY{α:Type}{n:Nat}{a:α}(h:M.raise n=M.ret a):False:=by
 have h:some (Rs.ex n)=some (Rs.ok a):=h
 cases h
theorem eJ{α β:Type}{m:M α}{k:α→M β}{r:β}(h:(m>>=k)=M.ret r):∃a,m=M.ret a∧k a=M.ret r:=by
 rcases m.cs with e | ⟨n,e⟩ | ⟨a,e⟩
 ·subst e;exact(fX h).elim
 ·subst e;exact(wY h).elim
 ·subst e;exact⟨a,rfl,h⟩
def Ce(h:Heap)(ea D:Addr):Prop:=∃ox,h.get? ea=some ox∧ox.cls= .ref D
def Hk(ea D:Addr):HO:= .ext fun h=>Ce h ea D
inductive D where
 |non | bl (b:Bool) | int (i:Int) | str (x:Str) | raw (v:V) | exc (C:Addr) | scr (l:List Int) | tup (l:List D) | lst (l:List D)
 |dct (ks:List (List Key)) (l:List D) | dci (ks:List Key) (l:List D)
instance:Inhabited D:=⟨.non⟩
def lim:Nat:=4096
theorem c8:lim<sizeLine:=by rw[sizeLine_eq];decide
mutual
def Den(K:W.Frag)(F:Hp):D→V→Prop
 | .non,v=>v= .non
 | .bl b,v=>v= .bl b
 | .int i,v=>v= .int i
 | .str x,v=>v= .str x∧x.length≤lim
 | .raw u,v=>v=u
 | .exc C,v=>∃ea,v= .ref ea∧F ea=some (Hk ea C)
 | .scr ns,v=>∃a,v= .ref a∧SqL K F a (ns.map V.int)∧ns.length≤lim
 | .tup ds,v=>∃a vs,v= .ref a∧F a=some (.tup vs)∧DenL K F ds vs∧ds.length≤lim
 | .lst ds,v=>∃a vs,v= .ref a∧F a=some (.lst vs)∧DenL K F ds vs∧ds.length≤lim
 | .dct ks ds,v=>∃a ob vs,v= .ref a∧F a=some (.frz ob (.dT (ks.zip vs)))∧DenL K F ds vs∧ks.length=ds.length∧ds.length≤lim
 | .dci ks ds,v=>∃a ob vs,v= .ref a∧F a=some (.frz ob (.dK (ks.zip vs)))∧DenL K F ds vs∧ks.length=ds.length∧ds.length≤lim
def DenL(K:W.Frag)(F:Hp):List D→List V→Prop
 |[],vs=>vs=[]
 |d::ds,vs=>∃v r,vs=v::r∧Den K F d v∧DenL K F ds r
end
theorem Same.rd{H H':Hp}{a:Addr}{u:HO}(e:Same H H')(h:Rd H a u):Rd H' a u:=by
 rcases h with h | ⟨o,h⟩
 ·exact .inl (e _ _ h)
 ·exact .inr ⟨o,e _ _ h⟩
theorem Same.tup{K:W.Frag}{H H':Hp}{a:Addr}{xs:List V}(e:Same H H')(h:SqT K H a xs):SqT K H' a xs:=by
 rcases h with h | h
 ·exact .inl (Same.rd e h)
 ·exact .inr h
section
variable{K:W.Frag}{F F':Hp}
mutual
theorem Den.mono(e:Same F F'):∀{d:D}{v:V},Den K F d v→Den K F' d v
 | .non,_,h=>h
 | .bl _,_,h=>h
 | .int _,_,h=>h
 | .str _,_,h=>h
 | .raw _,_,h=>h
 | .exc _,_,⟨a,h1,h2⟩=>⟨a,h1,e _ _ h2⟩
 | .scr _,_,⟨a,h1,h2,h3⟩=>⟨a,h1,Same.seq e h2,h3⟩
 | .tup _,_,⟨a,vs,h1,h2,h3,h4⟩=>⟨a,vs,h1,e _ _ h2,DenL.mono e h3,h4⟩
 | .lst _,_,⟨a,vs,h1,h2,h3,h4⟩=>⟨a,vs,h1,e _ _ h2,DenL.mono e h3,h4⟩
 | .dct _ _,_,⟨a,ob,vs,h1,h2,h3,h4⟩=>⟨a,ob,vs,h1,e _ _ h2,DenL.mono e h3,h4⟩
 | .dci _ _,_,⟨a,ob,vs,h1,h2,h3,h4⟩=>⟨a,ob,vs,h1,e _ _ h2,DenL.mono e h3,h4⟩
theorem DenL.mono(e:Same F F'):∀{ds:List D}{vs:List V},DenL K F ds vs→DenL K F' ds vs
 |[],_,h=>h
 |_::_,_,⟨v,r,h1,h2,h3⟩=>⟨v,r,h1,Den.mono e h2,DenL.mono e h3⟩
end
theorem DenL.nil:DenL K F [] []:=rfl
theorem DenL.cons{d:D}{v:V}{ds:List D}{vs:List V}(h:Den K F d v)(r:DenL K F ds vs):DenL K F (d::ds) (v::vs):=⟨v,vs,rfl,h,r⟩
theorem DenL.len:∀{ds:List D}{vs:List V},DenL K F ds vs→ds.length=vs.length
 |[],_,h=>by cases (show _=_ from h);rfl
 |_::ds,_,⟨v,r,h1,_,h3⟩=>by subst h1;rw[List.length_cons,List.length_cons,DenL.len h3]
theorem DenL.get:∀{ds:List D}{vs:List V}{i:Nat}{d:D},DenL K F ds vs→ds[i]? =some d→∃v,vs[i]? =some v∧Den K F d v
 |[],_,_,_,_,e=>by simp at e
 |d::ds,_,0,_,⟨v,r,h1,h2,h3⟩,e=>by subst h1;simp at e;subst e;exact⟨v,rfl,h2⟩
 |d::ds,_,i+1,_,⟨v,r,h1,h2,h3⟩,e=>by
  subst h1
  obtain⟨w,e1,e2⟩:=DenL.get (i:=i) h3 (by simpa using e)
  exact⟨w,by simpa using e1,e2⟩
theorem DenL.at:∀{ds:List D}{vs:List V}{i:Nat}{v:V},DenL K F ds vs→vs[i]? =some v→∃d,ds[i]? =some d∧Den K F d v
 |[],_,_,_,h,e=>by cases (show _=_ from h);simp at e
 |d::ds,_,0,_,⟨v,r,h1,h2,h3⟩,e=>by subst h1;simp at e;subst e;exact⟨d,rfl,h2⟩
 |d::ds,_,i+1,_,⟨v,r,h1,h2,h3⟩,e=>by
  subst h1
  obtain⟨w,e1,e2⟩:=DenL.at (i:=i) h3 (by simpa using e)
  exact⟨w,by simpa using e1,e2⟩
theorem DenL.append:∀{ds es:List D}{vs ws:List V},DenL K F ds vs→DenL K F es ws→DenL K F (ds++es) (vs++ws)
 |[],_,_,_,h,h'=>by cases (show _=_ from h);exact h'
 |d::ds,_,_,_,⟨v,r,h1,h2,h3⟩,h'=>by subst h1;exact⟨v,_,rfl,h2,DenL.append h3 h'⟩
theorem DenL.take:∀{ds:List D}{vs:List V}(n:Nat),DenL K F ds vs→DenL K F (ds.take n) (vs.take n)
 |_,_,0,_=>by simp[List.take];rfl
 |[],_,_+1,h=>by cases (show _=_ from h);rfl
 |d::ds,_,n+1,⟨v,r,h1,h2,h3⟩=>by subst h1;exact⟨v,_,rfl,h2,DenL.take n h3⟩
theorem DenL.drop:∀{ds:List D}{vs:List V}(n:Nat),DenL K F ds vs→DenL K F (ds.drop n) (vs.drop n)
 |_,_,0,h=>by simpa using h
 |[],_,_+1,h=>by cases (show _=_ from h);rfl
 |d::ds,_,n+1,⟨v,r,h1,h2,h3⟩=>by subst h1;exact DenL.drop n h3
theorem DenL.reverse:∀{ds:List D}{vs:List V},DenL K F ds vs→DenL K F ds.reverse vs.reverse
 |[],_,h=>by cases (show _=_ from h);rfl
 |d::ds,_,⟨v,r,h1,h2,h3⟩=>by
  subst h1
  rw[List.reverse_cons,List.reverse_cons]
  exact DenL.append (DenL.reverse h3) (.cons h2 .nil)
theorem DenL.ints(ns:List Int):DenL K F (ns.map D.int) (ns.map V.int):=by
 induction ns with
 |nil=>rfl
 |cons n ns ih=>exact .cons rfl ih
end
structure Ext (F H F' H':Hp):Prop where
 hh:Same H H'
 ff:Same F F'
 fh:Same F' H'
 new:∀a,H a≠none→F' a=F a∨∃ts,H a=some (.tup ts)
theorem Ext.old{F H F' H':Hp}(e:Ext F H F' H'){a:Addr}{o:HO}(h:H a=some o)(hn:∀ts,o≠ .tup ts):F' a=F a:=by
 rcases e.new a (by rw[h];exact fun z=>nomatch z) with q | ⟨ts,q⟩
 ·exact q
 ·rw[h] at q;cases q;exact absurd rfl (hn ts)
theorem Ext.refl{F H:Hp}(h:Same F H):Ext F H F H:=⟨Same.refl _,Same.refl _,h,fun _ _=> .inl rfl⟩
theorem Ext.trans{F H F' H' F'' H'':Hp}(a:Ext F H F' H')(b:Ext F' H' F'' H''):Ext F H F'' H'':=
 ⟨a.hh.trans b.hh,a.ff.trans b.ff,b.fh,fun c hc=>by
  have:H' c≠none:=by
   cases q:H c with
   |none=>exact absurd q hc
   |some o=>rw[a.hh c o q];exact fun z=>nomatch z
  rcases a.new c hc with p | p
  ·rcases b.new c this with q | ⟨ts,q⟩
   ·exact .inl (q.trans p)
   ·cases z:H c with
    |none=>exact absurd z hc
    |some o=>
     rw[a.hh c o z] at q
     exact .inr ⟨ts,q⟩
  ·exact .inr p⟩
theorem Ext.lay{F H:Hp}{a:Addr}{o:HO}(h:Same F H)(n:H a=none):Ext F H (upd F a o) (upd H a o):=by
 have nf:F a=none:=Same.free h n
 refine⟨fun b u e=>?_,fun b u e=>?_,fun b u e=>?_,fun b hb=>?_⟩
 ·rw[av (bu e n)];exact e
 ·rw[av (bu e nf)];exact e
 ·by_cases q:b=a
  ·subst q;rw[aE] at e⊢;exact e
  ·rw[av q] at e⊢;exact h b u e
 ·exact .inl (av fun z=>hb (by rw[z];exact n))
theorem Ext.free{F H:Hp}{a:Addr}{o:HO}(h:Same F H)(n:H a=none):Ext F H F (upd H a o):=
 ⟨fun b u e=>by rw[av (bu e n)];exact e,Same.refl _,fun b u e=>by rw[av (bu (h b u e) n)];exact h b u e,fun _ _=> .inl rfl⟩
theorem Ext.tup{F H:Hp}{a:Addr}{ts:List V}(h:Same F H)(e:H a=some (.tup ts)):Ext F H (upd F a (.tup ts)) H:=by
 refine⟨Same.refl _,fun b u q=>?_,fun b u q=>?_,fun b hb=>?_⟩
 ·by_cases z:b=a
  ·subst z;rw[aE,←e];exact h b u q
  ·rw[av z];exact q
 ·by_cases z:b=a
  ·subst z;rw[aE] at q;rw[e];exact q
  ·rw[av z] at q;exact h b u q
 ·by_cases z:b=a
  ·subst z;exact .inr ⟨ts,e⟩
  ·exact .inl (av z)
def WP(K:W.Frag)(Xw:Nat→Hp→Prop)(F H:Hp)(m:M D)(Q:VK):Prop:=
 match m with
 |none=>False
 |some (.ok d)=>∀v H' F',Ext F H F' H'→Den K F' d v→Q v H'
 |some (.ex n)=>∀F' H',Ext F H F' H'→Xw n H'
def WPL(K:W.Frag)(Xw:Nat→Hp→Prop)(F H:Hp)(m:M (List D))(Q:List V→Hp→Prop):Prop:=
 match m with
 |none=>False
 |some (.ok ds)=>∀vs H' F',Ext F H F' H'→DenL K F' ds vs→Q vs H'
 |some (.ex n)=>∀F' H',Ext F H F' H'→Xw n H'
def WPB(Xw:Nat→Hp→Prop)(F H:Hp)(m:M Bool)(Q:Bool→Hp→Prop):Prop:=
 match m with
 |none=>False
 |some (.ok b)=>∀H' F',Ext F H F' H'→Q b H'
 |some (.ex n)=>∀F' H',Ext F H F' H'→Xw n H'
section
variable{K:W.Frag}{Xw:Nat→Hp→Prop}{F F' H H':Hp}{Q:VK}
theorem WP.ext{m:M D}(e:Ext F H F' H')(h:WP K Xw F H m Q):WP K Xw F' H' m Q:=by
 match m,h with
 |none,h=>exact h
 |some (.ok d),h=>exact fun v H2 F2 e2 q=>h v H2 F2 (e.trans e2) q
 |some (.ex n),h=>exact fun F2 H2 e2=>h F2 H2 (e.trans e2)
theorem WPL.ext{m:M (List D)}{Q:List V→Hp→Prop}(e:Ext F H F' H')(h:WPL K Xw F H m Q):WPL K Xw F' H' m Q:=by
 match m,h with
 |none,h=>exact h
 |some (.ok d),h=>exact fun v H2 F2 e2 q=>h v H2 F2 (e.trans e2) q
 |some (.ex n),h=>exact fun F2 H2 e2=>h F2 H2 (e.trans e2)
theorem WPB.ext{m:M Bool}{Q:Bool→Hp→Prop}(e:Ext F H F' H')(h:WPB Xw F H m Q):WPB Xw F' H' m Q:=by
 match m,h with
 |none,h=>exact h
 |some (.ok d),h=>exact fun H2 F2 e2=>h H2 F2 (e.trans e2)
 |some (.ex n),h=>exact fun F2 H2 e2=>h F2 H2 (e.trans e2)
theorem WP.fin{d:D}{v:V}(h:WP K Xw F H (M.ret d) Q)(e:Ext F H F' H')(q:Den K F' d v):Q v H':=h v H' F' e q
theorem WP.now{d:D}{v:V}(h:WP K Xw F H (M.ret d) Q)(s:Same F H)(q:Den K F d v):Q v H:=h v H F (Ext.refl s) q
theorem WP.bind{m:M D}{k:D→M D}(h:WP K Xw F H (m>>=k) Q):WP K Xw F H m fun v H1=>∃F1 d,Ext F H F1 H1∧Den K F1 d v∧WP K Xw F1 H1 (k d) Q:=by
 match m,h with
 |none,h=>exact h
 |some (.ok d),h=>exact fun v H2 F2 e2 q=>⟨F2,d,e2,q,WP.ext e2 (show WP K Xw F H (k d) Q from h)⟩
 |some (.ex n),h=>exact h
theorem WP.bindL{m:M (List D)}{k:List D→M D}(h:WP K Xw F H (m>>=k) Q):WPL K Xw F H m fun vs H1=>∃F1 ds,Ext F H F1 H1∧DenL K F1 ds vs∧WP K Xw F1 H1 (k ds) Q:=by
 match m,h with
 |none,h=>exact h
 |some (.ok d),h=>exact fun v H2 F2 e2 q=>⟨F2,d,e2,q,WP.ext e2 (show WP K Xw F H (k d) Q from h)⟩
 |some (.ex n),h=>exact h
theorem WPB.bind{m:M D}{k:D→M Bool}{Q:Bool→Hp→Prop}(h:WPB Xw F H (m>>=k) Q):WP K Xw F H m fun v H1=>∃F1 d,Ext F H F1 H1∧Den K F1 d v∧WPB Xw F1 H1 (k d) Q:=by
 match m,h with
 |none,h=>exact h
 |some (.ok d),h=>exact fun v H2 F2 e2 q=>⟨F2,d,e2,q,WPB.ext e2 (show WPB Xw F H (k d) Q from h)⟩
 |some (.ex n),h=>exact h
theorem WPB.bindB{m:M Bool}{k:Bool→M Bool}{Q:Bool→Hp→Prop}(h:WPB Xw F H (m>>=k) Q):WPB Xw F H m fun b H1=>∃F1,Ext F H F1 H1∧WPB Xw F1 H1 (k b) Q:=by
 match m,h with
 |none,h=>exact h
 |some (.ok d),h=>exact fun H2 F2 e2=>⟨F2,e2,WPB.ext e2 (show WPB Xw F H (k d) Q from h)⟩
 |some (.ex n),h=>exact h
theorem WPL.bind{m:M D}{k:D→M (List D)}{Q:List V→Hp→Prop}(h:WPL K Xw F H (m>>=k) Q):WP K Xw F H m fun v H1=>∃F1 d,Ext F H F1 H1∧Den K F1 d v∧WPL K Xw F1 H1 (k d) Q:=by
 match m,h with
 |none,h=>exact h
 |some (.ok d),h=>exact fun v H2 F2 e2 q=>⟨F2,d,e2,q,WPL.ext e2 (show WPL K Xw F H (k d) Q from h)⟩
 |some (.ex n),h=>exact h
theorem WPL.bindL{m:M (List D)}{k:List D→M (List D)}{Q:List V→Hp→Prop}(h:WPL K Xw F H (m>>=k) Q):WPL K Xw F H m fun vs H1=>∃F1 ds,Ext F H F1 H1∧DenL K F1 ds vs∧WPL K Xw F1 H1 (k ds) Q:=by
 match m,h with
 |none,h=>exact h
 |some (.ok d),h=>exact fun v H2 F2 e2 q=>⟨F2,d,e2,q,WPL.ext e2 (show WPL K Xw F H (k d) Q from h)⟩
 |some (.ex n),h=>exact h
theorem WP.mono{m:M D}{Q':VK}(h:WP K Xw F H m Q)(k:∀v H',Q v H'→Q' v H'):WP K Xw F H m Q':=by
 match m,h with
 |none,h=>exact h
 |some (.ok d),h=>exact fun v H2 F2 e2 q=>k _ _ (h v H2 F2 e2 q)
 |some (.ex n),h=>exact h
theorem WPL.mono{m:M (List D)}{Q Q':List V→Hp→Prop}(h:WPL K Xw F H m Q)(k:∀v H',Q v H'→Q' v H'):WPL K Xw F H m Q':=by
 match m,h with
 |none,h=>exact h
 |some (.ok d),h=>exact fun v H2 F2 e2 q=>k _ _ (h v H2 F2 e2 q)
 |some (.ex n),h=>exact h
theorem WPB.mono{m:M Bool}{Q Q':Bool→Hp→Prop}(h:WPB Xw F H m Q)(k:∀v H',Q v H'→Q' v H'):WPB Xw F H m Q':=by
 match m,h with
 |none,h=>exact h
 |some (.ok d),h=>exact fun H2 F2 e2=>k _ _ (h H2 F2 e2)
 |some (.ex n),h=>exact h
end
inductive C where
 |lst (l:List D) | dct (ks:List (List Key)) (l:List D) | dci (ks:List Key) (l:List D)
def C.d:C→D
 | .lst ds=> .lst ds
 | .dct ks ds=> .dct ks ds
 | .dci ks ds=> .dci ks ds
inductive Sl where
 |fz (d:D) | ow (c:C)
abbrev aW:=List (Option Sl)
def DenC(K:W.Frag)(F:Hp):C→HO→Prop
 | .lst ds,o=>∃vs,o= .lst vs∧DenL K F ds vs∧ds.length≤lim
 | .dct ks ds,o=>∃vs,o= .dT (ks.zip vs)∧DenL K F ds vs∧ks.length=ds.length∧ds.length≤lim
 | .dci ks ds,o=>∃vs,o= .dK (ks.zip vs)∧DenL K F ds vs∧ks.length=ds.length∧ds.length≤lim
theorem DenC.mono{K:W.Frag}{F F':Hp}(e:Same F F'):∀{c:C}{o:HO},DenC K F c o→DenC K F' c o
 | .lst _,_,⟨vs,h1,h2,h3⟩=>⟨vs,h1,DenL.mono e h2,h3⟩
 | .dct _ _,_,⟨vs,h1,h2,h3⟩=>⟨vs,h1,DenL.mono e h2,h3⟩
 | .dci _ _,_,⟨vs,h1,h2,h3⟩=>⟨vs,h1,DenL.mono e h2,h3⟩
theorem DenC.notup{K:W.Frag}{F:Hp}:∀{c:C}{o:HO},DenC K F c o→∀ts,o≠ .tup ts
 | .lst _,_,⟨_,h1,_⟩,ts,z=>by rw[h1] at z;cases z
 | .dct _ _,_,⟨_,h1,_⟩,ts,z=>by rw[h1] at z;cases z
 | .dci _ _,_,⟨_,h1,_⟩,ts,z=>by rw[h1] at z;cases z
def j1(ob:Obj):HO→HO
 | .dT ax=> .frz ob (.dT ax)
 | .dK ax=> .frz ob (.dK ax)
 |o=>o
theorem DenC.den{K:W.Frag}{F F':Hp}{a:Addr}{ob:Obj}:∀{c:C}{o:HO},DenC K F c o→Same F F'→F' a=some (j1 ob o)→Den K F' c.d (.ref a)
 | .lst _,_,⟨vs,h1,h2,h3⟩,e,q=>by subst h1;exact⟨a,vs,rfl,q,DenL.mono e h2,h3⟩
 | .dct _ _,_,⟨vs,h1,h2,h3⟩,e,q=>by subst h1;exact⟨a,ob,vs,rfl,q,DenL.mono e h2,h3⟩
 | .dci _ _,_,⟨vs,h1,h2,h3⟩,e,q=>by subst h1;exact⟨a,ob,vs,rfl,q,DenL.mono e h2,h3⟩
def DenO(K:W.Frag)(F H:Hp):Sl→V→Prop
 | .fz d,v=>Den K F d v
 | .ow c,v=>∃a o,v= .ref a∧H a=some o∧F a=none∧DenC K F c o
structure StE (K:W.Frag) (F H:Hp) (σ:St) (ρ:aW):Prop where
 fh:Same F H
 den:∀(i:Nat) (sl:Sl),ρ[i]? =some (some sl)→∃v,σ[i]? =some (some v)∧DenO K F H sl v
theorem DenO.ext{K:W.Frag}{F H F' H':Hp}(e:Ext F H F' H'):∀{sl:Sl}{v:V},DenO K F H sl v→DenO K F' H' sl v
 | .fz _,_,h=>Den.mono e.ff h
 | .ow _,_,⟨a,o,h1,h2,h3,h4⟩=>⟨a,o,h1,e.hh _ _ h2,by rw[e.old h2 h4.notup];exact h3,DenC.mono e.ff h4⟩
theorem StE.ext{K:W.Frag}{F H F' H':Hp}{σ:St}{ρ:aW}(s:StE K F H σ ρ)(e:Ext F H F' H'):StE K F' H' σ ρ:=
 ⟨e.fh,fun i sl q=>let ⟨v,h1,h2⟩:=s.den i sl q;⟨v,h1,h2.ext e⟩⟩
abbrev DE:=aW→M D
abbrev DT:=aW→M Bool
abbrev DA:=aW→M (List D)
def tD(K:W.Frag)(Xw:Nat→Hp→Prop)(δ:DE):TE:=fun σ H Q=>∃F ρ,StE K F H σ ρ∧WP K Xw F H (δ ρ) Q
def FX(K:W.Frag)(Xw:Nat→Hp→Prop)(δ:DT):TT:=fun σ H Q=>∃F ρ,StE K F H σ ρ∧WPB Xw F H (δ ρ) Q
def He(K:W.Frag)(Xw:Nat→Hp→Prop)(δ:DA):TA:=fun σ H Q=>∃F ρ,StE K F H σ ρ∧WPL K Xw F H (δ ρ) Q
def PD(X:Cx)(Xw:Nat→Hp→Prop)(e:Expr)(δ:DE):Prop:=PE X e (tD X.K Xw δ)
def lZ(X:Cx)(Xw:Nat→Hp→Prop)(e:Expr)(δ:DT):Prop:=PT X e (FX X.K Xw δ)
def mr(X:Cx)(Xw:Nat→Hp→Prop)(es:List Expr)(δ:DA):Prop:=PA X es (He X.K Xw δ)
theorem PE.weak{X:Cx}{e:Expr}{t t':TE}(h:PE X e t)(k:∀σ H Q,t' σ H Q→t σ H Q):PE X e t':=fun pins s σ H Q I w=>h pins s σ H Q I (k σ H Q w)
theorem PT.weak{X:Cx}{e:Expr}{t t':TT}(h:PT X e t)(k:∀σ H Q,t' σ H Q→t σ H Q):PT X e t':=fun pins s σ H Q I w=>h pins s σ H Q I (k σ H Q w)
theorem PA.weak{X:Cx}{e:List Expr}{t t':TA}(h:PA X e t)(k:∀σ H Q,t' σ H Q→t σ H Q):PA X e t':=fun pos pins s σ H Q I w=>h pos pins s σ H Q I (k σ H Q w)
def dV(i:Nat):DE:=fun ρ=>match ρ[i]? with
 |some (some (.fz d))=>M.ret d
 |_=>M.stuck
def dC(d:D):DE:=fun _=>M.ret d
def d1(g:D→M D)(a:DE):DE:=fun ρ=>a ρ>>=g
def d2(g:D→D→M D)(a b:DE):DE:=fun ρ=>a ρ>>=fun x=>b ρ>>=fun y=>g x y
def aN:DA:=fun _=>M.ret []
def aC(a:DE)(r:DA):DA:=fun ρ=>a ρ>>=fun x=>r ρ>>=fun xs=>M.ret (x::xs)
def dA(g:List D→M D)(a:DA):DE:=fun ρ=>a ρ>>=g
def vb:D→M Bool
 | .bl b=>M.ret b
 |_=>M.stuck
def bN(a:DE):DT:=fun ρ=>a ρ>>=vb
def i6(a b:DT):DT:=fun ρ=>a ρ>>=fun x=>if x then b ρ else M.ret false
def gK(a b:DT):DT:=fun ρ=>a ρ>>=fun x=>if x then M.ret true else b ρ
def a9(a:DT):DT:=fun ρ=>a ρ>>=fun x=>M.ret (!x)
def cJ(a b:DE):DE:=fun ρ=>a ρ>>=fun x=>vb x>>=fun c=>if c then b ρ else M.ret (.bl false)
def zp(a:DE):DE:=fun ρ=>a ρ>>=fun x=>vb x>>=fun c=>M.ret (.bl (!c))
section
variable{X:Cx}{Xw:Nat→Hp→Prop}{a b:Expr}{δa δb:DE}{pos:Pos}
theorem ab{i:Nat}{x:Str}(h:PE X (.Name x pos) (qL i)):PD X Xw (.Name x pos) (dV i):=PE.weak h fun σ H Q ⟨F,ρ,s,w⟩=>by
 unfold dV at w
 split at w
 ·rename_i d e
  obtain⟨v,h1,h2⟩:=s.den i _ e
  exact⟨v,h1,WP.now w s.fh h2⟩
 ·exact w.elim
theorem eB{e:Expr}{d:D}{v:V}(h:PE X e (tC v))(hd:∀F,Den X.K F d v):PD X Xw e (dC d):=PE.weak h fun σ H Q ⟨F,ρ,s,w⟩=>WP.now w s.fh (hd F)
theorem aj{i j}:PD X Xw (.Constant (.int i) j pos) (dC (.int i)):=eB Bp fun _=>rfl
theorem bQ{i j}:PD X Xw (.Constant (.bool i) j pos) (dC (.bl i)):=eB Ds fun _=>rfl
theorem r9{j}:PD X Xw (.Constant .none j pos) (dC .non):=eB Bq fun _=>rfl
theorem lx{x j}(h:x.length≤lim:=by decide):PD X Xw (.Constant (.str x) j pos) (dC (.str x)):=eB Bu fun _=>⟨rfl,h⟩
def pe(K:W.Frag)(r:R2)(g:D→D→M D):Prop:=∀(Xw:Nat→Hp→Prop) (F H:Hp) (x y:V) (dx dy:D) (Q:VK),Same F H→Den K F dx x→Den K F dy y→WP K Xw F H (g dx dy) Q→r x y H Q
theorem o5{r:R2}{g:D→D→M D}(hg:pe X.K r g):∀σ H Q,tD X.K Xw (d2 g δa δb) σ H Q→DX r (tD X.K Xw δa) (tD X.K Xw δb) σ H Q:=fun σ H Q ⟨F,ρ,s,w⟩=>by
 refine⟨F,ρ,s,WP.mono (WP.bind w) fun v H1 ⟨F1,d,e1,q1,w1⟩=>?_⟩
 refine⟨F1,ρ,s.ext e1,WP.mono (WP.bind w1) fun u H2 ⟨F2,d',e2,q2,w2⟩=>?_⟩
 exact hg Xw F2 H2 v u d d' Q e2.fh (Den.mono e2.ff q1) q2 w2
theorem lu{op:Operator}{r:R2}{g:D→D→M D}(ho:OpR X (binaryOp op) r)(hg:pe X.K r g)(ha:PD X Xw a δa)(hb:PD X Xw b δb):PD X Xw (.BinOp a op b pos) (d2 g δa δb):=
 PE.weak (Du ho ha hb) (o5 hg)
theorem ll{op:CmpOp}{r:R2}{g:D→D→M D}(ho:OpR X (compareOp op) r)(hg:pe X.K r g)(ha:PD X Xw a δa)(hb:PD X Xw b δb)(hm:behindInMarks op b=false:=by first | exact wm _ | rfl):PD X Xw (.Compare a [op] [b] pos) (d2 g δa δb):=
 PE.weak (yM ho ha hb hm) (o5 hg)
theorem gf{op:CmpOp}{r:R2}{g:D→D→M D}(ho:OpR X (compareOp op) r)(hg:pe X.K r g)(ha:PD X Xw a δa)(hb:PD X Xw b δb)(hm:behindInMarks op b=false:=by first | exact wm _ | rfl):lZ X Xw (.Compare a [op] [b] pos) (bN (d2 g δa δb)):=
 PT.weak (yW ho ha hb hm) fun σ H Q ⟨F,ρ,s,w⟩=>by
  refine o5 hg σ H _ ⟨F,ρ,s,WP.mono (WPB.bind w) fun v H1 ⟨F1,d,e1,q1,w1⟩=>?_⟩
  cases d with
  |bl k=>exact⟨k,q1,w1 _ _ (Ext.refl e1.fh)⟩
  |_=>exact w1.elim
theorem tK{r:R2}{g:D→D→M D}(hr:Cg X r)(hg:pe X.K r g)(ha:PD X Xw a δa)(hb:PD X Xw b δb)(hs:fZ b:=by intro _ _;rfl):PD X Xw (.Subscript a b pos) (d2 g δa δb):=
 PE.weak (Dt hr ha hb hs) (o5 hg)
theorem ae:mr X Xw [] aN:=PA.weak r0 fun σ H Q ⟨F,ρ,s,w⟩=>w [] H F (Ext.refl s.fh) rfl
theorem aa{es:List Expr}{δs:DA}(ha:PD X Xw a δa)(hr:mr X Xw es δs)(hs:starEach (a::es) X.env=(false,eval a X.env)::starEach es X.env:=by rfl):mr X Xw (a::es) (aC δa δs):=
 PA.weak (tH ha hr hs) fun σ H Q ⟨F,ρ,s,w⟩=>by
  refine⟨F,ρ,s,WP.mono (WPL.bind w) fun v H1 ⟨F1,d,e1,q1,w1⟩=>?_⟩
  refine⟨F1,ρ,s.ext e1,WPL.mono (WPL.bindL w1) fun vs H2 ⟨F2,ds,e2,q2,w2⟩=>?_⟩
  exact w2 _ _ _ (Ext.refl e2.fh) (.cons (Den.mono e2.ff q1) q2)
def dX(ds:List D):M D:=if ds.length≤lim then M.ret (.tup ds) else M.stuck
def dW(ds:List D):M D:=if ds.length≤lim then M.ret (.lst ds) else M.stuck
theorem rN{ds:List D}{f:List D→D}{Q:VK}{F H:Hp}(w:WP X.K Xw F H (if ds.length≤lim then M.ret (f ds) else M.stuck) Q):ds.length≤lim∧WP X.K Xw F H (M.ret (f ds)) Q:=by
 split at w
 ·rename_i h;exact⟨h,w⟩
 ·exact w.elim
theorem jg{x1}{es:List Expr}{δs:DA}(h:mr X Xw es δs):PD X Xw (.Tuple es x1 pos) (dA dX δs):=PE.weak (Bv h) fun σ H Q ⟨F,ρ,s,w⟩=>by
 refine⟨F,ρ,s,WPL.mono (WP.bindL w) fun vs H1 ⟨F1,ds,e1,q1,w1⟩=>?_⟩
 obtain⟨hl,w1⟩:=rN (X:=X) w1
 have hv:=q1.len
 refine⟨by have:=c8;omega,fun p hp=>WP.fin w1 (Ext.lay e1.fh hp) ⟨p,vs,rfl,aE,DenL.mono (Ext.lay e1.fh hp).ff q1,hl⟩⟩
theorem lq{es:List Expr}{δs:DA}(h:mr X Xw es δs):PD X Xw (.List es pos) (dA dW δs):=PE.weak (r_ h) fun σ H Q ⟨F,ρ,s,w⟩=>by
 refine⟨F,ρ,s,WPL.mono (WP.bindL w) fun vs H1 ⟨F1,ds,e1,q1,w1⟩=>?_⟩
 obtain⟨hl,w1⟩:=rN (X:=X) w1
 have hv:=q1.len
 refine⟨by have:=c8;omega,fun p hp=>WP.fin w1 (Ext.lay e1.fh hp) ⟨p,vs,rfl,aE,DenL.mono (Ext.lay e1.fh hp).ff q1,hl⟩⟩
end
def ItD(K:W.Frag)(F:Hp)(J:It)(ds:List D):Prop:=∀(F' H':Hp) (i:Nat),Same F F'→Same F' H'→
 (∀d,ds[i]? =some d→J.go i H'∧∀x H'',J.yld i H' x H''→∃F'',Ext F' H' F'' H''∧Den K F'' d x)∧(ds.length≤i→J.stop i H')
theorem ItD.mono{K:W.Frag}{F F1:Hp}{J:It}{ds:List D}(h:ItD K F J ds)(e:Same F F1):ItD K F1 J ds:=fun F' H' i s1 s2=>h F' H' i (e.trans s1) s2
def WPI(K:W.Frag)(Xw:Nat→Hp→Prop)(F H:Hp)(m:M (List D))(R:It→Hp→Prop):Prop:=
 match m with
 |none=>False
 |some (.ok ds)=>∀J H' F',Ext F H F' H'→ItD K F' J ds→R J H'
 |some (.ex n)=>∀F' H',Ext F H F' H'→Xw n H'
def IP(K:W.Frag)(Xw:Nat→Hp→Prop)(δ:DA):TI:=fun σ H R=>∃F ρ,StE K F H σ ρ∧WPI K Xw F H (δ ρ) R
def t5(X:Cx)(Xw:Nat→Hp→Prop)(tg iter:Expr)(δ:DA):Prop:=PI X tg iter (IP X.K Xw δ)
theorem PI.weak{X:Cx}{tg e:Expr}{t t':TI}(h:PI X tg e t)(k:∀σ H Q,t' σ H Q→t σ H Q):PI X tg e t':=fun pins s σ H Q I w=>h pins s σ H Q I (k σ H Q w)
theorem WPI.bind{K:W.Frag}{Xw:Nat→Hp→Prop}{F H:Hp}{m:M D}{k:D→M (List D)}{R:It→Hp→Prop}(h:WPI K Xw F H (m>>=k) R):
 WP K Xw F H m fun v H1=>∃F1 d,Ext F H F1 H1∧Den K F1 d v∧WPI K Xw F1 H1 (k d) R:=by
 match m,h with
 |none,h=>exact h
 |some (.ok d),h=>
  refine fun v H2 F2 e2 q=>⟨F2,d,e2,q,?_⟩
  have h:WPI K Xw F H (k d) R:=h
  show WPI K Xw F2 H2 (k d) R
  match k d,h with
  |none,h=>exact h
  |some (.ok ds),h=>exact fun J H3 F3 e3 q3=>h J H3 F3 (e2.trans e3) q3
  |some (.ex n),h=>exact fun F3 H3 e3=>h F3 H3 (e2.trans e3)
 |some (.ex n),h=>exact h
theorem WPI.bindL{K:W.Frag}{Xw:Nat→Hp→Prop}{F H:Hp}{m:M (List D)}{k:List D→M (List D)}{R:It→Hp→Prop}(h:WPI K Xw F H (m>>=k) R):
 WPL K Xw F H m fun v H1=>∃F1 d,Ext F H F1 H1∧DenL K F1 d v∧WPI K Xw F1 H1 (k d) R:=by
 match m,h with
 |none,h=>exact h
 |some (.ok d),h=>
  refine fun v H2 F2 e2 q=>⟨F2,d,e2,q,?_⟩
  have h:WPI K Xw F H (k d) R:=h
  show WPI K Xw F2 H2 (k d) R
  match k d,h with
  |none,h=>exact h
  |some (.ok ds),h=>exact fun J H3 F3 e3 q3=>h J H3 F3 (e2.trans e3) q3
  |some (.ex n),h=>exact fun F3 H3 e3=>h F3 H3 (e2.trans e3)
 |some (.ex n),h=>exact h
def lstM:D→M (List D)
 | .lst ds=>M.ret ds
 |_=>M.stuck
def Ga:D→M (List D)
 | .tup ds=>M.ret ds
 |_=>M.stuck
def fq(a:DE):DA:=fun ρ=>a ρ>>=lstM
def rl(a:DE):DA:=fun ρ=>a ρ>>=Ga
theorem v_{K:W.Frag}{F:Hp}{a:Addr}{vs:List V}{ds:List D}(h:SqL K F a vs)(hd:DenL K F ds vs):ItD K F (Et K a) ds:=fun F' H' i s1 s2=>by
 have hs:=Same.seq s2 (Same.seq s1 h)
 refine⟨fun d e=>?_,fun hl=>⟨vs,hs,by rw[←hd.len];exact hl⟩⟩
 obtain⟨v,e1,q⟩:=hd.get e
 refine⟨⟨vs,v,hs,e1⟩,fun x H'' y=>?_⟩
 obtain⟨e2,y⟩:=y
 subst e2
 have:=y vs hs
 rw[e1] at this
 cases this
 exact⟨F',Ext.refl s2,Den.mono s1 q⟩
theorem yf{K:W.Frag}{F:Hp}{a:Addr}{vs:List V}{ds:List D}(h:SqT K F a vs)(hd:DenL K F ds vs):ItD K F (Eu K a) ds:=fun F' H' i s1 s2=>by
 have hs:=Same.tup s2 (Same.tup s1 h)
 refine⟨fun d e=>?_,fun hl=>⟨vs,hs,by rw[←hd.len];exact hl⟩⟩
 obtain⟨v,e1,q⟩:=hd.get e
 refine⟨⟨vs,v,hs,e1⟩,fun x H'' y=>?_⟩
 obtain⟨e2,y⟩:=y
 subst e2
 have:=y vs hs
 rw[e1] at this
 cases this
 exact⟨F',Ext.refl s2,Den.mono s1 q⟩
def eF(lo:Int)(n:Nat):List D:=(List.range n).map fun(i:Nat)=>D.int (lo+(i:Int))
theorem mU{K:W.Frag}{F:Hp}(lo:Int)(n:Nat):ItD K F (Cf lo n) (eF lo n):=fun F' H' i s1 s2=>by
 refine⟨fun d e=>?_,fun hl=>show n≤i by simpa[eF] using hl⟩
 unfold eF at e
 rw[List.getElem?_map] at e
 have hi:i<n:=by
  by_cases hi:i<n
  ·exact hi
  ·rw[List.getElem?_eq_none (by simpa using hi)] at e;cases e
 rw[List.getElem?_range hi] at e
 cases e
 refine⟨hi,fun x H'' y=>?_⟩
 obtain⟨e2,y⟩:=y
 subst e2 y
 exact⟨F',Ext.refl s2,rfl⟩
section
variable{X:Cx}{Xw:Nat→Hp→Prop}{tg l:Expr}{δ:DE}{pos:Pos}
theorem c0(h:PD X Xw l δ):t5 X Xw tg l (fq δ):=PI.weak (yP h) fun σ H R ⟨F,ρ,s,w⟩=>by
 refine⟨F,ρ,s,WP.mono (WPI.bind w) fun v H1 ⟨F1,d,e1,q1,w1⟩=>?_⟩
 cases d with
 |lst ds=>
  obtain⟨a,vs,h1,h2,h3,h4⟩:=q1
  exact⟨a,h1,⟨vs,Same.seq e1.fh (SqL.of h2)⟩,w1 _ _ _ (Ext.refl e1.fh) (v_ (SqL.of h2) h3)⟩
 |_=>exact w1.elim
theorem tN(h:PD X Xw l δ):t5 X Xw tg l (rl δ):=PI.weak (By h) fun σ H R ⟨F,ρ,s,w⟩=>by
 refine⟨F,ρ,s,WP.mono (WPI.bind w) fun v H1 ⟨F1,d,e1,q1,w1⟩=>?_⟩
 cases d with
 |tup ds=>
  obtain⟨a,vs,h1,h2,h3,h4⟩:=q1
  exact⟨a,h1,⟨vs,Same.tup e1.fh (SqT.of h2)⟩,w1 _ _ _ (Ext.refl e1.fh) (yf (SqT.of h2) h3)⟩
 |_=>exact w1.elim
def jS:List D→M (List D)
 |[.int j]=>if -4096≤j∧j≤4096 then M.ret (eF 0 j.toNat) else M.stuck
 |_=>M.stuck
def lJ:List D→M (List D)
 |[.int i, .int j]=>if (-4096≤i∧i≤4096)∧(-4096≤j∧j≤4096) then M.ret (eF i (j - i).toNat) else M.stuck
 |_=>M.stuck
theorem DenL.one{K:W.Frag}{F:Hp}{d:D}{vs:List V}(h:DenL K F [d] vs):∃v,vs=[v]∧Den K F d v:=by
 obtain⟨v,r,h1,h2,h3⟩:=h
 cases (show r=[] from h3)
 exact⟨v,h1,h2⟩
theorem DenL.two{K:W.Frag}{F:Hp}{d d':D}{vs:List V}(h:DenL K F [d,d'] vs):∃v v',vs=[v,v']∧Den K F d v∧Den K F d' v':=by
 obtain⟨v,r,h1,h2,h3⟩:=h
 obtain⟨v',h4,h5⟩:=h3.one
 subst h4
 exact⟨v,v',h1,h2,h5⟩
theorem gU{a:Expr}{δs:DA}{p:Pos}(hg:Gl X "range")(hm:X.mg "range"=none)(ha:mr X Xw [a] δs)(hs:starEach [a] X.env=[(false,eval a X.env)]:=by rfl):t5 X Xw tg (.Call (.Name "range" p) [a] [] pos) (fun ρ=>δs ρ>>=jS):=
 PI.weak (uV hg hm ha hs) fun σ H R ⟨F,ρ,s,w⟩=>by
  refine⟨F,ρ,s,WPL.mono (WPI.bindL w) fun vs H1 ⟨F1,ds,e1,q1,w1⟩=>?_⟩
  unfold jS at w1
  split at w1
  ·rename_i j
   obtain⟨v,h1,h2⟩:=q1.one
   cases (show v=_ from h2)
   split at w1
   ·exact⟨j,h1,by omega,by omega,w1 _ _ _ (Ext.refl e1.fh) (mU 0 _)⟩
   ·exact w1.elim
  ·exact w1.elim
theorem gW{a b:Expr}{δs:DA}{p:Pos}(hg:Gl X "range")(hm:X.mg "range"=none)(ha:mr X Xw [a,b] δs)(hs:starEach [a,b] X.env=[(false,eval a X.env),(false,eval b X.env)]:=by rfl)
 (Ee:starEach [b] X.env=[(false,eval b X.env)]:=by rfl):t5 X Xw tg (.Call (.Name "range" p) [a,b] [] pos) (fun ρ=>δs ρ>>=lJ):=
 PI.weak (uW hg hm ha hs Ee) fun σ H R ⟨F,ρ,s,w⟩=>by
  refine⟨F,ρ,s,WPL.mono (WPI.bindL w) fun vs H1 ⟨F1,ds,e1,q1,w1⟩=>?_⟩
  unfold lJ at w1
  split at w1
  ·rename_i i j
   obtain⟨v,v',h1,h2,h3⟩:=q1.two
   cases (show v=_ from h2)
   cases (show v'=_ from h3)
   split at w1
   ·exact⟨i,j,h1,⟨by omega,by omega,by omega,by omega⟩,w1 _ _ _ (Ext.refl e1.fh) (mU i _)⟩
   ·exact w1.elim
  ·exact w1.elim
end
def cB(tg N:List Str):List Str:=N.map fun y=>if tg.contains y then y++(" ":Str) else y
def gq(X:Cx)(scope:Scope)(tn:List Str)(pins:List (Addr×Obj))(cl:List (Str×Addr))(C:Addr)(fp:List Addr)(s₂:Shared)(H:Hp):Cx:=
 {X with N:=tn++cB tn X.N,s₀:=s₂,H₀:=H,env:=compEnvC scope cl C X.env,outer:=X.stack,ex:=fp,fn:=fun _=>false,pn:=X.pn++pins,xe:=fun _ _=>False}
structure CompSc (X:Cx) (scope:Scope) (tn:List Str):Prop where
 kind:scope.kind= .function
 nocell:∀y∈scope.names,y.2≠ .cell
 names:∀y∈scope.names,y.2= .local→scope.names.lookup y.1=some .local
 frees:∀y∈scope.names,y.2= .free→X.env.kindOf y.1=some .cell∨X.env.kindOf y.1=some .free
 vis:∀p∈(cB tn X.N).zip X.N,scope.names.lookup p.1=none∨(p.1=p.2∧scope.names.lookup p.1=some .free)
theorem gJ{env:Env}:∀(names:List (Str×NameKind)) (acc:List (Str×Addr)),(∀y∈names,y.2= .free→∃c,env.cells.lookup y.1=some c)→
 (∀x c,acc.lookup x=some c→env.cells.lookup x=some c)→
 ∃cl,(forIn names acc (fun (x:Str×NameKind) (r:List (Str×Addr))=>do
   let __x:=x
   if (__x.2==NameKind.free)=true then do let c←cellOf env __x.1;pure (ForInStep.yield ((__x.1,c)::r)) else pure (ForInStep.yield r)):Sem (List (Str×Addr)))=pure cl∧
  (∀x c,cl.lookup x=some c→env.cells.lookup x=some c)∧(∀x c,acc.lookup x=some c→∃c',cl.lookup x=some c')∧(∀x,names.lookup x=some .free→∃c,cl.lookup x=some c)
 |[],acc,_,h2=>⟨acc,rfl,h2,fun x c e=>⟨c,e⟩,fun x e=>by simp at e⟩
 |(n,k)::r,acc,h1,h2=>by
  by_cases hk:k= .free
  ·subst hk
   obtain⟨c,hc⟩:=h1 (n, .free) List.mem_cons_self rfl
   obtain⟨cl,e,a1,a2,a3⟩:=gJ r ((n,c)::acc) (fun y hy=>h1 y (List.mem_cons_of_mem _ hy)) (fun x c' q=>by
    rw[List.lookup_cons] at q
    split at q
    ·rename_i hx
     cases q
     rw[show x=n from by simpa using hx];exact hc
    ·exact h2 x c' q)
   refine⟨cl,?_,a1,fun x c' q=>?_,fun x q=>?_⟩
   ·rw[List.forIn_cons]
    have:cellOf env n=pure c:=by unfold cellOf;rw[hc]
    simp only[beq_self_eq_true,if_true,this,pure_bind]
    exact e
   ·by_cases hx:x=n
    ·subst hx
     exact a2 x c (by simp[List.lookup_cons])
    ·exact a2 x c' (by rw[List.lookup_cons,show (x==n)=false from by simpa using hx];exact q)
   ·rw[List.lookup_cons] at q
    split at q
    ·rename_i hx
     exact a2 x c (by rw[List.lookup_cons,hx])
    ·exact a3 x q
  ·obtain⟨cl,e,a1,a2,a3⟩:=gJ r acc (fun y hy=>h1 y (List.mem_cons_of_mem _ hy)) h2
   refine⟨cl,?_,a1,a2,fun x q=>?_⟩
   ·rw[List.forIn_cons]
    have:((k==NameKind.free)=true)=False:=by simpa using hk
    simp only[this,if_false,pure_bind]
    exact e
   ·rw[List.lookup_cons] at q
    split at q
    ·cases q;exact absurd rfl hk
    ·exact a3 x q
theorem km{scope:Scope}{env:Env}(h:∀y∈scope.names,y.2= .free→∃c,env.cells.lookup y.1=some c):
 ∃cl,closureFor scope env=pure cl∧(∀x c,cl.lookup x=some c→env.cells.lookup x=some c)∧(∀x,scope.names.lookup x=some .free→∃c,cl.lookup x=some c):=by
 obtain⟨cl,e,a1,_,a3⟩:=gJ (env:=env) scope.names [] h (fun x c q=>by simp at q)
 refine⟨cl,?_,a1,a3⟩
 unfold closureFor
 show (forIn scope.names [] _>>=fun r=>pure r)=_
 rw[bind_pure]
 exact e
def noex{α:Type}:M α→M α
 |some (.ok a)=>some (.ok a)
 |_=>none
def cq(f:D→M (Option D)):List D→M (List D)
 |[]=>M.ret []
 |d::ds=>f d>>=fun o=>cq f ds>>=fun r=>M.ret (match o with | some y=>y::r | none=>r)
def Hf(n:Nat):D→M (List D):=fun d=>match n,d with
 |0,d=>M.ret [d]
 |n, .tup ds=>if ds.length=n then M.ret ds else M.stuck
 |_,_=>M.stuck
def fj(n:Nat)(δt:DT)(δe:DE)(ρ:aW):D→M (Option D):=fun d=>
 Hf n d>>=fun ts=>δt (ts.map (fun t=>some (Sl.fz t))++ρ)>>=fun b=>if b then δe (ts.map (fun t=>some (Sl.fz t))++ρ)>>=fun y=>M.ret (some y) else M.ret none
def bb(n:Nat)(δi:DA)(δt:DT)(δe:DE):DE:=fun ρ=>δi ρ>>=fun ds=>noex (cq (fj n δt δe ρ) ds)>>=dW
def bP:DT:=fun _=>M.ret true
theorem du(f:D→M (Option D))(d:D)(ds:List D):cq f (d::ds)=(f d>>=fun o=>cq f ds>>=fun r=>M.ret (match o with | some y=>y::r | none=>r)):=rfl
theorem rj{f:D→M (Option D)}{ds:List D}{i:Nat}{d:D}{ys R:List D}(hd:ds[i]? =some d)
 (h:cq f ds=(cq f (ds.drop i)>>=fun r=>M.ret (ys++r)))(hR:cq f ds=M.ret R):
 ∃o,f d=M.ret o∧cq f ds=(cq f (ds.drop (i+1))>>=fun r=>M.ret ((match o with | some y=>ys++[y] | none=>ys)++r)):=by
 have e:ds.drop i=d::ds.drop (i+1):=by
  obtain⟨hi,e⟩:=List.getElem?_eq_some_iff.mp hd
  rw[List.drop_eq_getElem_cons hi,e]
 rw[e,du] at h
 have h':=h.symm.trans hR
 obtain⟨r,h1,h2⟩:=eJ h'
 obtain⟨o,h3,h4⟩:=eJ h1
 refine⟨o,h3,?_⟩
 obtain⟨r',h5,h6⟩:=eJ h4
 rw[h5,hR]
 rw[←h2,←d4 h6]
 show M.ret _=M.ret _
 cases o with
 |none=>rfl
 |some y=>simp
theorem uf{prog:Program}{w:World}{A:Around}{R:Result→Shared→Prop}{s:Shared}{elt target iter:Expr}{ifs:List Expr}{scope:Scope}{pos:Pos}{it acc:Value}{env:Env}(I:Nat→Shared→Prop)
 (turn:∀n s,I n s→wpAny (model prog w) A (pyNext it) (fun r s₁=>match r with
  |none=>R (.ok .next) s₁
  |some v=>wpAny (model prog w) A (letOwnedTupleGo target it v) (fun _ Hb=>wpAny (model prog w) A (assign target env v) (fun _ s₂=>
    wpAny (model prog w) A (forIn ifs true fun c r=>if r=true then do let ok←isTrue c env (eval c env);pure (ForInStep.yield ok) else pure (ForInStep.yield r)) (fun ok s₃=>
     if ok=true then wpAny (model prog w) A (eval elt env) (fun x s₄=>
      wpAny (model prog w) A (call (.builtin "list.append") [acc,x]) (fun _ s₅=>∃m,m<n∧I m s₅) (notedBy (model prog w) A env fun e s'=>R (.error e) s') s₄) (notedBy (model prog w) A env fun e s'=>R (.error e) s') s₃
     else∃m,m<n∧I m s₃) (notedBy (model prog w) A env fun e s'=>R (.error e) s') s₂) (notedBy (model prog w) A env fun e s'=>R (.error e) s') Hb) (notedBy (model prog w) A env fun e s'=>R (.error e) s') s₁) (notedBy (model prog w) A env fun e s'=>R (.error e) s') s)
 (n:Nat) (h:I n s):
 codeAny (model prog w) A (.compLoop (.ListComp elt [⟨target,iter,ifs,0⟩] scope pos) 0 it acc env) R s:=by
 refine codeAny_loop rfl I (fun n s hI=>?_) n h
 show wpAny _ A ((compTurn (.ListComp elt [⟨target,iter,ifs,0⟩] scope pos) 0 it acc env).onRaise (fun x=>do noteFrame x env;theTreesLotGoes x)) _ _ s
 refine wpAny_noted ?_
 rw[compTurn_list]
 refine wpAny_bind (wpAny_standAt (wpAny_bind (wpAny_mono (turn n s hI) (fun r s₁ h₁=>?_) fun _ _ h'=>h')))
 cases r with
 |none=>exact wpAny_pure h₁
 |some v=>
  refine wpAny_bind (wpAny_mono h₁ (fun _ Hb h₁=>?_) fun _ _ h'=>h')
  refine wpAny_bind (wpAny_mono h₁ (fun _ s₂ h₂=>wpAny_bind (wpAny_mono h₂ (fun ok s₃ h₃=>?_) fun _ _ h'=>h')) fun _ _ h'=>h')
  cases ok with
  |false=>exact wpAny_pure ⟨rfl,h₃⟩
  |true=>
   exact wpAny_bind (wpAny_bind (wpAny_mono h₃ (fun x s₄ h₄=>wpAny_bind (wpAny_mono h₄ (fun _ s₅ h₅=>wpAny_pure (wpAny_pure ⟨rfl,h₅⟩)) fun _ _ h'=>h')) fun _ _ h'=>h'))
def vh(X:Cx)(tg:Expr)(n:Nat)(σ:St):Prop:=∀(pins:List (Addr×Obj)) (s:Shared) (σ':St) (F H:Hp) (d:D) (ts:List D) (v:V) (u:Value),Inv X pins σ' H s→Same F H→σ'.drop (max n 1)=σ→RelV v u→Den X.K F d v→Hf n d=M.ret ts→
 wpAny (model X.prog X.w) X.A (assign tg X.env u) (fun _ s'=>∃vs,Inv X pins (vs.map some++σ) H s'∧DenL X.K F ts vs) X.xe s
def iW(X:Cx)(ifs:List Expr)(δt:DT):Prop:=∀(pins:List (Addr×Obj)) (s:Shared) (σ:St) (H:Hp) (Q:Bool→Hp→Prop),Inv X pins σ H s→FX X.K (fun _ _=>False) δt σ H Q→
 wpAny (model X.prog X.w) X.A (forIn ifs true fun c r=>if r=true then do let ok←isTrue c X.env (eval c X.env);pure (ForInStep.yield ok) else pure (ForInStep.yield r)) (TP X pins σ Q) X.xe s
theorem c6{X:Cx}:iW X [] bP:=fun pins s σ H Q I ⟨F,ρ,S,w⟩=>wpAny_tests_nil ⟨H,I,w H F (Ext.refl S.fh)⟩
theorem qN{X:Cx}{c:Expr}{δ:DT}(h:lZ X (fun _ _=>False) c δ):iW X [c] δ:=fun pins s σ H Q I w=>wpAny_tests_one (h pins s σ H Q I w)
theorem StE.cons{K:W.Frag}{F H:Hp}{σ:St}{ρ:aW}{ts:List D}{vs:List V}(s:StE K F H σ ρ)(h:DenL K F ts vs):StE K F H (vs.map some++σ) (ts.map (fun t=>some (Sl.fz t))++ρ):=by
 refine⟨s.fh,fun i sl e=>?_⟩
 have hl:=h.len
 by_cases hi:i<ts.length
 ·rw[List.getElem?_append_left (by simpa using hi),List.getElem?_map] at e
  cases q:ts[i]? with
  |none=>rw[q] at e;cases e
  |some t=>
   rw[q] at e
   cases e
   obtain⟨v,e1,e2⟩:=h.get q
   exact⟨v,by rw[List.getElem?_append_left (by simp;omega),List.getElem?_map,e1];rfl,e2⟩
 ·rw[List.getElem?_append_right (by simpa using hi)] at e
  obtain⟨v,e1,e2⟩:=s.den _ _ e
  refine⟨v,?_,e2⟩
  rw[List.getElem?_append_right (by simp;omega)]
  simpa[hl] using e1
theorem WPB.take{Xw:Nat→Hp→Prop}{F H:Hp}{b:Bool}:WPB Xw F H (M.ret b) fun b' H'=>b'=b∧∃F',Ext F H F' H':=fun H' F' e=>⟨rfl,F',e⟩
theorem WP.take{K:W.Frag}{Xw:Nat→Hp→Prop}{F H:Hp}{d:D}:WP K Xw F H (M.ret d) fun v H'=>∃F',Ext F H F' H'∧Den K F' d v:=fun v H' F' e q=>⟨F',e,q⟩
def jk(env:Env)(p:Str×NameKind):Str×NameKind:=if (p.2== .free&&env.scope.kind== .function&&env.kindOf p.1==some .cell) then(p.1, .cell) else(p.1,p.2)
theorem d9(scope:Scope)(env:Env):(relabel scope env).names=scope.names.map (jk env):=rfl
theorem w4(env:Env)(p:Str×NameKind):(jk env p).1=p.1:=by unfold jk;split<;>rfl
theorem eU(env:Env)(x:Str):∀ns:List (Str×NameKind),(ns.map (jk env)).lookup x=(ns.lookup x).map fun k=>(jk env (x,k)).2
 |[]=>rfl
 |(m,k)::r=>by
  rw[List.map_cons,List.lookup_cons,List.lookup_cons]
  have e:jk env (m,k)=(m,(jk env (m,k)).2):=Prod.ext (w4 env (m,k)) rfl
  rw[e]
  dsimp only
  by_cases hx:(x==m)=true
  ·have hm:x=m:=by simpa using hx
   subst hm
   rw[hx]
   rfl
  ·have hx:(x==m)=false:=by simpa using hx
   rw[hx]
   exact eU env x r
theorem oP{scope:Scope}{env:Env}{x:Str}(h:scope.names.lookup x=none):(relabel scope env).names.lookup x=none:=by
 rw[d9,eU,h];rfl
theorem oO{scope:Scope}{env:Env}{x:Str}(hc:∀y∈scope.names,y.2≠ .cell)(h:(relabel scope env).names.lookup x=some .cell∨(relabel scope env).names.lookup x=some .free):scope.names.lookup x=some .free:=by
 rw[d9,eU] at h
 cases q:scope.names.lookup x with
 |none=>rw[q] at h;rcases h with h | h<;>cases h
 |some k=>
  rw[q] at h
  have hk:k≠ .cell:=hc _ (PySem.mem_of_lookup q)
  have h:(jk env (x,k)).2= .cell∨(jk env (x,k)).2= .free:=by simpa using h
  by_cases hf:k= .free
  ·rw[hf]
  ·have:(jk env (x,k)).2=k:=by
    unfold jk
    rw[if_neg]
    simp[hf]
   rw[this] at h
   rcases h with h | h
   ·exact absurd h hk
   ·exact absurd h hf
theorem jl{scope:Scope}{env:Env}{x:Str}(h:scope.names.lookup x=some .free):¬(relabel scope env).names.lookup x=some .local:=by
 rw[d9,eU,h]
 intro z
 have z:(jk env (x, .free)).2= .local:=by simpa using z
 unfold jk at z
 split at z<;>cases z
structure BlockEnd (X:Cx) (pins:List (Addr×Obj)) (C:Addr) (H':Hp) (s1:Shared):Prop where
 ns:∃m,s1.heap.Ns C m
 free:H' C=none
 nl:C≠X.env.locals
 nw:X.s₀.heap.objs.size≤C
 nc:∀x c,X.env.cells.lookup x=some c→c≠C
 np:∀p∈X.pn++pins,p.1≠C
theorem pB{X:Cx}{Xw:Nat→Hp→Prop}{elt iter tg:Expr}{ifs:List Expr}{scope:Scope}{pos:Pos}{tn:List Str}{n:Nat}{δi:DA}{δt:DT}{δe:DE}{cl:List (Str×Addr)}{pins:List (Addr×Obj)}{s:Shared}{σ:St}{H F:Hp}{ρ:aW}{Q:VK}{RR:Value→Addr→Result→Shared→Prop}
 (sc:CompSc X scope tn)(hn:tn.length=max n 1)(hc:X.calm=true)(hi:t5 X Xw tg iter δi)
 (hg:∀pins cl C fp s₂ H σ,vh (gq X scope tn pins cl C fp s₂ H) tg n σ)
 (ht:∀pins cl C fp s₂ H,iW (gq X scope tn pins cl C fp s₂ H) ifs δt)
 (he:∀pins cl C fp s₂ H,PD (gq X scope tn pins cl C fp s₂ H) (fun _ _=>False) elt δe)
 (I:Inv X pins σ H s)(S:StE X.K F H σ ρ)(w:WP X.K Xw F H (bb n δi δt δe ρ) Q)
 (vB:∀x c,cl.lookup x=some c→X.env.cells.lookup x=some c)(B1:∀x,scope.names.lookup x=some .free→∃c,cl.lookup x=some c)
 (HF:∀(s1:Shared) (C D:Addr) (H':Hp),Inv X pins σ H' s1→Q (.ref D) H'→BlockEnd X pins C H' s1→RR (.ref D) C (.ok .next) s1):
 wpAny (model X.prog X.w) X.A (eval iter X.env) (fun x s₁=>wpAny (model X.prog X.w) X.A (pyIter x) (fun it s₂=>wpAny (model X.prog X.w) X.A (newList []) (fun acc s₃=>
  wpAny (model X.prog X.w) X.A (newFunctionEnv scope X.env.globals cl [] X.env.qual none .none (some X.env)) (fun Co s₄=>
   codeAny (model X.prog X.w) X.A (.compStart (.ListComp elt [⟨tg,iter,ifs,0⟩] scope pos) 0 it acc {Co with scope:=relabel scope X.env}) (RR acc Co.locals) s₄) X.xe s₃) X.xe s₂) X.xe s₁) X.xe s:=by
 refine bB (hi pins s σ H (fun J H2=>∃F2 ds,Ext F H F2 H2∧ItD X.K F2 J ds∧WP X.K Xw F2 H2 (noex (cq (fj n δt δe ρ) ds)>>=dW) Q) I ⟨F,ρ,S,?_⟩) fun xv s₁ h₁=>bB h₁ fun it s₂ h₂=>?_
 ·unfold bb at w
  rcases(δi ρ).cs with hq | ⟨m,hq⟩ | ⟨ds,hq⟩
  ·rw[hq] at w;exact w.elim
  ·rw[hq] at w⊢;exact w
  ·rw[hq] at w⊢;exact fun J H' F' e q=>⟨F',ds,e,q,WP.ext e w⟩
 obtain⟨ia,fp,Hg,J,H2,rfl,I2,T,DN,f2,F2,ds,e2,G0,w2⟩:=h₂
 obtain⟨R,hR,Gv,w2⟩:∃R,cq (fj n δt δe ρ) ds=M.ret R∧R.length≤lim∧WP X.K Xw F2 H2 (M.ret (.lst R)) Q:=by
  rcases(cq (fj n δt δe ρ) ds).cs with hq | ⟨m,hq⟩ | ⟨R,hq⟩
  ·rw[hq] at w2;exact w2.elim
  ·rw[hq] at w2;exact w2.elim
  ·rw[hq] at w2
   obtain⟨h1,h2⟩:=rN (X:=X) (f:=D.lst) (show WP X.K Xw F2 H2 (dW R) Q from w2)
   exact⟨R,hq,h1,h2⟩
 refine wpAny_newObj_type (wpAny_newFunctionEnv sc.nocell (by intro y hy;simp at hy) (fun h₁ AD xY=>?_) sc.kind)
 dsimp only at AD xY⊢
 generalize EJ:s₂.heap.push {cls:= .type "list",dict:=none,data:= .seq ([]:List Value).toArray}=HL at AD xY⊢
 have hC:HL.objs.size=s₂.heap.objs.size+1:=by rw[←EJ,Heap.size_push]
 have ur:s₂.heap.objs.size<HL.objs.size:=by rw[hC];exact Nat.lt_succ_self _
 have old:∀b o,s₂.heap.get? b=some o→h₁.get? b=some o:=fun b o e=>xY.extBut b o (Nat.ne_of_lt (Nat.lt_trans (Heap.lt_size e) ur)) (Heap.get?_push_of_some _ (EJ▸Heap.get?_push_of_some _ e))
 have vR:h₁.get? s₂.heap.objs.size=some {cls:= .type "list",data:= .seq ([]:List Value).toArray}:=xY.extBut _ _ (Nat.ne_of_lt ur) (Heap.get?_push_of_some _ (EJ▸Heap.get?_push_size _ rfl))
 have nD:H2 s₂.heap.objs.size=none:=I2.hok.fresh (Nat.le_refl _)
 have nC:H2 HL.objs.size=none:=I2.hok.fresh (Nat.le_of_lt ur)
 have gC:s₂.heap.get? HL.objs.size=none:=Heap.get?_none_of_le (Nat.le_of_lt ur)
 have fl:∀b∈fp,b<s₂.heap.objs.size:=fun b hb=>by
  obtain⟨o,e,_⟩:=T.obj 0 _ DN b hb
  exact Heap.lt_size e
 generalize pT:gq X scope tn pins cl HL.objs.size fp s₂ H2=X'
 have G7:X'.Ok:=by
  subst pT
  refine⟨I2.ok.mod,sc.kind,I2.ok.glob,I2.ok.blt,Nat.le_of_lt ur,fun x y c h1 h2=>I2.ok.inj x y c (vB _ _ h1) (vB _ _ h2),fun x hx=>?_,fun _ _ h=>(by cases h),I2.ok.hd,I2.ok.frames, .inl rfl,
   fun b hb=>⟨Nat.ne_of_lt (Nat.lt_trans (fl b hb) ur),fun x c h=>(f2 b hb).2.2.2.2.1 x c (vB _ _ h)⟩,I2.bs,Nat.le_trans I2.ok.bsz I2.sz,fun b o e hb=>?_,fun b hb z=>?_,I2.stack,I2.stkFree⟩
  ·have hx:(relabel scope X.env).names.lookup x=some .cell∨(relabel scope X.env).names.lookup x=some .free:=hx
   exact B1 x (oO sc.nocell hx)
  ·rcases(f2 b hb).2.2.2.1 with z | z
   ·exact I2.ok.noex b o e z
   ·exact absurd (Nat.lt_of_lt_of_le (Heap.lt_size (I2.ok.bs b o e).1) z) (Nat.lt_irrefl _)
  ·rcases List.mem_cons.mp (I2.stkSub b z) with q | q
   ·exact(f2 b hb).2.1 q
   ·exact(f2 b hb).2.2.1 q
 have FD:∀b o,H2 b=some o→b≠s₂.heap.objs.size:=fun b o e=>bu e nD
 have Ao:∀{H':Hp},(∀b∈fp,H' b=none)→∀b∈fp,pd X' [] H' b:=fun Im b hb=>by
  subst pT
  refine⟨Im b hb,Nat.ne_of_lt (Nat.lt_trans (fl b hb) ur),fun z=>G7.exfs b hb z, .inl hb,fun x c h=>(f2 b hb).2.2.2.2.1 x c (vB _ _ h),fun p hp=>?_⟩
  rw[List.append_nil] at hp
  exact(f2 b hb).2.2.2.2.2 p hp
 have I0:Inv X' [] (List.replicate (max n 1) none++σ) (upd H2 s₂.heap.objs.size (.lst [])) {s₂ with heap:=h₁,toks:=s₂.toks+([]:List (Str×Value)).length}:=by
  subst pT
  have Fb:HOk X.prog X.w (upd H2 s₂.heap.objs.size (.lst [])) h₁:=I2.hok.laid old (Nat.le_refl _) ⟨Nat.zero_le _,[],_, .nil,vR⟩
  refine⟨G7,rfl,I2.bare,Un.laid old (Nat.le_refl _) nD,⟨_,AD,fun i x v h1 h2 h3=>?_⟩,fun x c h=>?_,?_,fun x c h=>?_,fun p hp=>?_,Fb,?_⟩
  ·by_cases hi:i<max n 1
   ·rw[List.getElem?_append_left (by simpa using hi),List.getElem?_replicate,if_pos hi] at h2
    cases h2
   ·have xD:tn.length≤i:=by omega
    have h1:(tn++cB tn X.N)[i]? =some x:=h1
    rw[List.getElem?_append_right xD] at h1
    rw[List.getElem?_append_right (by simpa using hi),List.length_replicate,←hn] at h2
    have hN:∃y,X.N[i - tn.length]? =some y∧(x,y)∈(cB tn X.N).zip X.N:=by
     have gr:=(List.getElem?_eq_some_iff.mp h1).1
     have CY:i - tn.length<X.N.length:=by simpa[cB] using gr
     refine⟨X.N[i - tn.length],List.getElem?_eq_getElem CY,?_⟩
     refine List.mem_iff_getElem?.mpr ⟨i - tn.length,?_⟩
     rw[List.getElem?_zip_eq_some]
     exact⟨h1,List.getElem?_eq_getElem CY⟩
    obtain⟨y,hy,hm⟩:=hN
    have hV:(relabel scope X.env).names.lookup x=some .local∨(relabel scope X.env).names.lookup x=some .cell∨(relabel scope X.env).names.lookup x=some .free:=h3
    rcases sc.vis _ hm with uv | ⟨Fq,zF⟩
    ·have uv:scope.names.lookup x=none:=uv
     have:(relabel scope X.env).names.lookup x=none:=oP uv
     rw[this] at hV
     rcases hV with z | z | z<;>cases z
    ·have Fq:x=y:=Fq
     subst Fq
     have zF:scope.names.lookup x=some .free:=zF
     have hk:=sc.frees (x, .free) (PySem.mem_of_lookup zF) rfl
     obtain⟨m,Ay,Av⟩:=I2.loc
     obtain⟨u,ru,lk⟩:=Av _ x v hy h2 (by rcases hk with z | z;exact .inr (.inl z);exact .inr (.inr z))
     refine⟨u,ru, .inr ⟨?_,?_⟩⟩
     ·rcases hV with z | z | z
      ·exact absurd z (jl zF)
      ·exact .inl z
      ·exact .inr z
     ·rcases lk with⟨z,_⟩ | ⟨_,c,HQ,Ar⟩
      ·rcases hk with q | q
       ·rw[show X.env.kindOf x=some .local from z] at q;cases q
       ·rw[show X.env.kindOf x=some .local from z] at q;cases q
      ·obtain⟨c',zB⟩:=B1 x zF
       have:=vB _ _ zB
       rw[HQ] at this
       cases this
       obtain⟨o,ho,hd⟩:=Ar
       exact⟨c,zB,o,old _ _ ho,hd⟩
  ·obtain⟨v,o,ho,hd⟩:=I2.cell x c (vB _ _ h)
   exact⟨v,o,old _ _ ho,hd⟩
  ·show upd H2 s₂.heap.objs.size (.lst []) HL.objs.size=none
   rw[av (Nat.ne_of_gt ur)]
   exact nC
  ·have CK:=vB _ _ h
   obtain⟨v,q⟩:=I2.cell x c CK
   rw[av (Nat.ne_of_lt q.lt)]
   exact I2.freeC x c CK
  ·rw[List.append_nil] at hp
   obtain⟨e,nn,ne,nf,d⟩:=I2.pin p hp
   have gr:=Heap.lt_size e
   refine⟨old _ _ e,by rw[av (Nat.ne_of_lt gr)];exact nn,Nat.ne_of_lt (Nat.lt_trans gr ur),fun z=>?_,d⟩
   rcases List.mem_cons.mp (I2.stkSub p.1 z) with q | q
   ·exact ne q
   ·exact nf q
  ·show (List.replicate (max n 1) none++σ).length=(tn++cB tn X.N).length
   rw[List.length_append,List.length_append,List.length_replicate,hn,show (cB tn X.N).length=X.N.length from by simp[cB],I2.len]
 have loop:∀s₃:Shared,s₃={s₂ with heap:=h₁,toks:=s₂.toks+([]:List (Str×Value)).length}→
  codeAny (model X.prog X.w) X.A (.compLoop (.ListComp elt [⟨tg,iter,ifs,0⟩] scope pos) 0 (.ref ia) (.ref s₂.heap.objs.size) (compEnvC scope cl HL.objs.size X.env))
   (RR (.ref s₂.heap.objs.size) HL.objs.size) s₃:=by
  intro s₃ Iz
  have vI:X'.env=compEnvC scope cl HL.objs.size X.env:=by subst pT;rfl
  have hA:X'.A=X.A:=by subst pT;rfl
  have hP:X'.prog=X.prog:=by subst pT;rfl
  have hw:X'.w=X.w:=by subst pT;rfl
  have hK:X'.K=X.K:=by subst pT;rfl
  have IF:X'.xe=fun _ _=>False:=by subst pT;rfl
  have zC:X'.calm=true:=by subst pT;exact hc
  have HY:X'.fs=j8 X.stack:=by subst pT;rfl
  have hex:X'.ex=fp:=by subst pT;rfl
  have HA:X'.H₀=H2:=by subst pT;rfl
  have GS:X'.s₀=s₂:=by subst pT;rfl
  have pass:∀{α:Type}{t:Sem α}{P:α→Shared→Prop}{E':Value→Shared→Prop}{s:Shared},wpAny (model X'.prog X'.w) X'.A t P X'.xe s→wpAny (model X.prog X.w) X.A t P E' s:=fun {α t P E' s} h=>by
   rw[hP,hw,hA,IF] at h
   exact wpAny_mono h (fun _ _ q=>q) fun _ _ q=>q.elim
  refine uf (fun m s'=>∃(i:Nat) (F' H':Hp) (vs:List V) (ys:List D) (σt:St),m=ds.length - i∧i≤ds.length∧σt.length=max n 1∧Inv X' [] (σt++σ) H' s'∧Hg i s'.heap∧(∀b∈fp,H' b=none)∧Ext F2 H2 F' H'∧
   H' s₂.heap.objs.size=some (.lst vs)∧F' s₂.heap.objs.size=none∧DenL X.K F' ys vs∧cq (fj n δt δe ρ) ds=(cq (fj n δt δe ρ) (ds.drop i)>>=fun r=>M.ret (ys++r))) ?_ ds.length ?_
  ·rintro m s' ⟨i,F',H',vs,ys,σt,rfl,E0,IG,I',lR,Gn,ro,hD,fD,Eg,heq⟩
   by_cases gr:i<ds.length
   ·
    obtain⟨d,hd⟩:∃d,ds[i]? =some d:=⟨_,List.getElem?_eq_getElem gr⟩
    obtain⟨EY,AJ⟩:=(G0 F' H' i ro.ff ro.fh).1 d hd
    obtain⟨o,ho,CM⟩:=rj hd heq hR
    have Fs:ys.length≤lim:=by
     rw[heq] at hR
     obtain⟨r,_,hr⟩:=eJ hR
     rw[←d4 hr,List.length_append] at Gv
     omega
    obtain⟨ts,IB,ho⟩:=eJ ho
    refine pass ?_
    rw[hP,hw]
    refine bB (T.item X' hP hw hK zC i [] s' (σt++σ) H' X'.xe I' (Ao Gn) lR EY) ?_
    rintro r s1 ⟨u,rfl,h1⟩
    refine pass ?_
    rw[hP,hw]
    refine bB h1 ?_
    rintro _ s2 ⟨x,H3,I3,rx,y3,Cb,D6⟩
    obtain⟨F3,xB,q3⟩:=AJ x H3 y3
    have Gr:H3 s₂.heap.objs.size=some (.lst vs):=xB.hh _ _ hD
    have Hs:F3 s₂.heap.objs.size=none:=by rw[xB.old hD (fun _ z=>nomatch z)];exact fD
    have I3':=I3.pinned (Ao D6) (T.obj _ _ Cb)
    have tq:∀{σ7:St}{H7:Hp}{s7:Shared},Inv X' ([]++lB fp s2.heap) σ7 H7 s7→Hg (i+1) s7.heap∧∀b∈fp,H7 b=none:=fun {σ7 H7 s7} I7=>
     ⟨T.keep _ _ _ Cb fun b hb o e=>(I7.pin (b,o) (List.mem_append_right _ (List.mem_append_right _ (eW hb e)))).1,fun b hb=>by
      obtain⟨o,e,_⟩:=T.obj _ _ Cb b hb
      exact(I7.pin (b,o) (List.mem_append_right _ (List.mem_append_right _ (eW hb e)))).2.1⟩
    have H0:vh X' tg n σ:=by subst pT;exact hg _ _ _ _ _ _ _
    have IA:iW X' ifs δt:=by subst pT;exact ht _ _ _ _ _ _
    have HV:PD X' (fun _ _=>False) elt δe:=by subst pT;exact he _ _ _ _ _ _
    refine pass ?_
    rw[←vI]
    refine bB (H0 _ s2 (σt++σ) F3 H3 d ts x u I3' xB.fh (by rw[←IG];simp) rx (by rw[hK];exact q3) IB) ?_
    rintro _ s4 ⟨vt,I4,dt⟩
    rw[hK] at dt
    have S4:StE X.K F3 H3 (vt.map some++σ) (ts.map (fun t=>some (Sl.fz t))++ρ):=StE.cons ((S.ext e2).ext (ro.trans xB)) dt
    obtain⟨b,hb,ho⟩:=eJ ho
    refine pass ?_
    try rw[←vI]
    refine bB (IA _ s4 _ H3 (fun b' H5=>b'=b∧∃F5,Ext F3 H3 F5 H5) I4 ⟨F3,_,by rw[hK];exact S4,by rw[hb];exact WPB.take⟩) ?_
    rintro b' s5 ⟨H5,I5,rfl,F5,Am⟩
    have EI:H5 s₂.heap.objs.size=some (.lst vs):=Am.hh _ _ Gr
    have Gj:F5 s₂.heap.objs.size=none:=by rw[Am.old Gr (fun _ z=>nomatch z)];exact Hs
    cases b' with
    |false=>
     rw[if_neg Bool.false_ne_true] at ho⊢
     obtain rfl:=d4 ho
     refine⟨ds.length - (i+1),by omega,i+1,F5,H5,vs,ys,vt.map some,rfl,gr,?_,I5.unpinned,(tq I5).1,(tq I5).2,ro.trans (xB.trans Am),EI,Gj,DenL.mono (xB.trans Am).ff Eg,CM⟩
     have h1:=I5.len
     have h2:=I3.len
     rw[List.length_append] at h1 h2
     omega
    |true=>
     rw[if_pos rfl] at ho⊢
     obtain⟨yv,hy,ho⟩:=eJ ho
     obtain rfl:=d4 ho
     refine pass ?_
     try rw[←vI]
     refine bB (HV _ s5 _ H5 (fun v H6=>∃F6,Ext F5 H5 F6 H6∧Den X.K F6 yv v) I5 ⟨F5,_,by rw[hK];exact S4.ext Am,by rw[hy,hK];exact WP.take⟩) ?_
     rintro xv s6 ⟨v,H6,I6,rv,F6,D5,qv⟩
     have Hz:H6 s₂.heap.objs.size=some (.lst vs):=D5.hh _ _ EI
     have Gk:F6 s₂.heap.objs.size=none:=by rw[D5.old EI (fun _ z=>nomatch z)];exact Gj
     have ID:vs.length<sizeLine:=by
      have:=Eg.len
      have:=c8
      omega
     refine pass ?_
     refine bB (ng _ s6 _ H6 (.ref s₂.heap.objs.size) [v] (.ref s₂.heap.objs.size) [xv] (fun _ H7=>H7=upd H6 s₂.heap.objs.size (.lst (vs++[v]))) I6 rfl (.cons rv .nil) ⟨_,vs,v,rfl,rfl,Hz,ID,rfl⟩) ?_
     rintro _ s7 ⟨_,H7,I7,_,rfl⟩
     have Hr:Ext F2 H2 F6 (upd H6 s₂.heap.objs.size (.lst (vs++[v]))):=by
      have e:=ro.trans (xB.trans (Am.trans D5))
      refine⟨fun b u q=>?_,e.ff,fun b u q=>?_,e.new⟩
      ·rw[av (FD b u q)];exact e.hh b u q
      ·rw[av (fun z=>by rw[z,Gk] at q;cases q)];exact e.fh b u q
     refine⟨ds.length - (i+1),by omega,i+1,F6,_,vs++[v],ys++[yv],vt.map some,rfl,gr,?_,I7.unpinned,(tq I7).1,(tq I7).2,Hr,aE,Gk,
      DenL.append (DenL.mono (xB.trans (Am.trans D5)).ff Eg) (.cons qv .nil),CM⟩
     have h1:=I5.len
     have h2:=I3.len
     rw[List.length_append] at h1 h2
     omega
   ·
    have hi:i=ds.length:=by omega
    subst hi
    rw[List.drop_length] at heq
    have HG:R=ys:=by
     rw[heq] at hR
     have hR:M.ret (ys++[])=M.ret R:=hR
     rw[←d4 hR,List.append_nil]
    subst HG
    refine pass ?_
    rw[hP,hw]
    refine bB (T.done X' hP hw hK zC ds.length [] s' (σt++σ) H' X'.xe I' (Ao Gn) lR ((G0 F' H' ds.length ro.ff ro.fh).2 (Nat.le_refl _))) ?_
    rintro r s1 ⟨rfl,I1⟩
    obtain⟨m,hm,_⟩:=I1.loc
    rw[vI] at hm
    have Hy:H' HL.objs.size=none:=by
     have:=I1.free
     rw[vI] at this
     exact this
    have u:=I1.base
    rw[HY,hex,HA,GS] at u
    have vZ:s1.os=s₂.os:=by have:=I1.os;rw[GS] at this;exact this
    have CO:=I1.hok
    rw[hP,hw] at CO
    refine HF s1 HL.objs.size s₂.heap.objs.size H' (I2.call' (s':=s1) (ch:=fp) vZ u CO I1.bare (fun b hb=>⟨(f2 b hb).2.2.2.1,(f2 b hb).2.1,(f2 b hb).2.2.2.2.1,(f2 b hb).2.2.2.2.2⟩)) ?_
     ⟨⟨m,hm⟩,Hy,Nat.ne_of_gt (Nat.lt_trans I2.lt ur),Nat.le_trans I2.sz (Nat.le_of_lt ur),fun x c q z=>?_,fun p hp z=>?_⟩
    rotate_left
    ·obtain⟨v,q'⟩:=I2.cell x c q
     exact absurd (Nat.lt_trans q'.lt ur) (by rw[z];exact Nat.lt_irrefl _)
    ·exact absurd (Nat.lt_trans (Heap.lt_size (I2.pin p hp).1) ur) (by rw[z];exact Nat.lt_irrefl _)
    refine WP.fin w2 (F':=upd F' s₂.heap.objs.size (.lst vs)) ⟨ro.hh,fun b u q=>?_,fun b u q=>?_,fun a ha=>?_⟩ ⟨_,vs,rfl,aE,DenL.mono (fun b u q=>?_) Eg,Gv⟩
    ·rw[av (fun z=>by have:=ro.ff b u q;rw[z,fD] at this;cases this)];exact ro.ff b u q
    ·by_cases z:b=s₂.heap.objs.size
     ·rw[z,aE] at q;rw[z,hD];exact q
     ·rw[av z] at q;exact ro.fh b u q
    ·rcases ro.new a ha with q | q
     ·exact .inl (by rw[av (fun z=>ha (by rw[z];exact nD))];exact q)
     ·exact .inr q
    ·rw[av (fun z=>by rw[z,fD] at q;cases q)];exact q
  ·rw[Iz]
   refine⟨0,F2,_,[],[],List.replicate (max n 1) none,by simp,Nat.zero_le _,by simp,I0,T.keep _ _ _ DN (fun b hb o e=>old b o e),fun b hb=>?_,⟨fun b u q=>?_,Same.refl _,fun b u q=>?_,fun _ _=> .inl rfl⟩,aE,Same.free e2.fh nD,rfl,?_⟩
   ·rw[av (Nat.ne_of_lt (fl b hb))];exact(f2 b hb).1
   ·rw[av (FD b u q)];exact q
   ·rw[av (FD b u (e2.fh b u q))];exact e2.fh b u q
   ·rw[List.drop_zero]
    rcases(cq (fj n δt δe ρ) ds).cs with hq | ⟨m,hq⟩ | ⟨R,hq⟩<;>rw[hq]<;>rfl
 exact codeAny_compStart_list (loop _ rfl) (T.self X.A 0 _ _ _ (T.keep _ _ _ DN (fun b hb o e=>old b o e)) (loop _ rfl))
theorem Inv.block{X:Cx}{pins:List (Addr×Obj)}{σ:St}{H':Hp}{s1:Shared}{C:Addr}{h':Heap}(I:Inv X pins σ H' s1)(b:BlockEnd X pins C H' s1)(xE:Heap.SameBut C s1.heap h'):Inv X pins σ H' {s1 with heap:=h'}:=
 I.turned (t':=s1.toks) (fun a o ha e=>(xE.2 a ha).trans e) b.free b.nl (.inr b.nw) b.nc b.np
section
variable{X:Cx}{Xw:Nat→Hp→Prop}{elt iter tg:Expr}{ifs:List Expr}{scope:Scope}{pos:Pos}{tn:List Str}{n:Nat}{δi:DA}{δt:DT}{δe:DE}
theorem dZ(sc:CompSc X scope tn)(hn:tn.length=max n 1)(hc:X.calm=true)(hi:t5 X Xw tg iter δi)
 (hg:∀pins cl C fp s₂ H σ,vh (gq X scope tn pins cl C fp s₂ H) tg n σ)
 (ht:∀pins cl C fp s₂ H,iW (gq X scope tn pins cl C fp s₂ H) ifs δt)
 (he:∀pins cl C fp s₂ H,PD (gq X scope tn pins cl C fp s₂ H) (fun _ _=>False) elt δe)
 (hs:∀x,foldedSetIterable iter X.env x=pure x:=by intro _;rfl):
 PD X Xw (.ListComp elt [⟨tg,iter,ifs,0⟩] scope pos) (bb n δi δt δe):=by
 intro pins s σ H Q I ⟨F,ρ,S,w⟩
 obtain⟨cl,vS,vB,B1⟩:=km (scope:=scope) (env:=X.env) fun y hy hf=>I.ok.has y.1 (sc.frees y hy hf)
 rw[eval_ListComp]
 refine wpAny_comprehension_free (use:=none) rfl hs vS sc.kind sc.names (pB (RR:=fun acc C=>compPost (model X.prog X.w) X.A X.xe none (EP X pins σ Q) acc C) sc hn hc hi hg ht he I S w vB B1 fun s1 C D H' I1 q b=>?_)
 obtain⟨m,hm⟩:=b.ns
 exact⟨m,hm,fun h' xE=>⟨.ref D,H',Inv.block I1 b xE,rfl,q⟩⟩
end
inductive Out where
 |nx (ρ:aW) | rt (d:D)
abbrev DS:=aW→M Out
structure StOk (K:W.Frag) (F₀ H₀ F H:Hp) (σ:St) (ρ:aW):Prop where
 ext:Ext F₀ H₀ F H
 st:StE K F H σ ρ
 len:ρ.length=σ.length
 own:∀(i:Nat) (c:C) (a:Addr),ρ[i]? =some (some (.ow c))→σ[i]? =some (some (.ref a))→H₀ a=none
 sep:∀(i j:Nat) (c c':C) (a:Addr),ρ[i]? =some (some (.ow c))→ρ[j]? =some (some (.ow c'))→σ[i]? =some (some (.ref a))→σ[j]? =some (some (.ref a))→i=j
def WPS(K:W.Frag)(Xw:Nat→Hp→Prop)(F₀ H₀:Hp)(m:M Out)(Dn:Ends):Prop:=
 match m with
 |none=>False
 |some (.ok (.nx ρ))=>∀σ F H,StOk K F₀ H₀ F H σ ρ→Dn.nx σ H
 |some (.ok (.rt d))=>∀v F H,Ext F₀ H₀ F H→Den K F d v→Dn.rt v H
 |some (.ex n)=>∀F H,Ext F₀ H₀ F H→Xw n H
def tS(K:W.Frag)(Xw:Nat→Hp→Prop)(F₀ H₀:Hp)(τ:DS):TS:=fun Dn σ H=>∃F ρ,StOk K F₀ H₀ F H σ ρ∧WPS K Xw F₀ H₀ (τ ρ) Dn
def j3(X:Cx)(Xw:Nat→Hp→Prop)(st:Stmt)(τ:DS):Prop:=∀F₀ H₀,PS X st (tS X.K Xw F₀ H₀ τ)
def PSDs(X:Cx)(Xw:Nat→Hp→Prop)(st:List Stmt)(τ:DS):Prop:=∀F₀ H₀,PSs X st (tS X.K Xw F₀ H₀ τ)
theorem PS.weak{X:Cx}{st:Stmt}{t t':TS}(h:PS X st t)(k:∀D σ H,t' D σ H→t D σ H):PS X st t':=fun pins s σ H D I w=>h pins s σ H D I (k D σ H w)
theorem PSs.weak{X:Cx}{st:List Stmt}{t t':TS}(h:PSs X st t)(k:∀D σ H,t' D σ H→t D σ H):PSs X st t':=fun pins s σ H D I w=>h pins s σ H D I (k D σ H w)
section
variable{K:W.Frag}{Xw:Nat→Hp→Prop}{F₀ H₀ F H F' H':Hp}{σ:St}{ρ:aW}
theorem StOk.ext'(s:StOk K F₀ H₀ F H σ ρ)(e:Ext F H F' H'):StOk K F₀ H₀ F' H' σ ρ:=⟨s.ext.trans e,s.st.ext e,s.len,s.own,s.sep⟩
theorem StOk.set(s:StOk K F₀ H₀ F H σ ρ){i:Nat}{d:D}{v:V}(h:Den K F d v):StOk K F₀ H₀ F H (σ.set i (some v)) (ρ.set i (some (.fz d))):=by
 have hl:=s.len
 have get:∀(j:Nat) (sl:Sl),(ρ.set i (some (.fz d)))[j]? =some (some sl)→(j=i∧i<ρ.length∧sl= .fz d)∨(j≠i∧ρ[j]? =some (some sl)):=fun j sl e=>by
  by_cases hj:j=i
  ·subst hj
   have hi:j<ρ.length:=by
    have:=(List.getElem?_eq_some_iff.mp e).1
    simpa using this
   rw[List.getElem?_set_self hi] at e
   cases e
   exact .inl ⟨rfl,hi,rfl⟩
  ·rw[List.getElem?_set_ne (Ne.symm hj)] at e
   exact .inr ⟨hj,e⟩
 refine⟨s.ext,⟨s.st.fh,fun j sl e=>?_⟩,by simp[hl],fun j c a e e'=>?_,fun j k c c' a e1 e2 e3 e4=>?_⟩
 ·rcases get j sl e with⟨rfl,hi,rfl⟩ | ⟨hj,e⟩
  ·exact⟨v,by rw[List.getElem?_set_self (by omega)],h⟩
  ·obtain⟨u,h1,h2⟩:=s.st.den j sl e
   exact⟨u,by rw[List.getElem?_set_ne (Ne.symm hj)];exact h1,h2⟩
 ·rcases get j _ e with⟨_,_,z⟩ | ⟨hj,e⟩
  ·cases z
  ·rw[List.getElem?_set_ne (Ne.symm hj)] at e'
   exact s.own j c a e e'
 ·rcases get j _ e1 with⟨_,_,z⟩ | ⟨hj,e1⟩
  ·cases z
  ·rcases get k _ e2 with⟨_,_,z⟩ | ⟨hk,e2⟩
   ·cases z
   ·rw[List.getElem?_set_ne (Ne.symm hj)] at e3
    rw[List.getElem?_set_ne (Ne.symm hk)] at e4
    exact s.sep j k c c' a e1 e2 e3 e4
theorem StOk.setNew(s:StOk K F₀ H₀ F H σ ρ){i:Nat}{a:Addr}{o:HO}{c₀:C}(n:H a=none)(h:DenC K F c₀ o):
 StOk K F₀ H₀ F (upd H a o) (σ.set i (some (.ref a))) (ρ.set i (some (.ow c₀))):=by
 have hle:=s.len
 have e0:=Ext.free (o:=o) s.st.fh n
 have nF:F a=none:=Same.free s.st.fh n
 have get:∀(j:Nat) (sl:Sl),(ρ.set i (some (.ow c₀)))[j]? =some (some sl)→(j=i∧i<ρ.length∧sl= .ow c₀)∨(j≠i∧ρ[j]? =some (some sl)):=fun j sl e=>by
  by_cases hj:j=i
  ·subst hj
   have hi:j<ρ.length:=by
    have:=(List.getElem?_eq_some_iff.mp e).1
    simpa using this
   rw[List.getElem?_set_self hi] at e
   cases e
   exact .inl ⟨rfl,hi,rfl⟩
  ·rw[List.getElem?_set_ne (Ne.symm hj)] at e
   exact .inr ⟨hj,e⟩
 have old:∀(j:Nat) (c:C) (b:Addr),ρ[j]? =some (some (.ow c))→σ[j]? =some (some (.ref b))→b≠a:=fun j c b e e' z=>by
  obtain⟨u,h1,b',o,h2,h3,_⟩:=s.st.den j _ e
  rw[h1] at e'
  cases e'
  cases h2
  rw[z,n] at h3
  cases h3
 refine⟨s.ext.trans e0,⟨e0.fh,fun j sl e=>?_⟩,by simp[hle],fun j c b e e'=>?_,fun j k c c' b e1 e2 e3 e4=>?_⟩
 ·rcases get j sl e with⟨rfl,hi,rfl⟩ | ⟨hj,e⟩
  ·exact⟨.ref a,by rw[List.getElem?_set_self (by omega)],a,_,rfl,aE,nF,h⟩
  ·obtain⟨u,h1,h2⟩:=s.st.den j sl e
   exact⟨u,by rw[List.getElem?_set_ne (Ne.symm hj)];exact h1,h2.ext e0⟩
 ·rcases get j _ e with⟨rfl,hi,_⟩ | ⟨hj,e⟩
  ·rw[List.getElem?_set_self (by omega)] at e'
   cases e'
   exact Same.free s.ext.hh n
  ·rw[List.getElem?_set_ne (Ne.symm hj)] at e'
   exact s.own j c b e e'
 ·rcases get j _ e1 with⟨rfl,hi,_⟩ | ⟨hj,e1⟩
  ·rw[List.getElem?_set_self (by omega)] at e3
   cases e3
   rcases get k _ e2 with⟨rfl,_,_⟩ | ⟨hk,e2⟩
   ·rfl
   ·rw[List.getElem?_set_ne (Ne.symm hk)] at e4
    exact absurd rfl (old k c' a e2 e4)
  ·rcases get k _ e2 with⟨E4,hi,_⟩ | ⟨hk,e2⟩
   ·rw[E4,List.getElem?_set_self (by omega)] at e4
    cases e4
    rw[List.getElem?_set_ne (Ne.symm hj)] at e3
    exact absurd rfl (old j c a (by assumption) e3)
   ·rw[List.getElem?_set_ne (Ne.symm hj)] at e3
    rw[List.getElem?_set_ne (Ne.symm hk)] at e4
    exact s.sep j k c c' b e1 e2 e3 e4
theorem StOk.chg(s:StOk K F₀ H₀ F H σ ρ){i:Nat}{a:Addr}{c c₀:C}{o₀:HO}(hi:ρ[i]? =some (some (.ow c)))(ha:σ[i]? =some (some (.ref a)))(h:DenC K F c₀ o₀):
 StOk K F₀ H₀ F (upd H a o₀) σ (ρ.set i (some (.ow c₀))):=by
 have hle:=s.len
 have h0:=s.own i c a hi ha
 obtain⟨u,q1,a',o,q2,q3,q4,q5⟩:=s.st.den i _ hi
 rw[ha] at q1
 cases q1
 cases q2
 have EZ:i<ρ.length:=(List.getElem?_eq_some_iff.mp hi).1
 have get:∀(j:Nat) (sl:Sl),(ρ.set i (some (.ow c₀)))[j]? =some (some sl)→(j=i∧sl= .ow c₀)∨(j≠i∧ρ[j]? =some (some sl)):=fun j sl e=>by
  by_cases hj:j=i
  ·subst hj
   rw[List.getElem?_set_self EZ] at e
   cases e
   exact .inl ⟨rfl,rfl⟩
  ·rw[List.getElem?_set_ne (Ne.symm hj)] at e
   exact .inr ⟨hj,e⟩
 have fh:Same F (upd H a o₀):=fun b o e=>by
  rw[av (fun z=>by rw[z,q4] at e;cases e)];exact s.st.fh b o e
 refine⟨⟨fun b o e=>?_,s.ext.ff,fh,s.ext.new⟩,⟨fh,fun j sl e=>?_⟩,by simp[hle],fun j c' b e e'=>?_,fun j k c1 c2 b e1 e2 e3 e4=>?_⟩
 ·rw[av (fun z=>by rw[z,h0] at e;cases e)];exact s.ext.hh b o e
 ·rcases get j sl e with⟨rfl,rfl⟩ | ⟨hj,e⟩
  ·exact⟨.ref a,ha,a,_,rfl,aE,q4,h⟩
  ·obtain⟨u,h1,h2⟩:=s.st.den j sl e
   refine⟨u,h1,?_⟩
   cases sl with
   |fz d=>exact h2
   |ow c'=>
    obtain⟨b,o',r1,r2,r3,r4⟩:=h2
    refine⟨b,o',r1,?_,r3,r4⟩
    rw[av (fun z=>hj (s.sep j i c' c a e hi (by rw[h1,r1,z]) ha))];exact r2
 ·rcases get j _ e with⟨rfl,_⟩ | ⟨hj,e⟩
  ·rw[ha] at e';cases e';exact h0
  ·exact s.own j c' b e e'
 ·have k1:∃c,ρ[j]? =some (some (.ow c)):=by
   rcases get j _ e1 with⟨rfl,_⟩ | ⟨_,e⟩
   ·exact⟨c,hi⟩
   ·exact⟨_,e⟩
  have k2:∃c,ρ[k]? =some (some (.ow c)):=by
   rcases get k _ e2 with⟨rfl,_⟩ | ⟨_,e⟩
   ·exact⟨c,hi⟩
   ·exact⟨_,e⟩
  obtain⟨_,k1⟩:=k1
  obtain⟨_,k2⟩:=k2
  exact s.sep j k _ _ b k1 k2 e3 e4
def frz(i:Nat)(ρ:aW):aW:=match ρ[i]? with
 |some (some (.ow c))=>ρ.set i (some (.fz c.d))
 |_=>ρ
theorem StOk.frz(s:StOk K F₀ H₀ F H σ ρ)(i:Nat)(obj:Addr→Obj):(∃a o,H a=some o∧DenC K F (ρ[i]?.elim (.lst []) fun x=>x.elim (.lst []) fun y=>match y with | .ow c=>c | _=> .lst []) o∧σ[i]? =some (some (.ref a))∧StOk K F₀ H₀ (upd F a (j1 (obj a) o)) (upd H a (j1 (obj a) o)) σ (frz i ρ))∨frz i ρ=ρ:=by
 unfold L3.frz
 split
 ·rename_i c₀ hi
  have hle:=s.len
  obtain⟨u,ha,a,o,rfl,q3,q4,zE⟩:=s.st.den i _ hi
  refine .inl ⟨a,o,q3,by rw[hi];exact zE,ha,?_⟩
  have h0:=s.own i _ a hi ha
  have EZ:i<ρ.length:=(List.getElem?_eq_some_iff.mp hi).1
  have ff:Same F (upd F a (j1 (obj a) o)):=fun b o e=>by rw[av (fun z=>by rw[z,q4] at e;cases e)];exact e
  have fh:Same (upd F a (j1 (obj a) o)) (upd H a (j1 (obj a) o)):=fun b o e=>by
   by_cases z:b=a
   ·rw[z,aE] at e⊢;exact e
   ·rw[av z] at e⊢;exact s.st.fh b o e
  have get:∀(j:Nat) (sl:Sl),(ρ.set i (some (.fz c₀.d)))[j]? =some (some sl)→(j=i∧sl= .fz c₀.d)∨(j≠i∧ρ[j]? =some (some sl)):=fun j sl e=>by
   by_cases hj:j=i
   ·subst hj
    rw[List.getElem?_set_self EZ] at e
    cases e
    exact .inl ⟨rfl,rfl⟩
   ·rw[List.getElem?_set_ne (Ne.symm hj)] at e
    exact .inr ⟨hj,e⟩
  refine⟨⟨fun b u q=>?_,s.ext.ff.trans ff,fh,fun b hb=>?_⟩,⟨fh,fun j sl e=>?_⟩,by simp[hle],fun j c' b e e'=>?_,fun j k c1 c2 b e1 e2 e3 e4=>?_⟩
  ·rw[av (fun z=>by rw[z,h0] at q;cases q)];exact s.ext.hh b u q
  ·rcases s.ext.new b hb with q | q
   ·exact .inl (by rw[av (fun z=>hb (by rw[z];exact h0))];exact q)
   ·exact .inr q
  ·rcases get j sl e with⟨rfl,rfl⟩ | ⟨hj,e⟩
   ·exact⟨.ref a,ha,DenC.den zE ff aE⟩
   ·obtain⟨u,h1,h2⟩:=s.st.den j sl e
    refine⟨u,h1,?_⟩
    cases sl with
    |fz d=>exact Den.mono ff h2
    |ow c'=>
     obtain⟨b,o',r1,r2,r3,r4⟩:=h2
     have l7:b≠a:=fun z=>hj (s.sep j i c' _ a e hi (by rw[h1,r1,z]) ha)
     exact⟨b,o',r1,by rw[av l7];exact r2,by rw[av l7];exact r3,DenC.mono ff r4⟩
  ·rcases get j _ e with⟨_,z⟩ | ⟨hj,e⟩
   ·cases z
   ·exact s.own j c' b e e'
  ·rcases get j _ e1 with⟨_,z⟩ | ⟨_,e1⟩
   ·cases z
   ·rcases get k _ e2 with⟨_,z⟩ | ⟨_,e2⟩
    ·cases z
    ·exact s.sep j k _ _ b e1 e2 e3 e4
 ·exact .inr rfl
end
def join(F H:Hp):Hp:=fun a=>match F a with
 |some o=>some o
 |none=>H a
theorem StOk.rebase{K:W.Frag}{F₀ H₀ F H:Hp}{σ:St}{ρ:aW}(s:StOk K F₀ H₀ F H σ ρ):StOk K F (join F H₀) F H σ ρ∧∀F' H',Ext F (join F H₀) F' H'→Ext F₀ H₀ F' H':=by
 have hj:Same (join F H₀) H:=fun b o e=>by
  unfold join at e
  cases q:F b with
  |some u=>rw[q] at e;cases e;exact s.st.fh b _ q
  |none=>rw[q] at e;exact s.ext.hh b o e
 have h0:Same H₀ (join F H₀):=fun b o e=>by
  unfold join
  cases q:F b with
  |some u=>
   have h1:=s.st.fh b u q
   rw[s.ext.hh b o e] at h1
   exact h1.symm
  |none=>exact e
 refine⟨⟨⟨hj,Same.refl _,s.st.fh,fun _ _=> .inl rfl⟩,s.st,s.len,fun i c a e e'=>?_,s.sep⟩,fun F' H' x=>⟨h0.trans x.hh,s.ext.ff.trans x.ff,x.fh,fun a ha=>?_⟩⟩
 ·have h1:=s.own i c a e e'
  obtain⟨v,q1,a',o,q2,q3,q4,_⟩:=s.st.den i _ e
  rw[e'] at q1
  cases q1
  cases q2
  unfold join
  rw[q4]
  exact h1
 ·have:join F H₀ a≠none:=by
   cases q:H₀ a with
   |none=>exact absurd q ha
   |some o=>rw[h0 a o q];exact fun z=>nomatch z
  rcases s.ext.new a ha with p | p
  ·rcases x.new a this with q | ⟨ts,q⟩
   ·exact .inl (q.trans p)
   ·cases z:H₀ a with
    |none=>exact absurd z ha
    |some o=>
     rw[h0 a o z] at q
     exact .inr ⟨ts,q⟩
  ·exact .inr p
theorem StOk.unbase{K:W.Frag}{F₀ H₀ F U F' H':Hp}{σ:St}{ρ:aW}(k:∀F' H',Ext F U F' H'→Ext F₀ H₀ F' H')(s:StOk K F U F' H' σ ρ)(h:Same H₀ U):StOk K F₀ H₀ F' H' σ ρ:=
 ⟨k _ _ s.ext,s.st,s.len,fun i c a e e'=>Same.free h (s.own i c a e e'),s.sep⟩
theorem uA{K:W.Frag}{F₀ H₀ F H:Hp}{σ:St}{ρ:aW}(s:StOk K F₀ H₀ F H σ ρ):Same H₀ (join F H₀):=fun b o e=>by
 unfold join
 cases q:F b with
 |some u=>
  have h1:=s.st.fh b u q
  rw[s.ext.hh b o e] at h1
  exact h1.symm
 |none=>exact e
theorem Inv.refrz{X:Cx}{pins:List (Addr×Obj)}{σ:St}{H:Hp}{s:Shared}{a:Addr}{o o':HO}(I:Inv X pins σ H s)(e:H a=some o)
 (ho:o'=o∨∃u,o'= .frz ((s.heap.get? a).getD {cls:= .none,data:= .fields #[]}) u∧((∃k,o= .dT k∧u= .dT k)∨∃k,o= .dK k∧u= .dK k)):Inv X pins σ (upd H a o') s:=by
 rcases ho with rfl | ⟨u,rfl,hu⟩
 ·have:upd H a o'=H:=by
   funext b
   by_cases z:b=a
   ·rw[z,aE,e]
   ·rw[av z]
  rw[this];exact I
 have Io:o=u:=by rcases hu with⟨k,h1,h2⟩ | ⟨k,h1,h2⟩<;>rw[h1,h2]
 subst Io
 have nt:∀ts,o≠ .tup ts:=fun ts z=>by rcases hu with⟨k,h1,_⟩ | ⟨k,h1,_⟩<;>rw[h1] at z<;>cases z
 have nf:∀ob v,o≠ .frz ob v:=fun ob v z=>by rcases hu with⟨k,h1,_⟩ | ⟨k,h1,_⟩<;>rw[h1] at z<;>cases z
 have nb:∀p,o≠ .tbl p:=fun p z=>by rcases hu with⟨k,h1,_⟩ | ⟨k,h1,_⟩<;>rw[h1] at z<;>cases z
 have no:∀p,o≠ .own p:=fun p z=>by rcases hu with⟨k,h1,_⟩ | ⟨k,h1,_⟩<;>rw[h1] at z<;>cases z
 have ne:∀b,H b=none→b≠a:=fun b hb z=>by rw[z,e] at hb;cases hb
 have hk:=I.hok a o e
 have gr:=hk.lt
 obtain⟨ob,C0⟩:∃ob,s.heap.get? a=some ob:=by
  rcases hu with⟨k,h1,_⟩ | ⟨k,h1,_⟩
  ·subst h1;obtain⟨_,_,_,_,ob,_,_,q,_⟩:=hk;exact⟨ob,q⟩
  ·subst h1;obtain⟨_,_,_,_,ob,_,_,q,_⟩:=hk;exact⟨ob,q⟩
 rw[C0]
 refine⟨I.ok,I.os,I.bare,⟨I.base.keep,I.base.slot,fun b q h1 h2 h3=>?_,I.base.there,fun b xs q=>?_,fun b q1 v q=>?_,fun b ps q=>?_⟩,I.loc,I.cell,?_,fun x c q=>?_,fun p hp=>?_,fun b v q=>?_,I.len⟩
 ·have:=I.base.free b q h1 h2 h3
  rw[av (ne b this)];exact this
 ·have:=I.base.tups b xs q
  rw[av (fun z=>by rw[z,e] at this;exact nt xs (Option.some.inj this))];exact this
 ·have:=I.base.frzs b q1 v q
  rw[av (fun z=>by rw[z,e] at this;exact nf _ _ (Option.some.inj this))];exact this
 ·obtain⟨m,this⟩:=I.base.tbls b ps q
  exact⟨m,by rw[av (fun z=>by rw[z,e] at this;exact nb _ (Option.some.inj this))];exact this⟩
 ·rw[av (ne _ I.free)];exact I.free
 ·rw[av (ne _ (I.freeC x c q))];exact I.freeC x c q
 ·obtain⟨h1,h2,h3⟩:=I.pin p hp
  exact⟨h1,by rw[av (ne _ h2)];exact h2,h3⟩
 ·have st:∀{c:Addr}{v:HO},ObjOk X.prog X.w H s.heap c v→ObjOk X.prog X.w (upd H a (.frz ob o)) s.heap c v:=fun {c v} k=>k.stay (fun _ _ _ q=>q)
   (fun c' q=>by rw[av (fun z=>by rw[z,e] at q;exact no _ (Option.some.inj q))];exact q) fun c' xs q=>by rw[av (fun z=>by rw[z,e] at q;exact nt _ (Option.some.inj q))];exact q
  by_cases z:b=a
  ·subst z
   rw[show (some ob).getD _=ob from rfl,aE] at q
   cases q
   exact⟨C0,st hk⟩
  ·rw[av z] at q
   exact st (I.hok b v q)
def aA(a b:DS):DS:=fun ρ=>a ρ>>=fun o=>match o with | .nx ρ'=>b ρ' | .rt d=>M.ret (.rt d)
def ba:DS:=fun ρ=>M.ret (.nx ρ)
def aO(δ:DE):DS:=fun ρ=>δ ρ>>=fun d=>M.ret (.rt d)
def gX(δ:DE):DS:=fun ρ=>δ ρ>>=fun _=>M.ret (.nx ρ)
def bp(i:Nat)(δ:DE):DS:=fun ρ=>δ ρ>>=fun d=>M.ret (.nx (ρ.set i (some (.fz d))))
def cK(c:DT)(a b:DS):DS:=fun ρ=>c ρ>>=fun x=>if x then a ρ else b ρ
def y8(i:Nat)(a:DS):DS:=fun ρ=>a (frz i ρ)
def y9(i:Nat):DS:=fun ρ=>M.ret (.nx (ρ.set i (some (.ow (.lst [])))))
def yA(ρ:aW)(i:Nat):Option (List D):=match ρ[i]? with
 |some (some (.ow (.lst ds)))=>some ds
 |_=>none
theorem uR{ρ:aW}{i:Nat}{ds:List D}(h:yA ρ i=some ds):ρ[i]? =some (some (.ow (.lst ds))):=by
 unfold yA at h
 split at h
 ·rename_i I8 e
  cases h
  exact e
 ·cases h
def lK(i:Nat)(δ:DE):DS:=fun ρ=>match yA ρ i with
 |some ds=>δ ρ>>=fun d=>if ds.length<lim then M.ret (.nx (ρ.set i (some (.ow (.lst (ds++[d])))))) else M.stuck
 |none=>M.stuck
def forL(put:D→aW→Option aW)(body:DS):List D→DS
 |[],ρ=>M.ret (.nx ρ)
 |d::ds,ρ=>(match put d ρ with | none=>M.stuck | some ρ1=>body ρ1>>=fun o=>match o with | .nx ρ2=>forL put body ds ρ2 | .rt v=>M.ret (.rt v))
def putN(i:Nat):D→aW→Option aW:=fun d ρ=>some (ρ.set i (some (.fz d)))
def e9(put:D→aW→Option aW)(δi:DA)(body:DS):DS:=fun ρ=>δi ρ>>=fun ds=>forL put body ds ρ
section
variable{X:Cx}{Xw:Nat→Hp→Prop}{F₀ H₀:Hp}{st:Stmt}{rest:List Stmt}{τ τ':DS}{e:Expr}{δ:DE}{pos:Pos}
theorem aH:PSDs X Xw [] ba:=fun F₀ H₀=>PSs.weak yU fun D σ H ⟨F,ρ,s,w⟩=>w σ F H s
theorem af(h1:j3 X Xw st τ)(h2:PSDs X Xw rest τ'):PSDs X Xw (st::rest) (aA τ τ'):=fun F₀ H₀=>PSs.weak (wQ (h1 F₀ H₀) (h2 F₀ H₀)) fun D σ H ⟨F,ρ,s,w⟩=>by
 refine⟨F,ρ,s,?_⟩
 unfold aA at w
 match τ ρ,w with
 |none,w=>exact w
 |some (.ok (.nx ρ')),w=>exact fun σ' F' H' s'=>⟨F',ρ',s',w⟩
 |some (.ok (.rt d)),w=>exact w
 |some (.ex n),w=>exact w
theorem ai(h1:j3 X Xw st τ):PSDs X Xw [st] τ:=fun F₀ H₀=>yV (h1 F₀ H₀)
theorem iL{i:Nat}(h:j3 X Xw st τ):j3 X Xw st (y8 i τ):=fun F₀ H₀ pins sh σ H D I ⟨F,ρ,s,w⟩=>by
 rcases s.frz i (fun a=>(sh.heap.get? a).getD {cls:= .none,data:= .fields #[]}) with⟨a,o,ha,hc,hσ,s'⟩ | e
 ·refine h F₀ H₀ pins sh σ _ D (L3.Inv.refrz I ha ?_) ⟨_,_,s',w⟩
  generalize (ρ[i]?.elim (C.lst []) fun x=>x.elim (.lst []) fun y=>match y with | .ow c=>c | _=> .lst [])=c at hc
  cases c with
  |lst ds=>obtain⟨vs,rfl,_⟩:=hc;exact .inl rfl
  |dct ks ds=>obtain⟨vs,rfl,_⟩:=hc;exact .inr ⟨_,rfl, .inl ⟨_,rfl,rfl⟩⟩
  |dci ks ds=>obtain⟨vs,rfl,_⟩:=hc;exact .inr ⟨_,rfl, .inr ⟨_,rfl,rfl⟩⟩
 ·exact h F₀ H₀ pins sh σ H D I ⟨F,ρ,s,by unfold y8 at w;rw[e] at w;exact w⟩
theorem au(h:PD X Xw e δ):j3 X Xw (.Return (some e) pos) (aO δ):=fun F₀ H₀=>PS.weak (BA h) fun D σ H ⟨F,ρ,s,w⟩=>by
 refine⟨F,ρ,s.st,?_⟩
 unfold aO at w
 match δ ρ,w with
 |none,w=>exact w
 |some (.ok d),w=>exact fun v H' F' e' q=>w v F' H' (s.ext.trans e') q
 |some (.ex n),w=>exact fun F' H' e'=>w F' H' (s.ext.trans e')
theorem cG(h:PD X Xw e δ)(hs:swapsWith e none pos.line X.env=pure false:=by rfl):j3 X Xw (.Expr e pos) (gX δ):=fun F₀ H₀=>PS.weak (tO h hs) fun D σ H ⟨F,ρ,s,w⟩=>by
 refine⟨F,ρ,s.st,?_⟩
 unfold gX at w
 match δ ρ,w with
 |none,w=>exact w
 |some (.ok d),w=>exact fun v H' F' e' q=>w σ F' H' (s.ext' e')
 |some (.ex n),w=>exact fun F' H' e'=>w F' H' (s.ext.trans e')
theorem aT{i:Nat}{x:Str}{pos':Pos}(hN:X.N.Nodup)(hi:X.N[i]? =some x)(hx:Loc X.env.scope x)(he:PD X Xw e δ)(hf:X.fn x=true∨X.env.scope.names.lookup x=some .local:=by first | exact .inl rfl | exact .inr rfl)
 (hs:swapsWithSole [.Name x pos'] e pos.line X.env=pure false:=by rfl):
 j3 X Xw (.Assign [.Name x pos'] e pos) (bp i δ):=fun F₀ H₀=>PS.weak (oJ he (cb hN hi hx hf) hs) fun D σ H ⟨F,ρ,s,w⟩=>by
 refine⟨F,ρ,s.st,?_⟩
 unfold bp at w
 match δ ρ,w with
 |none,w=>exact w
 |some (.ok d),w=>exact fun v H' F' e' q=>w _ F' H' ((s.ext' e').set q)
 |some (.ex n),w=>exact fun F' H' e'=>w F' H' (s.ext.trans e')
theorem jR{elt iter tg:Expr}{ifs:List Expr}{scope:Scope}{bo:Pos}{tn:List Str}{n:Nat}{δi:DA}{δt:DT}{δe:DE}{i:Nat}{x:Str}{pos':Pos}(hN:X.N.Nodup)(xD:X.N[i]? =some x)(hx:Loc X.env.scope x)
 (sc:CompSc X scope tn)(hn:tn.length=max n 1)(hc:X.calm=true)(hi:t5 X Xw tg iter δi)
 (hg:∀pins cl C fp s₂ H σ,vh (gq X scope tn pins cl C fp s₂ H) tg n σ)
 (ht:∀pins cl C fp s₂ H,iW (gq X scope tn pins cl C fp s₂ H) ifs δt)
 (he:∀pins cl C fp s₂ H,PD (gq X scope tn pins cl C fp s₂ H) (fun _ _=>False) elt δe)
 (hf:X.fn x=true∨X.env.scope.names.lookup x=some .local:=by first | exact .inl rfl | exact .inr rfl)
 (Iy:swapsWith (.ListComp elt [⟨tg,iter,ifs,0⟩] scope bo) (some (.Name x pos')) pos.line X.env=pure true:=by rfl)
 (hs:∀x,foldedSetIterable iter X.env x=pure x:=by intro _;rfl):
 j3 X Xw (.Assign [.Name x pos'] (.ListComp elt [⟨tg,iter,ifs,0⟩] scope bo) pos) (bp i (bb n δi δt δe)):=fun F₀ H₀ pins s σ H D I ⟨F,ρ,S,w⟩=>by
 obtain⟨cl,vS,vB,B1⟩:=km (scope:=scope) (env:=X.env) fun y hy hf=>I.ok.has y.1 (sc.frees y hy hf)
 have w':WP X.K Xw F H (bb n δi δt δe ρ) (fun v H'=>D.nx (σ.set i (some v)) H'):=by
  have w:WPS X.K Xw F₀ H₀ (bb n δi δt δe ρ>>=fun d=>M.ret (.nx (ρ.set i (some (.fz d))))) D:=w
  match bb n δi δt δe ρ,w with
  |none,w=>exact w
  |some (.ok d),w=>exact fun v H' F' e' q=>w _ F' H' ((S.ext' e').set q)
  |some (.ex n),w=>exact fun F' H' e'=>w F' H' (S.ext.trans e')
 rw[exec_Assign_Name_used _ _ _ _ Iy]
 refine wpAny_bind (wpAny_standAt (wpAny_bind ?_))
 show wpAny _ X.A (do let _←comprehension (.ListComp elt [⟨tg,iter,ifs,0⟩] scope bo) scope X.env _ (newList []) false (eval iter X.env) (some (assign (.Name x pos') X.env))) _ _ s
 refine wpAny_bind (wpAny_mono (wpAny_comprehension_free (use:=some (assign (.Name x pos') X.env)) (Q:=fun _ s'=>SP X pins D .next s') rfl hs vS sc.kind sc.names
  (pB (RR:=fun acc C=>compPost (model X.prog X.w) X.A X.xe (some (assign (.Name x pos') X.env)) (fun _ s'=>SP X pins D .next s') acc C) sc hn hc hi hg ht he I S.st w' vB B1 fun s1 C D' H' I1 q b=>?_)) (fun _ s' hq=>wpAny_pure (wpAny_pure hq)) fun _ _ e=>e)
 show wpAny _ X.A (assign (.Name x pos') X.env (.ref D')) _ _ _
 refine wpAny_assign_Name (nP I1 hN xD hx (v:= .ref D') rfl (fun s2 I2 ⟨a,sb,ha⟩=>?_) hf)
 have Hx:C≠a:=by
  rcases ha with z | z
  ·rw[z];exact b.nl
  ·exact Ne.symm (b.nc x a z)
 obtain⟨m,hm⟩:=b.ns
 have Ay:s2.heap.Ns C m:=hm.sameBut sb Hx
 refine⟨m,Ay,fun h' xE=>⟨_,H',Inv.block I2 ⟨⟨m,Ay⟩,b.free,b.nl,b.nw,b.nc,b.np⟩ xE,q⟩⟩
theorem aQ{c:Expr}{a b:List Stmt}{tc:DT}(hc:lZ X Xw c tc)(ha:PSDs X Xw a τ)(hb:PSDs X Xw b τ'):j3 X Xw (.If c a b pos) (cK tc τ τ'):=fun F₀ H₀=>PS.weak (Dw hc (ha F₀ H₀) (hb F₀ H₀)) fun D σ H ⟨F,ρ,s,w⟩=>by
 refine⟨F,ρ,s.st,?_⟩
 unfold cK at w
 match tc ρ,w with
 |none,w=>exact w
 |some (.ok true),w=>exact fun H' F' e'=>⟨F',ρ,s.ext' e',w⟩
 |some (.ok false),w=>exact fun H' F' e'=>⟨F',ρ,s.ext' e',w⟩
 |some (.ex n),w=>exact fun F' H' e'=>w F' H' (s.ext.trans e')
theorem tP{i:Nat}{x:Str}{pos' se:Pos}(hN:X.N.Nodup)(hi:X.N[i]? =some x)(hx:Loc X.env.scope x)(hf:X.fn x=true∨X.env.scope.names.lookup x=some .local:=by first | exact .inl rfl | exact .inr rfl):
 j3 X Xw (.Assign [.Name x pos'] (.List [] se) pos) (y9 i):=fun F₀ H₀=>PS.weak (oJ (r_ r0) (cb hN hi hx hf) rfl) fun D σ H ⟨F,ρ,s,w⟩=>by
 refine⟨Nat.zero_le _,fun p hp=>?_⟩
 exact w _ F _ (s.setNew (c₀:= .lst []) hp ⟨[],rfl,rfl,Nat.zero_le _⟩)
def zm(K:W.Frag)(g:TG)(put:D→aW→Option aW):Prop:=∀(F₀ H₀ F H:Hp) (σ:St) (ρ ρ':aW) (d:D) (v:V) (Q:St→Hp→Prop),StOk K F₀ H₀ F H σ ρ→Den K F d v→put d ρ=some ρ'→
 (∀σ',StOk K F₀ H₀ F H σ' ρ'→Q σ' H)→g v σ H Q
theorem c5{K:W.Frag}{i:Nat}:zm K (zA i) (putN i):=fun F₀ H₀ F H σ ρ ρ' d v Q s q e k=>by
 cases e
 exact k _ (s.set q)
def IU(K:W.Frag)(Xw:Nat→Hp→Prop)(τ:DS):TS:=fun D σ H=>∃F₀ H₀,tS K Xw F₀ H₀ τ D σ H
theorem PSDs.ex{body:List Stmt}(h:PSDs X Xw body τ):PSs X body (IU X.K Xw τ):=fun pins s σ H D I ⟨F₀,H₀,w⟩=>h F₀ H₀ pins s σ H D I w
theorem d3{tg iter:Expr}{body:List Stmt}{δi:DA}{g:TG}{put:D→aW→Option aW}(hp:PassesOwn (model X.prog X.w) X.A X.env X.xe)(hc:X.calm=true)(hi:t5 X Xw tg iter δi)(hg:PG X tg g)(AH:zm X.K g put)(hb:PSDs X Xw body τ)
 (hs:∀x,foldedSetIterable iter X.env x=pure x:=by intro _;rfl):j3 X Xw (.For tg iter body [] pos) (e9 put δi τ):=fun F₀ H₀=>PS.weak (Bz hp hc hi hg hb.ex hs) fun D σ H ⟨F,ρ,s,w⟩=>by
 refine⟨F,ρ,s.st,?_⟩
 unfold e9 at w
 match δi ρ,w with
 |none,w=>exact w
 |some (.ex n),w=>exact fun F' H' e'=>w F' H' (s.ext.trans e')
 |some (.ok ds),w=>
  have w:WPS X.K Xw F₀ H₀ (forL put τ ds ρ) D:=w
  intro J H1 F1 e1 G1
  obtain⟨s1,back⟩:=(s.ext' e1).rebase
  have hU:=uA (s.ext' e1)
  generalize join F1 H₀=U at s1 back hU
  refine⟨fun i m σ H=>m=ds.length - i∧i≤ds.length∧∃F ρ,StOk X.K F1 U F H σ ρ∧WPS X.K Xw F₀ H₀ (forL put τ (ds.drop i) ρ) D,⟨ds.length,by simp,Nat.zero_le _,F1,ρ,s1,by simpa using w⟩,?_⟩
  rintro i m σ2 H2 ⟨rfl,E0,F2,ρ2,s2,w2⟩
  by_cases gr:i<ds.length
  ·obtain⟨d,hd⟩:∃d,ds[i]? =some d:=⟨_,List.getElem?_eq_getElem gr⟩
   obtain⟨EY,AJ⟩:=(G1 F2 H2 i s2.ext.ff s2.st.fh).1 d hd
   have ed:ds.drop i=d::ds.drop (i+1):=by
    obtain⟨hi,e⟩:=List.getElem?_eq_some_iff.mp hd
    rw[List.drop_eq_getElem_cons hi,e]
   rw[ed] at w2
   unfold forL at w2
   refine .inr ⟨EY,fun σ' H'=>∃F' ρ',StOk X.K F1 U F' H' σ' ρ'∧WPS X.K Xw F₀ H₀ (forL put τ (ds.drop (i+1)) ρ') D,fun σ' H' ⟨F',ρ',h2,h3⟩=>⟨ds.length - (i+1),by omega,rfl,gr,F',ρ',h2,h3⟩,fun x H3 y3=>?_⟩
   obtain⟨F3,xB,q3⟩:=AJ x H3 y3
   match Ip:put d ρ2,w2 with
   |none,w2=>exact w2.elim
   |some ρ3,w2=>
    refine AH F1 U F3 H3 σ2 ρ2 ρ3 d x _ (s2.ext' xB) q3 Ip fun σ3 s3=>⟨F1,U,F3,ρ3,s3,?_⟩
    have w2:WPS X.K Xw F₀ H₀ (τ ρ3>>=fun o=>match o with | .nx ρ2=>forL put τ (ds.drop (i+1)) ρ2 | .rt v=>M.ret (.rt v)) D:=w2
    match τ ρ3,w2 with
    |none,w2=>exact w2
    |some (.ok (.nx ρ')),w2=>exact fun σ' F' H' s'=>⟨F',ρ',s',w2⟩
    |some (.ok (.rt d)),w2=>exact fun v F' H' e q=>w2 v F' H' (back _ _ e) q
    |some (.ex n),w2=>exact fun F' H' e=>w2 F' H' (back _ _ e)
  ·have hi:i=ds.length:=by omega
   subst hi
   rw[List.drop_length] at w2
   exact .inl ⟨(G1 F2 H2 ds.length s2.ext.ff s2.st.fh).2 (Nat.le_refl _),w2 σ2 F2 H2 (s2.unbase back hU)⟩
end
def gI(f:Int→Int→D):D→D→M D
 | .int i, .int j=>M.ret (f i j)
 |_,_=>M.stuck
def CC(c:Int→Int→Bool)(f:Int→Int→D):D→D→M D
 | .int i, .int j=>if c i j then M.ret (f i j) else M.stuck
 |_,_=>M.stuck
theorem tF{K:W.Frag}{gv:Int→Int→V}{gd:Int→Int→D}(h:∀F i j,Den K F (gd i j) (gv i j)):pe K (tT gv) (gI gd):=fun Xw F H x y dx dy Q s hx hy w=>by
 unfold gI at w
 split at w
 ·rename_i i j
  exact⟨i,j,hx,hy,WP.now w s (h F i j)⟩
 ·exact w.elim
theorem rY{K:W.Frag}{gv:Int→Int→V}{gd:Int→Int→D}{c:Int→Int→Bool}{C:Int→Int→Prop}(h:∀F i j,Den K F (gd i j) (gv i j))(hc:∀i j,c i j=true→C i j):pe K (rI C gv) (CC c gd):=fun Xw F H x y dx dy Q s hx hy w=>by
 unfold CC at w
 split at w
 ·rename_i i j
  split at w
  ·rename_i D9
   exact⟨i,j,hx,hy,hc i j D9,WP.now w s (h F i j)⟩
  ·exact w.elim
 ·exact w.elim
def bF:=gI fun i j=> .int (i+j)
def oh:=gI fun i j=> .int (i - j)
def dP:=CC (fun i j=>decide ((-(2 ^ 64)<i∧i<2 ^ 64)∨(-(2 ^ 64)<j∧j<2 ^ 64))) fun i j=> .int (i*j)
def l6:=CC (fun _ j=>decide (0<j∧j<1073741824)) fun i j=> .int (i / j)
def gj:=CC (fun _ j=>decide (0<j)) fun i j=> .int (i % j)
def zy:=gI fun i j=> .bl (decide (j<i))
section
variable{X:Cx}{Xw:Nat→Hp→Prop}{a b:Expr}{δa δb:DE}{pos:Pos}
theorem bA(ha:PD X Xw a δa)(hb:PD X Xw b δb):PD X Xw (.BinOp a .Add b pos) (d2 bF δa δb):=lu A7 (tF fun _ _ _=>rfl) ha hb
theorem ly(ha:PD X Xw a δa)(hb:PD X Xw b δb):PD X Xw (.BinOp a .Sub b pos) (d2 oh δa δb):=lu Bc (tF fun _ _ _=>rfl) ha hb
theorem e7(ha:PD X Xw a δa)(hb:PD X Xw b δb):PD X Xw (.BinOp a .Mult b pos) (d2 dP δa δb):=lu Ba (rY (fun _ _ _=>rfl) fun i j h=>by unfold CMul;exact of_decide_eq_true h) ha hb
theorem oH(ha:PD X Xw a δa)(hb:PD X Xw b δb):PD X Xw (.BinOp a .FloorDiv b pos) (d2 l6 δa δb):=lu yq (rY (fun _ _ _=>rfl) fun i j h=>by unfold Cd;exact of_decide_eq_true h) ha hb
theorem gT(ha:PD X Xw a δa)(hb:PD X Xw b δb):PD X Xw (.BinOp a .Mod b pos) (d2 gj δa δb):=lu A_ (rY (fun _ _ _=>rfl) fun i j h=>of_decide_eq_true h) ha hb
theorem zZ(ha:PD X Xw a δa)(hb:PD X Xw b δb):lZ X Xw (.Compare a [.Gt] [b] pos) (bN (d2 zy δa δb)):=gf Dl (tF fun _ _ _=>rfl) ha hb
def ck:D→D→M D
 | .lst ds, .int i=>match atI ds i with | some d=>M.ret d | none=>M.stuck
 |_,_=>M.stuck
def bh:D→D→M D
 | .tup ds, .int i=>match atI ds i with | some d=>M.ret d | none=>M.stuck
 |_,_=>M.stuck
def vP:D→D→M D
 | .scr ns, .int i=>match atI ns i with | some n=>M.ret (.int n) | none=>M.stuck
 |_,_=>M.stuck
def og:D→D→M D
 | .str x, .int i=>match atI x.cps.toList i with | some c=>M.ret (.str ⟨#[c]⟩) | none=>M.stuck
 |_,_=>M.stuck
theorem DenL.atI{K:W.Frag}{F:Hp}{ds:List D}{vs:List V}(h:DenL K F ds vs){i:Int}{d:D}(e:L2.atI ds i=some d):∃v,L2.atI vs i=some v∧Den K F d v:=by
 unfold L2.atI at e⊢
 rw[←h.len]
 cases q:xF ds.length i with
 |none=>rw[q] at e;cases e
 |some j=>
  rw[q] at e
  exact h.get e
theorem yt{K:W.Frag}:pe K (BG K) ck:=fun Xw F H x y dx dy Q s hx hy w=>by
 unfold ck at w
 split at w
 ·rename_i ds i
  obtain⟨a,vs,h1,h2,h3,h4⟩:=hx
  split at w
  ·rename_i d e
   obtain⟨v,e1,q⟩:=h3.atI e
   exact⟨a,vs,i,v,h1,hy,SqL.of (s _ _ h2),e1,WP.now w s q⟩
  ·exact w.elim
 ·exact w.elim
theorem yx{K:W.Frag}:pe K (DH K) bh:=fun Xw F H x y dx dy Q s hx hy w=>by
 unfold bh at w
 split at w
 ·rename_i ds i
  obtain⟨a,vs,h1,h2,h3,h4⟩:=hx
  split at w
  ·rename_i d e
   obtain⟨v,e1,q⟩:=h3.atI e
   exact⟨a,vs,i,v,h1,hy,SqT.of (s _ _ h2),e1,WP.now w s q⟩
  ·exact w.elim
 ·exact w.elim
theorem yu{K:W.Frag}:pe K (BG K) vP:=fun Xw F H x y dx dy Q s hx hy w=>by
 unfold vP at w
 split at w
 ·rename_i ns i
  obtain⟨a,h1,h2,h3⟩:=hx
  split at w
  ·rename_i n e
   refine⟨a,_,i, .int n,h1,hy,Same.seq s h2,?_,WP.now w s rfl⟩
   unfold L2.atI at e⊢
   rw[List.length_map]
   cases q:xF ns.length i with
   |none=>rw[q] at e;cases e
   |some j=>
    rw[q] at e
    have e:ns[j]? =some n:=e
    show (ns.map V.int)[j]? =some (.int n)
    rw[List.getElem?_map,e];rfl
  ·exact w.elim
 ·exact w.elim
theorem yw{K:W.Frag}:pe K DG og:=fun Xw F H x y dx dy Q s hx hy w=>by
 unfold og at w
 split at w
 ·rename_i z i
  obtain⟨h1,h2⟩:=hx
  split at w
  ·rename_i c e
   exact⟨z,i,c,h1,hy,by have:=c8;omega,e,WP.now w s ⟨rfl,by show 1≤lim;decide⟩⟩
  ·exact w.elim
 ·exact w.elim
theorem eZ(ha:PD X Xw a δa)(hb:PD X Xw b δb)(hs:fZ b:=by intro _ _;rfl):PD X Xw (.Subscript a b pos) (d2 ck δa δb):=tK tj yt ha hb hs
theorem Bj(ha:PD X Xw a δa)(hb:PD X Xw b δb)(hs:fZ b:=by intro _ _;rfl):PD X Xw (.Subscript a b pos) (d2 vP δa δb):=tK tj yu ha hb hs
theorem bH(ha:PD X Xw a δa)(hb:PD X Xw b δb)(hs:fZ b:=by intro _ _;rfl):PD X Xw (.Subscript a b pos) (d2 bh δa δb):=tK AV yx ha hb hs
theorem wF(ha:PD X Xw a δa)(hb:PD X Xw b δb)(hs:fZ b:=by intro _ _;rfl):PD X Xw (.Subscript a b pos) (d2 og δa δb):=tK AU yw ha hb hs
def fk:D→D→M D
 | .lst x, .lst y=>if x.length+y.length≤lim then M.ret (.lst (x++y)) else M.stuck
 |_,_=>M.stuck
theorem fW(x y:Str):(x++y).length=x.length+y.length:=by
 show (x.cps++y.cps).size=_
 simp[Str.length]
theorem j_(ha:PD X Xw a δa)(hb:PD X Xw b δb):PD X Xw (.BinOp a .Add b pos) (d2 fk δa δb):=lu A8 (fun Xw F H x y dx dy Q s hx hy w=>by
 unfold fk at w
 split at w
 ·rename_i i j
  obtain⟨a,vs,h1,h2,h3,h4⟩:=hx
  obtain⟨a',xr,k1,k2,k3,k4⟩:=hy
  split at w
  ·rename_i hl
   have e1:=h3.len
   have e2:=k3.len
   have:=c8
   refine⟨a,a',vs,xr,h1,k1,s _ _ h2,s _ _ k2,by omega,fun p hp=>?_⟩
   exact WP.fin w (Ext.lay s hp) ⟨p,_,rfl,aE,DenL.mono (Ext.lay s hp).ff (h3.append k3),by rw[List.length_append];exact hl⟩
  ·exact w.elim
 ·exact w.elim) ha hb
end
end L3
namespace L3
open PySem PySem.Spec L2 SeqAt
open PyProof.Rows hiding St
def kz(f:D→D→Option Bool):List D→List D→Option Bool
 |[],[]=>some true
 |x::xs,y::ys=>match f x y,kz f xs ys with
  |some b,some r=>some (b&&r)
  |_,_=>none
 |[],_::_=>some false
 |_::_,[]=>some false
def rn:D→D→Option Bool
 | .non, .non=>some true
 | .bl a, .bl b=>some (a==b)
 | .bl a, .int j=>some ((if a then 1 else 0)==j)
 | .int i, .bl b=>some (i==(if b then 1 else 0))
 | .int i, .int j=>some (i==j)
 | .str x, .str y=>some (x==y)
 | .non, .bl _=>some false
 | .non, .int _=>some false
 | .non, .str _=>some false
 | .non, .lst _=>some false
 | .non, .tup _=>some false
 | .bl _, .non=>some false
 | .bl _, .str _=>some false
 | .bl _, .lst _=>some false
 | .bl _, .tup _=>some false
 | .int _, .non=>some false
 | .int _, .str _=>some false
 | .int _, .lst _=>some false
 | .int _, .tup _=>some false
 | .str _, .non=>some false
 | .str _, .bl _=>some false
 | .str _, .int _=>some false
 | .str _, .lst _=>some false
 | .str _, .tup _=>some false
 | .lst _, .non=>some false
 | .lst _, .bl _=>some false
 | .lst _, .int _=>some false
 | .lst _, .str _=>some false
 | .lst _, .tup _=>some false
 | .tup _, .non=>some false
 | .tup _, .bl _=>some false
 | .tup _, .int _=>some false
 | .tup _, .str _=>some false
 | .tup _, .lst _=>some false
 |_,_=>none
def iV:Nat→D→D→Option Bool
 |n+1, .tup xs, .tup ys=>kz (iV n) xs ys
 |n+1, .lst xs, .lst ys=>kz (iV n) xs ys
 |n+1, .scr xs, .lst ys=>kz (iV n) (xs.map D.int) ys
 |_,x,y=>rn x y
structure EqAll (A:Around) (s:Shared) (u v:Value) (b:Bool):Prop where
 rc:RcAt A s u v b
 ne:RcNeAt A s u v (!b)
 eq:EqAt A s u v b
section
variable{X:Cx}{pins:List (Addr×Obj)}{σ:St}{F H:Hp}{s:Shared}{A:Around}
theorem c_(I:Inv X pins σ H s)(hs:Same F H){ds:List D}{v:V}{u:Value}(h:Den X.K F (.tup ds) v)(r:RelV v u):∃a vs aG,u= .ref a∧v= .ref a∧F a=some (.tup vs)∧DenL X.K F ds vs∧Vals vs aG∧s.heap.IsTuple a aG.toArray:=by
 obtain⟨a,vs,rfl,h2,h3,h4⟩:=h
 obtain⟨aG,r1,p1,_⟩:=I.tuple (SqT.of (hs _ _ h2))
 exact⟨a,vs,aG,r,rfl,h2,h3,r1,p1⟩
theorem cP(I:Inv X pins σ H s)(hs:Same F H){ds:List D}{v:V}{u:Value}(h:Den X.K F (.lst ds) v)(r:RelV v u):∃a vs aG,u= .ref a∧v= .ref a∧F a=some (.lst vs)∧DenL X.K F ds vs∧Vals vs aG∧s.heap.IsList a aG.toArray:=by
 obtain⟨a,vs,rfl,h2,h3,h4⟩:=h
 obtain⟨aG,r1,p1,_⟩:=I.list (SqL.of (hs _ _ h2))
 exact⟨a,vs,aG,r,rfl,h2,h3,r1,p1.isList⟩
theorem BM(I:Inv X pins σ H s)(hs:Same F H){ns:List Int}{v:V}{u:Value}(h:Den X.K F (.scr ns) v)(r:RelV v u):∃a aG,u= .ref a∧v= .ref a∧SqL X.K F a (ns.map V.int)∧Vals (ns.map V.int) aG∧s.heap.IsList a aG.toArray:=by
 obtain⟨a,rfl,h2,h3⟩:=h
 obtain⟨aG,r1,p1,_⟩:=I.list (Same.seq hs h2)
 exact⟨a,aG,r,rfl,h2,r1,p1.isList⟩
theorem pM(I:Inv X pins σ H s)(hs:Same F H)(hu:A.units<cLine){x y:D}{v w:V}{u t:Value}{b:Bool}(hx:Den X.K F x v)(hy:Den X.K F y w)(rx:RelV v u)(ry:RelV w t)(e:rn x y=some b):EqAll A s u t b:=by
 cases x with
 |non=>
  cases y with
  |non=>
   cases e
   cases (show _=_ from hx)
   cases rx
   cases (show _=_ from hy)
   cases ry
   exact⟨RcAt.none_none,RcNeAt.none_none,EqAt.same _⟩
  |bl d=>
   cases e
   cases (show _=_ from hx)
   cases rx
   cases (show _=_ from hy)
   cases ry
   exact⟨RcAt.none_bool _,RcNeAt.none_bool _,EqAt.none_bool _⟩
  |int d=>
   cases e
   cases (show _=_ from hx)
   cases rx
   cases (show _=_ from hy)
   obtain⟨t2,rfl⟩:=ry
   exact⟨RcAt.none_int _ _,RcNeAt.none_int _ _,EqAt.none_int _ _⟩
  |str d=>
   cases e
   cases (show _=_ from hx)
   cases rx
   cases (show _=_ from hy.1)
   obtain⟨t2,rfl⟩:=ry
   exact⟨RcAt.none_str _ _,RcNeAt.none_str _ _,EqAt.none_str _ _⟩
  |raw d=>cases e
  |dct _ _=>cases e
  |dci _ _=>cases e
  |exc d=>cases e
  |scr d=>cases e
  |tup d=>
   cases e
   cases (show _=_ from hx)
   cases rx
   obtain⟨a2,_,_,rfl,_,_,_,_,p2⟩:=c_ I hs hy ry
   exact⟨RcAt.none_tuple p2 hu,RcNeAt.none_tuple p2 hu,EqAt.none_tuple p2 hu⟩
  |lst d=>
   cases e
   cases (show _=_ from hx)
   cases rx
   obtain⟨a2,_,_,rfl,_,_,_,_,p2⟩:=cP I hs hy ry
   exact⟨RcAt.none_list p2 hu,RcNeAt.none_list p2 hu,EqAt.none_list p2 hu⟩
 |bl c=>
  cases y with
  |non=>
   cases e
   cases (show _=_ from hx)
   cases rx
   cases (show _=_ from hy)
   cases ry
   exact⟨RcAt.bool_none _,RcNeAt.bool_none _,EqAt.bool_none _⟩
  |bl d=>
   cases e
   cases (show _=_ from hx)
   cases rx
   cases (show _=_ from hy)
   cases ry
   exact⟨RcAt.bool_bool _ _,RcNeAt.bool_bool _ _,EqAt.bool_bool _ _⟩
  |int d=>
   cases e
   cases (show _=_ from hx)
   cases rx
   cases (show _=_ from hy)
   obtain⟨t2,rfl⟩:=ry
   exact⟨RcAt.bool_int _ _ _,RcNeAt.bool_int _ _ _,EqAt.bool_int _ _ _⟩
  |str d=>
   cases e
   cases (show _=_ from hx)
   cases rx
   cases (show _=_ from hy.1)
   obtain⟨t2,rfl⟩:=ry
   exact⟨RcAt.bool_str _ _ _,RcNeAt.bool_str _ _ _,EqAt.bool_str _ _ _⟩
  |raw d=>cases e
  |dct _ _=>cases e
  |dci _ _=>cases e
  |exc d=>cases e
  |scr d=>cases e
  |tup d=>
   cases e
   cases (show _=_ from hx)
   cases rx
   obtain⟨a2,_,_,rfl,_,_,_,_,p2⟩:=c_ I hs hy ry
   exact⟨RcAt.bool_tuple _ p2 hu,RcNeAt.bool_tuple _ p2 hu,EqAt.bool_tuple _ p2 hu⟩
  |lst d=>
   cases e
   cases (show _=_ from hx)
   cases rx
   obtain⟨a2,_,_,rfl,_,_,_,_,p2⟩:=cP I hs hy ry
   exact⟨RcAt.bool_list _ p2 hu,RcNeAt.bool_list _ p2 hu,EqAt.bool_list _ p2 hu⟩
 |int c=>
  cases y with
  |non=>
   cases e
   cases (show _=_ from hx)
   obtain⟨t1,rfl⟩:=rx
   cases (show _=_ from hy)
   cases ry
   exact⟨RcAt.int_none _ _,RcNeAt.int_none _ _,EqAt.int_none _ _⟩
  |bl d=>
   cases e
   cases (show _=_ from hx)
   obtain⟨t1,rfl⟩:=rx
   cases (show _=_ from hy)
   cases ry
   exact⟨RcAt.int_bool _ _ _,RcNeAt.int_bool _ _ _,EqAt.int_bool _ _ _⟩
  |int d=>
   cases e
   cases (show _=_ from hx)
   obtain⟨t1,rfl⟩:=rx
   cases (show _=_ from hy)
   obtain⟨t2,rfl⟩:=ry
   exact⟨RcAt.int_int _ _ _ _,RcNeAt.int_int _ _ _ _,EqAt.int_int _ _ _ _⟩
  |str d=>
   cases e
   cases (show _=_ from hx)
   obtain⟨t1,rfl⟩:=rx
   cases (show _=_ from hy.1)
   obtain⟨t2,rfl⟩:=ry
   exact⟨RcAt.int_str _ _ _ _,RcNeAt.int_str _ _ _ _,EqAt.int_str _ _ _ _⟩
  |raw d=>cases e
  |dct _ _=>cases e
  |dci _ _=>cases e
  |exc d=>cases e
  |scr d=>cases e
  |tup d=>
   cases e
   cases (show _=_ from hx)
   obtain⟨t1,rfl⟩:=rx
   obtain⟨a2,_,_,rfl,_,_,_,_,p2⟩:=c_ I hs hy ry
   exact⟨RcAt.int_tuple _ _ p2 hu,RcNeAt.int_tuple _ _ p2 hu,EqAt.int_tuple _ _ p2 hu⟩
  |lst d=>
   cases e
   cases (show _=_ from hx)
   obtain⟨t1,rfl⟩:=rx
   obtain⟨a2,_,_,rfl,_,_,_,_,p2⟩:=cP I hs hy ry
   exact⟨RcAt.int_list _ _ p2 hu,RcNeAt.int_list _ _ p2 hu,EqAt.int_list _ _ p2 hu⟩
 |str c=>
  cases y with
  |non=>
   cases e
   cases (show _=_ from hx.1)
   obtain⟨t1,rfl⟩:=rx
   cases (show _=_ from hy)
   cases ry
   exact⟨RcAt.str_none _ _,RcNeAt.str_none _ _,EqAt.str_none _ _⟩
  |bl d=>
   cases e
   cases (show _=_ from hx.1)
   obtain⟨t1,rfl⟩:=rx
   cases (show _=_ from hy)
   cases ry
   exact⟨RcAt.str_bool _ _ _,RcNeAt.str_bool _ _ _,EqAt.str_bool _ _ _⟩
  |int d=>
   cases e
   cases (show _=_ from hx.1)
   obtain⟨t1,rfl⟩:=rx
   cases (show _=_ from hy)
   obtain⟨t2,rfl⟩:=ry
   exact⟨RcAt.str_int _ _ _ _,RcNeAt.str_int _ _ _ _,EqAt.str_int _ _ _ _⟩
  |str d=>
   cases e
   cases (show _=_ from hx.1)
   obtain⟨t1,rfl⟩:=rx
   cases (show _=_ from hy.1)
   obtain⟨t2,rfl⟩:=ry
   exact⟨RcAt.str_str _ _ _ _,RcNeAt.str_str _ _ _ _,EqAt.str_str _ _ _ _⟩
  |raw d=>cases e
  |dct _ _=>cases e
  |dci _ _=>cases e
  |exc d=>cases e
  |scr d=>cases e
  |tup d=>
   cases e
   cases (show _=_ from hx.1)
   obtain⟨t1,rfl⟩:=rx
   obtain⟨a2,_,_,rfl,_,_,_,_,p2⟩:=c_ I hs hy ry
   exact⟨RcAt.str_tuple _ _ p2 hu,RcNeAt.str_tuple _ _ p2 hu,EqAt.str_tuple _ _ p2 hu⟩
  |lst d=>
   cases e
   cases (show _=_ from hx.1)
   obtain⟨t1,rfl⟩:=rx
   obtain⟨a2,_,_,rfl,_,_,_,_,p2⟩:=cP I hs hy ry
   exact⟨RcAt.str_list _ _ p2 hu,RcNeAt.str_list _ _ p2 hu,EqAt.str_list _ _ p2 hu⟩
 |raw _=>cases y<;>cases e
 |dct _ _=>cases y<;>cases e
 |dci _ _=>cases y<;>cases e
 |exc _=>cases y<;>cases e
 |scr c=>cases y<;>cases e
 |tup c=>
  cases y with
  |non=>
   cases e
   obtain⟨a1,_,_,rfl,_,_,_,_,p1⟩:=c_ I hs hx rx
   cases (show _=_ from hy)
   cases ry
   exact⟨RcAt.tuple_none p1 hu,RcNeAt.tuple_none p1 hu,EqAt.tuple_none p1 hu⟩
  |bl d=>
   cases e
   obtain⟨a1,_,_,rfl,_,_,_,_,p1⟩:=c_ I hs hx rx
   cases (show _=_ from hy)
   cases ry
   exact⟨RcAt.tuple_bool _ p1 hu,RcNeAt.tuple_bool _ p1 hu,EqAt.tuple_bool _ p1 hu⟩
  |int d=>
   cases e
   obtain⟨a1,_,_,rfl,_,_,_,_,p1⟩:=c_ I hs hx rx
   cases (show _=_ from hy)
   obtain⟨t2,rfl⟩:=ry
   exact⟨RcAt.tuple_int _ _ p1 hu,RcNeAt.tuple_int _ _ p1 hu,EqAt.tuple_int _ _ p1 hu⟩
  |str d=>
   cases e
   obtain⟨a1,_,_,rfl,_,_,_,_,p1⟩:=c_ I hs hx rx
   cases (show _=_ from hy.1)
   obtain⟨t2,rfl⟩:=ry
   exact⟨RcAt.tuple_str _ _ p1 hu,RcNeAt.tuple_str _ _ p1 hu,EqAt.tuple_str _ _ p1 hu⟩
  |raw d=>cases e
  |dct _ _=>cases e
  |dci _ _=>cases e
  |exc d=>cases e
  |scr d=>cases e
  |tup d=>cases e
  |lst d=>
   cases e
   obtain⟨a1,_,_,rfl,_,_,_,_,p1⟩:=c_ I hs hx rx
   obtain⟨a2,_,_,rfl,_,_,_,_,p2⟩:=cP I hs hy ry
   exact⟨RcAt.tuple_list p1 p2 hu,RcNeAt.tuple_list p1 p2 hu,EqAt.tuple_list p1 p2 hu⟩
 |lst c=>
  cases y with
  |non=>
   cases e
   obtain⟨a1,_,_,rfl,_,_,_,_,p1⟩:=cP I hs hx rx
   cases (show _=_ from hy)
   cases ry
   exact⟨RcAt.list_none p1 hu,RcNeAt.list_none p1 hu,EqAt.list_none p1 hu⟩
  |bl d=>
   cases e
   obtain⟨a1,_,_,rfl,_,_,_,_,p1⟩:=cP I hs hx rx
   cases (show _=_ from hy)
   cases ry
   exact⟨RcAt.list_bool _ p1 hu,RcNeAt.list_bool _ p1 hu,EqAt.list_bool _ p1 hu⟩
  |int d=>
   cases e
   obtain⟨a1,_,_,rfl,_,_,_,_,p1⟩:=cP I hs hx rx
   cases (show _=_ from hy)
   obtain⟨t2,rfl⟩:=ry
   exact⟨RcAt.list_int _ _ p1 hu,RcNeAt.list_int _ _ p1 hu,EqAt.list_int _ _ p1 hu⟩
  |str d=>
   cases e
   obtain⟨a1,_,_,rfl,_,_,_,_,p1⟩:=cP I hs hx rx
   cases (show _=_ from hy.1)
   obtain⟨t2,rfl⟩:=ry
   exact⟨RcAt.list_str _ _ p1 hu,RcNeAt.list_str _ _ p1 hu,EqAt.list_str _ _ p1 hu⟩
  |raw d=>cases e
  |dct _ _=>cases e
  |dci _ _=>cases e
  |exc d=>cases e
  |scr d=>cases e
  |tup d=>
   cases e
   obtain⟨a1,_,_,rfl,_,_,_,_,p1⟩:=cP I hs hx rx
   obtain⟨a2,_,_,rfl,_,_,_,_,p2⟩:=c_ I hs hy ry
   exact⟨RcAt.list_tuple p1 p2 hu,RcNeAt.list_tuple p1 p2 hu,EqAt.list_tuple p1 p2 hu⟩
  |lst d=>cases e
end
def ev(f:D→D→Option Bool)(xs ys:List D)(j:Nat):Bool:=match xs[j]?,ys[j]? with
 |some x,some y=>(f x y).getD false
 |_,_=>false
theorem pK{f:D→D→Option Bool}:∀{xs ys:List D}{b:Bool},kz f xs ys=some b→∀(j:Nat) (x y:D),xs[j]? =some x→ys[j]? =some y→∃c,f x y=some c
 |[],_,_,_,_,_,_,h,_=>by simp at h
 |_::_,[],_,_,_,_,_,_,h=>by simp at h
 |x::xs,y::ys,b,e,j,x',y',hx,hy=>by
  unfold kz at e
  split at e
  ·rename_i b1 r1 e1 e2
   cases j with
   |zero=>simp at hx hy;subst hx hy;exact⟨_,e1⟩
   |succ j=>exact pK e2 j x' y' (by simpa using hx) (by simpa using hy)
  ·cases e
theorem oa{f:D→D→Option Bool}:∀{xs ys:List D}{b:Bool},kz f xs ys=some b→b=((List.range (min xs.length ys.length)).all (ev f xs ys)&&xs.length==ys.length)
 |[],[],_,e=>by cases e;rfl
 |[],_::_,_,e=>by cases e;simp
 |_::_,[],_,e=>by cases e;simp
 |x::xs,y::ys,b,e=>by
  unfold kz at e
  split at e
  ·rename_i b1 r1 e1 e2
   cases e
   have h:=oa e2
   rw[List.length_cons,List.length_cons,Nat.succ_min_succ,List.range_succ_eq_map,List.all_cons,List.all_map]
   have e0:ev f (x::xs) (y::ys) 0=b1:=by unfold ev;simp[e1]
   have e3:(ev f (x::xs) (y::ys)∘Nat.succ)=ev f xs ys:=by funext j;simp[ev,Function.comp]
   have e4:(xs.length+1==ys.length+1)=(xs.length==ys.length):=by simp
   rw[e0,e3,e4,h,Bool.and_assoc]
  ·cases e
section
variable{X:Cx}{pins:List (Addr×Obj)}{σ:St}{F H:Hp}{s:Shared}
theorem h7{f:D→D→Option Bool}(h:∀x y v b,Den X.K F x v→Den X.K F y v→f x y=some b→b=true):∀{xs ys:List D}{vs:List V}{b:Bool},DenL X.K F xs vs→DenL X.K F ys vs→kz f xs ys=some b→b=true
 |[],[],_,_,_,_,e=>by cases e;rfl
 |[],_::_,_,_,h1,h2,_=>by
  cases (show _=_ from h1)
  obtain⟨v,r,z,_⟩:=h2
  cases z
 |_::_,[],_,_,h1,h2,_=>by
  cases (show _=_ from h2)
  obtain⟨v,r,z,_⟩:=h1
  cases z
 |x::xs,y::ys,_,b,⟨v,r,e1,q1,q2⟩,⟨v',r',e2,q3,q4⟩,e=>by
  subst e1
  cases e2
  unfold kz at e
  split at e
  ·rename_i b1 r1 f1 f2
   cases e
   rw[h x y v b1 q1 q3 f1,h7 h q2 q4 f2]
   rfl
  ·cases e
theorem mJ{x y:D}{v:V}{b:Bool}(hx:Den X.K F x v)(hy:Den X.K F y v)(e:rn x y=some b):b=true:=by
 cases x<;>cases y<;>first
  |(cases e;done)
  |(cases e;cases (show _=_ from hx);cases (show _=_ from hy);first | rfl | simp)
  |(cases e;cases (show _=_ from hx.1);cases (show _=_ from hy.1);simp)
  |(cases e;cases (show _=_ from hx);cases (show _=_ from hy.1))
  |(cases e;cases (show _=_ from hx.1);cases (show _=_ from hy))
  |(cases e;obtain⟨_,_,z,_⟩:=hx;subst z;cases (show _=_ from hy);done)
  |(cases e;obtain⟨_,_,z,_⟩:=hx;subst z;cases (show _=_ from hy.1);done)
  |(cases e;obtain⟨_,z,_⟩:=hx;subst z;cases (show _=_ from hy);done)
  |(cases e;obtain⟨_,z,_⟩:=hx;subst z;cases (show _=_ from hy.1);done)
  |(cases e;obtain⟨_,_,z,_⟩:=hy;subst z;cases (show _=_ from hx);done)
  |(cases e;obtain⟨_,_,z,_⟩:=hy;subst z;cases (show _=_ from hx.1);done)
  |(cases e;obtain⟨_,z,_⟩:=hy;subst z;cases (show _=_ from hx);done)
  |(cases e;obtain⟨_,z,_⟩:=hy;subst z;cases (show _=_ from hx.1);done)
  |(cases e;obtain⟨_,_,z,h2,_⟩:=hx;obtain⟨_,_,z',Gp,_⟩:=hy;subst z;cases z';rw[h2] at Gp;cases Gp;done)
  |(cases e;cases (show _=_ from hx);cases (show _=_ from hy);done)
  |(cases e;cases (show _=_ from hx.1);cases (show _=_ from hy.1);done)
theorem hZ(I:Inv X pins σ H s)(hs:Same F H):∀(n:Nat) (x y:D) (v:V) (b:Bool),Den X.K F x v→Den X.K F y v→iV n x y=some b→b=true
 |0,x,y,v,b,hx,hy,e=>mJ hx hy (by unfold iV at e;exact e)
 |n+1,x,y,v,b,hx,hy,e=>by
  unfold iV at e
  split at e
  ·rename_i xs ys _
   obtain⟨a,vs,rfl,h2,h3,_⟩:=hx
   obtain⟨a',xr,z,k2,k3,_⟩:=hy
   cases z
   rw[h2] at k2
   cases k2
   exact h7 (hZ I hs _) h3 k3 (by simpa using e)
  ·rename_i xs ys _
   obtain⟨a,vs,rfl,h2,h3,_⟩:=hx
   obtain⟨a',xr,z,k2,k3,_⟩:=hy
   cases z
   rw[h2] at k2
   cases k2
   exact h7 (hZ I hs _) h3 k3 (by simpa using e)
  ·rename_i xs ys _
   obtain⟨a,rfl,h2,_⟩:=hx
   obtain⟨a',xr,z,k2,k3,_⟩:=hy
   cases z
   have hv:=I.list_inj (Same.seq hs h2) (SqL.of (hs _ _ k2))
   rw[←hv] at k3
   exact h7 (hZ I hs _) (DenL.ints xs) k3 (by simpa using e)
  ·exact mJ hx hy e
theorem Vals.at{vs:List V}{aG:List Value}(r:Vals vs aG){j:Nat}(h:j<aG.toArray.size):∃v,vs[j]? =some v∧RelV v aG.toArray[j]:=by
 have hl:=r.length
 have hj:j<vs.length:=by rw[List.size_toArray] at h;omega
 obtain⟨u,e1,e2⟩:=r.get (List.getElem?_eq_getElem hj)
 refine⟨vs[j],List.getElem?_eq_getElem hj,?_⟩
 have:aG.toArray[j]=u:=by
  have:=(List.getElem?_eq_some_iff.mp e1).2
  simpa using this
 rw[this]
 exact e2
theorem j6{f:D→D→Option Bool}{A:Around}{xs ys:List D}{vs ws:List V}{aG dE:List Value}{b:Bool}(h1:DenL X.K F xs vs)(h2:DenL X.K F ys ws)(r1:Vals vs aG)(r2:Vals ws dE)(e:kz f xs ys=some b)
 (ih:∀x y v w u t c,Den X.K F x v→Den X.K F y w→RelV v u→RelV w t→f x y=some c→EqAt A s u t c):
 ∀j (k1:j<aG.toArray.size) (k2:j<dE.toArray.size),EqAt A s aG.toArray[j] dE.toArray[j] (ev f xs ys j):=fun j k1 k2=>by
 obtain⟨v,e1,q1⟩:=Vals.at r1 k1
 obtain⟨w,e2,q2⟩:=Vals.at r2 k2
 obtain⟨x,e3,q3⟩:=h1.at e1
 obtain⟨y,e4,q4⟩:=h2.at e2
 obtain⟨c,hc⟩:=pK e j x y e3 e4
 have:ev f xs ys j=c:=by unfold ev;rw[e3,e4];simp[hc]
 rw[this]
 exact ih x y v w _ _ c q3 q4 q1 q2 hc
theorem m9{f:D→D→Option Bool}{A:Around}(hu:A.units<cLine){xs ys:List D}{vs ws:List V}{aG dE:List Value}{b:Bool}{a a':Addr}(h1:DenL X.K F xs vs)(h2:DenL X.K F ys ws)(r1:Vals vs aG)(r2:Vals ws dE)
 (p1:s.heap.IsList a aG.toArray)(p2:s.heap.IsList a' dE.toArray)(e:kz f xs ys=some b)(hr:a=a'→b=true)
 (ih:∀x y v w u t c,Den X.K F x v→Den X.K F y w→RelV v u→RelV w t→f x y=some c→EqAt A.in1 s u t c):EqAll A s (.ref a) (.ref a') b:=by
 have l1:=h1.len
 have l2:=h2.len
 have l3:=r1.length
 have l4:=r2.length
 have hv:=oa e
 have core:RcAt A s (.ref a) (.ref a') b∧RcNeAt A s (.ref a) (.ref a') (!b):=by
  by_cases hl:xs.length=ys.length
  ·have hsz:aG.toArray.size=dE.toArray.size:=by rw[List.size_toArray,List.size_toArray];omega
   have hb:b=(List.range aG.toArray.size).all (ev f xs ys):=by
    rw[hv,hl,Nat.min_self,beq_self_eq_true,Bool.and_true]
    congr 2
    rw[List.size_toArray];omega
   rw[hb]
   exact⟨RcAt.lists p1 p2 hsz hu (j6 h1 h2 r1 r2 e ih),RcNeAt.lists p1 p2 hsz hu (j6 h1 h2 r1 r2 e ih)⟩
  ·have hb:b=false:=by rw[hv,show (xs.length==ys.length)=false from by simpa using hl,Bool.and_false]
   have hsz:(aG.toArray.size !=dE.toArray.size)=true:=by
    rw[List.size_toArray,List.size_toArray]
    simp
    omega
   rw[hb]
   exact⟨RcAt.lists_lengths p1 p2 hsz hu,RcNeAt.lists_lengths p1 p2 hsz hu⟩
 refine⟨core.1,core.2,?_⟩
 by_cases hq:a=a'
 ·rw[hr hq]
  subst hq
  exact EqAt.same _
 ·exact EqAt.of_refs hq core.1
theorem sv{f:D→D→Option Bool}{A:Around}(hu:A.units<cLine){xs ys:List D}{vs ws:List V}{aG dE:List Value}{b:Bool}{a a':Addr}(h1:DenL X.K F xs vs)(h2:DenL X.K F ys ws)(r1:Vals vs aG)(r2:Vals ws dE)
 (p1:s.heap.IsTuple a aG.toArray)(p2:s.heap.IsTuple a' dE.toArray)(e:kz f xs ys=some b)(hr:a=a'→b=true)
 (ih:∀x y v w u t c,Den X.K F x v→Den X.K F y w→RelV v u→RelV w t→f x y=some c→EqAt A.in1 s u t c):EqAll A s (.ref a) (.ref a') b:=by
 have l1:=h1.len
 have l2:=h2.len
 have l3:=r1.length
 have l4:=r2.length
 have hb:b=((List.range (min aG.toArray.size dE.toArray.size)).all (ev f xs ys)&&aG.toArray.size==dE.toArray.size):=by
  rw[oa e,List.size_toArray,List.size_toArray,←l3,←l4,←l1,←l2]
 have core:RcAt A s (.ref a) (.ref a') b∧RcNeAt A s (.ref a) (.ref a') (!b):=by
  rw[hb]
  exact⟨RcAt.tuples p1 p2 hu (j6 h1 h2 r1 r2 e ih),RcNeAt.tuples p1 p2 hu (j6 h1 h2 r1 r2 e ih)⟩
 refine⟨core.1,core.2,?_⟩
 by_cases hq:a=a'
 ·rw[hr hq]
  subst hq
  exact EqAt.same _
 ·exact EqAt.of_refs hq core.1
theorem oe(I:Inv X pins σ H s)(hs:Same F H):∀(n:Nat) (A:Around) (x y:D) (v w:V) (u t:Value) (b:Bool),A.units+n<cLine→Den X.K F x v→Den X.K F y w→RelV v u→RelV w t→iV n x y=some b→EqAll A s u t b
 |0,A,x,y,v,w,u,t,b,hu,hx,hy,rx,ry,e=>pM I hs (by omega) hx hy rx ry (by unfold iV at e;exact e)
 |n+1,A,x,y,v,w,u,t,b,hu,hx,hy,rx,ry,e=>by
  have Ef:A.units<cLine:=by omega
  have IC:A.in1.units+n<cLine:=by show A.units+1+n<cLine;omega
  have hrefl:=hZ (F:=F) I hs (n+1) x y
  have ih:∀x y v w u t c,Den X.K F x v→Den X.K F y w→RelV v u→RelV w t→iV n x y=some c→EqAt A.in1 s u t c:=fun x y v w u t c q1 q2 q3 q4 q5=>(oe I hs n A.in1 x y v w u t c IC q1 q2 q3 q4 q5).eq
  have e0:=e
  unfold iV at e
  split at e
  ·rename_i xs ys heq
   cases heq
   obtain⟨a,vs,aG,rfl,Cy,h2,h3,r1,p1⟩:=c_ I hs hx rx
   obtain⟨a',xr,its',rfl,Cz,k2,k3,Dy,Dp⟩:=c_ I hs hy ry
   exact sv Ef h3 k3 r1 Dy p1 Dp e (fun z=>by subst z;exact hrefl v b hx (by rw[Cy,←Cz];exact hy) e0) ih
  ·rename_i xs ys heq
   cases heq
   obtain⟨a,vs,aG,rfl,Cy,h2,h3,r1,p1⟩:=cP I hs hx rx
   obtain⟨a',xr,its',rfl,Cz,k2,k3,Dy,Dp⟩:=cP I hs hy ry
   exact m9 Ef h3 k3 r1 Dy p1 Dp e (fun z=>by subst z;exact hrefl v b hx (by rw[Cy,←Cz];exact hy) e0) ih
  ·rename_i xs ys heq
   cases heq
   obtain⟨a,aG,rfl,Cy,h2,r1,p1⟩:=BM I hs hx rx
   obtain⟨a',xr,its',rfl,Cz,k2,k3,Dy,Dp⟩:=cP I hs hy ry
   exact m9 Ef (DenL.ints _) k3 r1 Dy p1 Dp e (fun z=>by subst z;exact hrefl v b hx (by rw[Cy,←Cz];exact hy) e0) ih
  ·exact pM I hs Ef hx hy rx ry e
end
def gi(x y:D):M D:=match iV 6 x y with | some b=>M.ret (.bl b) | none=>M.stuck
def g9(x y:D):M D:=match iV 6 x y with | some b=>M.ret (.bl (!b)) | none=>M.stuck
def DB(K:W.Frag):R2:=fun x y H Q=>∃F dx dy b,Same F H∧Den K F dx x∧Den K F dy y∧iV 6 dx dy=some b∧Q (.bl b) H
def DI(K:W.Frag):R2:=fun x y H Q=>∃F dx dy b,Same F H∧Den K F dx x∧Den K F dy y∧iV 6 dx dy=some b∧Q (.bl (!b)) H
section
variable{X:Cx}{Xw:Nat→Hp→Prop}{a b:Expr}{δa δb:DE}{pos:Pos}
theorem wx(hu:X.A.units+64<cLine):OpR X (compareOp .Eq) (DB X.K):=by
 intro pins s σ H x y v u Q I rx ry h
 obtain⟨F,dx,dy,b,hs,hx,hy,e,q⟩:=h
 exact(oe I hs 6 X.A dx dy x y v u b (by omega) hx hy rx ry e).rc _ _ _ _ ⟨.bl b,H,I,rfl,q⟩
theorem Bb(hu:X.A.units+64<cLine):OpR X (compareOp .NotEq) (DI X.K):=by
 intro pins s σ H x y v u Q I rx ry h
 obtain⟨F,dx,dy,b,hs,hx,hy,e,q⟩:=h
 exact(oe I hs 6 X.A dx dy x y v u b (by omega) hx hy rx ry e).ne _ _ _ _ ⟨.bl (!b),H,I,rfl,q⟩
theorem wz{K:W.Frag}:pe K (DB K) gi:=fun Xw F H x y dx dy Q s hx hy w=>by
 unfold gi at w
 split at w
 ·rename_i b e
  exact⟨F,dx,dy,b,s,hx,hy,e,WP.now w s rfl⟩
 ·exact w.elim
theorem Bd{K:W.Frag}:pe K (DI K) g9:=fun Xw F H x y dx dy Q s hx hy w=>by
 unfold g9 at w
 split at w
 ·rename_i b e
  exact⟨F,dx,dy,b,s,hx,hy,e,WP.now w s rfl⟩
 ·exact w.elim
theorem lD(hu:X.A.units+64<cLine)(ha:PD X Xw a δa)(hb:PD X Xw b δb):lZ X Xw (.Compare a [.Eq] [b] pos) (bN (d2 gi δa δb)):=gf (wx hu) wz ha hb
theorem gA(hu:X.A.units+64<cLine)(ha:PD X Xw a δa)(hb:PD X Xw b δb):lZ X Xw (.Compare a [.NotEq] [b] pos) (bN (d2 g9 δa δb)):=gf (Bb hu) Bd ha hb
theorem qp(hu:X.A.units+64<cLine)(ha:PD X Xw a δa)(hb:PD X Xw b δb):PD X Xw (.Compare a [.Eq] [b] pos) (d2 gi δa δb):=ll (wx hu) wz ha hb
end
def PDW(X:Cx)(Xw:Nat→Hp→Prop)(e:Expr)(δ:DT):Prop:=PW X e (FX X.K Xw δ)
theorem PW.weak{X:Cx}{e:Expr}{t t':TT}(h:PW X e t)(k:∀σ H Q,t' σ H Q→t σ H Q):PW X e t':=fun wh pins s σ H Q I w=>h wh pins s σ H Q I (k σ H Q w)
section
variable{X:Cx}{Xw:Nat→Hp→Prop}{a b c:Expr}{rest:List Expr}{δa δb δc:DE}{τa τb:DT}{pos:Pos}
theorem lA(ha:lZ X Xw a τa):PDW X Xw (.BoolOp .And [a] pos) τa:=yX ha
theorem cF(ha:lZ X Xw a τa):PDW X Xw (.BoolOp .Or [a] pos) τa:=BE ha
theorem kc(ha:lZ X Xw a τa)(hb:PDW X Xw (.BoolOp .And (b::rest) pos) τb):PDW X Xw (.BoolOp .And (a::b::rest) pos) (i6 τa τb):=PW.weak (BD ha hb) fun σ H Q ⟨F,ρ,s,w⟩=>by
 refine⟨F,ρ,s,WPB.mono (WPB.bindB w) fun v H1 ⟨F1,e1,w1⟩=>?_⟩
 cases v with
 |true=>exact⟨F1,ρ,s.ext e1,w1⟩
 |false=>exact w1 _ _ (Ext.refl e1.fh)
theorem dI(ha:lZ X Xw a τa)(hb:PDW X Xw (.BoolOp .Or (b::rest) pos) τb):PDW X Xw (.BoolOp .Or (a::b::rest) pos) (gK τa τb):=PW.weak (Dx ha hb) fun σ H Q ⟨F,ρ,s,w⟩=>by
 refine⟨F,ρ,s,WPB.mono (WPB.bindB w) fun v H1 ⟨F1,e1,w1⟩=>?_⟩
 cases v with
 |false=>exact⟨F1,ρ,s.ext e1,w1⟩
 |true=>exact w1 _ _ (Ext.refl e1.fh)
theorem PDW.t(h:PDW X Xw a τa):lZ X Xw a τa:=PW.pt h
theorem a_(ha:lZ X Xw a τa):lZ X Xw (.UnaryOp .Not a pos) (a9 τa):=PT.weak (BC ha) fun σ H Q ⟨F,ρ,s,w⟩=>
 ⟨F,ρ,s,WPB.mono (WPB.bindB w) fun v H1 ⟨F1,e1,w1⟩=>w1 _ _ (Ext.refl e1.fh)⟩
def qO:D→M Bool
 | .non=>M.ret false
 | .bl b=>M.ret b
 | .lst ds=>M.ret (!ds.isEmpty)
 | .tup ds=>M.ret (!ds.isEmpty)
 |_=>M.stuck
def aR(δ:DE):DT:=fun ρ=>δ ρ>>=qO
theorem DenL.isEmpty{K:W.Frag}{F:Hp}{ds:List D}{vs:List V}(h:DenL K F ds vs):ds.isEmpty=vs.isEmpty:=by
 have:=h.len
 cases ds<;>cases vs<;>simp_all
theorem aS(ha:PD X Xw a δa)(he:∀whole,isTrue a X.env whole=(do let v←whole;standAt a.pos;holding [v] (truthy v)):=by intro _;rfl):lZ X Xw a (aR δa):=PT.weak (wV ha he) fun σ H Q ⟨F,ρ,s,w⟩=>by
 refine⟨F,ρ,s,WP.mono (WPB.bind (K:=X.K) w) fun v H1 ⟨F1,d,e1,q1,w1⟩=>?_⟩
 cases d with
 |non=>cases (show _=_ from q1);exact⟨false,rfl,w1 _ _ (Ext.refl e1.fh)⟩
 |bl b=>cases (show _=_ from q1);exact⟨b,rfl,w1 _ _ (Ext.refl e1.fh)⟩
 |lst ds=>
  obtain⟨a,vs,rfl,h2,h3,_⟩:=q1
  exact⟨!ds.isEmpty, .inl ⟨vs,SqL.of (e1.fh _ _ h2),by rw[h3.isEmpty]⟩,w1 _ _ (Ext.refl e1.fh)⟩
 |tup ds=>
  obtain⟨a,vs,rfl,h2,h3,_⟩:=q1
  exact⟨!ds.isEmpty, .inr (.inl ⟨vs,SqT.of (e1.fh _ _ h2),by rw[h3.isEmpty]⟩),w1 _ _ (Ext.refl e1.fh)⟩
 |_=>exact w1.elim
theorem oI{op}(h:PD X Xw a δa):PD X Xw (.BoolOp op [a] pos) δa:=Bs h
theorem lj(ha:PD X Xw a δa)(hb:PD X Xw (.BoolOp .And (b::rest) pos) δb):PD X Xw (.BoolOp .And (a::b::rest) pos) (cJ δa δb):=PE.weak (Bn ha hb) fun σ H Q ⟨F,ρ,s,w⟩=>by
 refine⟨F,ρ,s,WP.mono (WP.bind w) fun v H1 ⟨F1,d,e1,q1,w1⟩=>?_⟩
 cases d with
 |bl k=>
  refine⟨k,q1,?_⟩
  cases k with
  |true=>exact⟨F1,ρ,s.ext e1,w1⟩
  |false=>exact WP.now w1 e1.fh rfl
 |_=>exact w1.elim
theorem Bm(ha:PD X Xw a δa):PD X Xw (.UnaryOp .Not a pos) (zp δa):=PE.weak (Br ha) fun σ H Q ⟨F,ρ,s,w⟩=>by
 refine⟨F,ρ,s,WP.mono (WP.bind w) fun v H1 ⟨F1,d,e1,q1,w1⟩=>?_⟩
 cases d with
 |bl k=>exact⟨k,q1,WP.now w1 e1.fh rfl⟩
 |_=>exact w1.elim
def ri(p q:Int→Int→Bool)(a b c:DE):DE:=fun ρ=>a ρ>>=fun x=>b ρ>>=fun y=>match x,y with
 | .int i, .int j=>if p i j then c ρ>>=fun z=>gI (fun i j=> .bl (q i j)) y z else M.ret (.bl false)
 |_,_=>M.stuck
theorem nQ{p q:Int→Int→Bool}:∀σ H Q,tD X.K Xw (ri p q δa δb δc) σ H Q→sr (tT fun i j=> .bl (p i j)) (tT fun i j=> .bl (q i j)) (tD X.K Xw δa) (tD X.K Xw δb) (tD X.K Xw δc) σ H Q:=fun σ H Q ⟨F,ρ,s,w⟩=>by
 refine⟨F,ρ,s,WP.mono (WP.bind w) fun v H1 ⟨F1,d,e1,q1,w1⟩=>?_⟩
 refine⟨F1,ρ,s.ext e1,WP.mono (WP.bind w1) fun u H2 ⟨F2,d',e2,q2,w2⟩=>?_⟩
 cases d with
 |int i=>
  cases d' with
  |int j=>
   refine⟨i,j,q1,q2,p i j,rfl,?_⟩
   have w2:WP X.K Xw F2 H2 (if p i j then δc ρ>>=fun z=>gI (fun i j=> .bl (q i j)) (.int j) z else M.ret (.bl false)) Q:=w2
   cases hp:p i j with
   |false=>
    rw[hp] at w2
    exact WP.now w2 e2.fh rfl
   |true=>
    rw[hp] at w2
    refine⟨F2,ρ,(s.ext e1).ext e2,WP.mono (WP.bind w2) fun u' H3 ⟨F3,Hm,e3,q3,w3⟩=>?_⟩
    exact tF (K:=X.K) (gv:=fun i j=> .bl (q i j)) (gd:=fun i j=> .bl (q i j)) (fun _ _ _=>rfl) Xw F3 H3 u u' (.int j) Hm Q e3.fh q2 q3 w3
  |_=>exact w2.elim
 |_=>exact w2.elim
theorem wC{op rX:CmpOp}{p q:Int→Int→Bool}(ho:OpR X (compareOp op) (tT fun i j=> .bl (p i j)))(mO:OpR X (compareOp rX) (tT fun i j=> .bl (q i j)))(ha:PD X Xw a δa)(hb:PD X Xw b δb)(hc:PD X Xw c δc)
 (hm:lastMarks [op,rX] [b,c]=false:=by with_unfolding_all rfl):PD X Xw (.Compare a [op,rX] [b,c] pos) (ri p q δa δb δc):=PE.weak (wJ ho mO ha hb hc hm) nQ
theorem wR{op rX:CmpOp}{p q:Int→Int→Bool}(ho:OpR X (compareOp op) (tT fun i j=> .bl (p i j)))(mO:OpR X (compareOp rX) (tT fun i j=> .bl (q i j)))(ha:PD X Xw a δa)(hb:PD X Xw b δb)(hc:PD X Xw c δc)
 (hm:lastMarks [op,rX] [b,c]=false:=by with_unfolding_all rfl):lZ X Xw (.Compare a [op,rX] [b,c] pos) (bN (ri p q δa δb δc)):=PT.weak (wU ho mO ha hb hc hm) fun σ H Q ⟨F,ρ,s,w⟩=>by
 refine nQ σ H _ ⟨F,ρ,s,WP.mono (WPB.bind w) fun v H1 ⟨F1,d,e1,q1,w1⟩=>?_⟩
 cases d with
 |bl k=>exact⟨k,q1,w1 _ _ (Ext.refl e1.fh)⟩
 |_=>exact w1.elim
def sJ(K:W.Frag)(r:List V→Hp→VK→Prop)(g:List D→M D):Prop:=∀(Xw:Nat→Hp→Prop) (F H:Hp) (vs:List V) (ds:List D) (Q:VK),Same F H→DenL K F ds vs→WP K Xw F H (g ds) Q→r vs H Q
variable{x:Str}{p:Pos}{e:Expr}{es:List Expr}{δs:DA}{id T:String}{r:List V→Hp→VK→Prop}{g:List D→M D}
theorem BS(h:sJ X.K r g):∀σ H Q,tD X.K Xw (dA g δs) σ H Q→Hd r (He X.K Xw δs) σ H Q:=fun σ H Q ⟨F,ρ,s,w⟩=>
 ⟨F,ρ,s,WPL.mono (WP.bindL w) fun vs H1 ⟨F1,ds,e1,q1,w1⟩=>h Xw F1 H1 vs ds Q e1.fh q1 w1⟩
theorem dH(hc:CallR X (.builtin id) r)(hd:sJ X.K r g)(hg:Gl X x)(hm:X.mg x=none)(hv:bootBuiltins x=some (.builtin id))(ha:mr X Xw (e::es) δs)(hn:x≠"__name__":=by decide)(pV:(x==("__debug__":Str))=false:=by decide)
 (he:starEach (e::es) X.env=(false,eval e X.env)::starEach es X.env:=by rfl)(oj:(backTo pos (starEach es X.env)).any (·.1)=false:=by rfl):PD X Xw (.Call (.Name x p) (e::es) [] pos) (dA g δs):=
 PE.weak (wI hc hg hm hv ha hn pV he oj) (BS hd)
def aU:List D→M D
 |[.lst ds]=>M.ret (.int ds.length)
 |[.tup ds]=>M.ret (.int ds.length)
 |[.str x]=>M.ret (.int x.length)
 |[.scr ns]=>M.ret (.int ns.length)
 |_=>M.stuck
theorem uG:sJ X.K (fun xs H Q=>(∃p ys,xs=[.ref p]∧(SqL X.K H p ys∨SqT X.K H p ys)∧Q (.int ys.length) H)∨∃z,xs=[.str z]∧z.length≤sizeLine∧Q (.int z.length) H) aU:=fun Xw F H vs ds Q s h w=>by
 unfold aU at w
 split at w
 ·obtain⟨v,rfl,h1⟩:=h.one
  obtain⟨a,vs,rfl,h2,h3,_⟩:=h1
  exact .inl ⟨a,vs,rfl, .inl (SqL.of (s _ _ h2)),by rw[←h3.len];exact WP.now w s rfl⟩
 ·obtain⟨v,rfl,h1⟩:=h.one
  obtain⟨a,vs,rfl,h2,h3,_⟩:=h1
  exact .inl ⟨a,vs,rfl, .inr (SqT.of (s _ _ h2)),by rw[←h3.len];exact WP.now w s rfl⟩
 ·obtain⟨v,rfl,h1⟩:=h.one
  cases (show _=_ from h1.1)
  exact .inr ⟨_,rfl,by have:=h1.2;have:=c8;omega,WP.now w s rfl⟩
 ·obtain⟨v,rfl,h1⟩:=h.one
  obtain⟨a,rfl,h2,_⟩:=h1
  exact .inl ⟨a,_,rfl, .inl (Same.seq s h2),by rw[List.length_map];exact WP.now w s rfl⟩
 ·exact w.elim
theorem bj(hg:Gl X "len")(hm:X.mg "len"=none)(ha:mr X Xw [e] δs)(he:starEach [e] X.env=[(false,eval e X.env)]:=by rfl):PD X Xw (.Call (.Name "len" p) [e] [] pos) (dA aU δs):=
 dH (n5.or n6) uG hg hm PySem.boot_len ha (by decide) (by decide) he rfl
def vj:List D→M D
 |[.int i]=>M.ret (.int (if i<0 then -i else i))
 |_=>M.stuck
def rM:List D→M D
 |[.int i, .int j]=>M.ret (.int (if j>i then j else i))
 |_=>M.stuck
def uJ:List D→M D
 |[.int i, .int j]=>M.ret (.int (if j<i then j else i))
 |_=>M.stuck
theorem wB(hg:Gl X "abs")(hm:X.mg "abs"=none)(ha:mr X Xw [e] δs)(hb:bootBuiltins "abs"=some (.builtin "abs"))(he:starEach [e] X.env=[(false,eval e X.env)]:=by rfl):PD X Xw (.Call (.Name "abs" p) [e] [] pos) (dA vj δs):=
 dH vx (fun Xw F H vs ds Q s h w=>by
  unfold vj at w
  split at w
  ·obtain⟨v,rfl,h1⟩:=h.one
   cases (show _=_ from h1)
   exact⟨_,rfl,WP.now w s rfl⟩
  ·exact w.elim) hg hm hb ha (by decide) (by decide) he rfl
end
theorem WP.xw{K:W.Frag}{Xw Xw':Nat→Hp→Prop}{F H:Hp}{m:M D}{Q:VK}(h:WP K Xw F H m Q)(k:∀n H,Xw n H→Xw' n H):WP K Xw' F H m Q:=by
 match m,h with
 |none,h=>exact h
 |some (.ok d),h=>exact h
 |some (.ex n),h=>exact fun F' H' e=>k n H' (h F' H' e)
theorem e8{X:Cx}{Xw:Nat→Hp→Prop}{st:Stmt}{τ:DS}(h:j3 X.nox (fun _ _=>False) st τ):j3 X Xw st (fun ρ=>noex (τ ρ)):=fun F₀ H₀ pins s σ H D I ⟨F,ρ,S,w⟩=>by
 have w:WPS X.K Xw F₀ H₀ (noex (τ ρ)) D:=w
 have w':tS X.K (fun _ _=>False) F₀ H₀ τ D σ H:=by
  refine⟨F,ρ,S,?_⟩
  rcases(τ ρ).cs with e | ⟨n,e⟩ | ⟨o,e⟩
  ·rw[e] at w;exact w.elim
  ·rw[e] at w;exact w.elim
  ·rw[e] at w⊢
   cases o with
   |nx ρ'=>exact w
   |rt d=>exact w
 refine wpAny_mono (h F₀ H₀ pins s σ H D (I.wish _) w') (fun f s' q=>SP.unwish q) fun _ _ z=>z.elim
def EX(cv:Nat→Value)(Xw:Nat→Hp→Prop):XK:=fun c _ H=>∃n,c=cv n∧Xw n H
def Ca(K:W.Frag)(cv:Nat→Value)(k:Nat)(f:List D→M D):Sp:=fun vs H Q E=>∃F ds,Same F H∧DenL K F ds vs∧vs.length=k∧WP K (fun n H'=>E (cv n) none H') F H (f ds) Q
def bW(n:Nat)(τ:DS):List D→M D:=fun ds=>τ (ds.map (fun d=>some (Sl.fz d))++List.replicate (n - ds.length) none)>>=fun o=>match o with
 | .nx _=>M.ret .non
 | .rt d=>M.ret d
section
variable{P:Program}{w:World}{K:W.Frag}{mg:Str→Option Value}{base:Heap}{CX:q9}{cv:Nat→Value}
theorem CA{x qual:Str}{st:Stmt}{f:Addr}{fd:FuncData}{N ps:List Str}{k:Nat}{τ:DS}(Fn:Fun K x qual st f fd)(S:FnScope N ps (ag st))
 (pU:∀(b8:Value) (A:Around) (outer:List Env) (s:Shared) (H:Hp) (E:XK),Room k (A.deeper (envOfC qual (ag st) s.heap.objs.size f b8))→
  PSDs (fo CX P w K mg base N qual (ag st) f b8 A outer s H E) (fun n H'=>E (cv n) none H') (bD st) τ):FnOk P w K mg base CX (k+1) f fd ps (Ca K cv ps.length (bW N.length τ)):=by
 obtain⟨oc,od,kV,doc,pm,an,b8,ct,zV,rfl,lk,ve⟩:=Fn.ex
 refine CB lk ve S (fun vs H Q E ⟨_,_,_,_,hl,_⟩=>hl) fun A outer s H vs Q E hr zJ=>?_
 obtain⟨F,ds,fh,hd,hl,hw⟩:=zJ
 refine⟨_,pU b8 A outer s H E hr F H,F,ds.map (fun d=>some (Sl.fz d))++List.replicate (N.length - ds.length) none,⟨Ext.refl fh,⟨fh,fun i sl e=>?_⟩,?_,fun i c a e=>?_,fun i j c c' a e=>?_⟩,?_⟩
 ·have hlen:=hd.len
  by_cases hi:i<ds.length
  ·rw[List.getElem?_append_left (by simpa using hi),List.getElem?_map] at e
   cases q:ds[i]? with
   |none=>rw[q] at e;cases e
   |some d=>
    rw[q] at e
    cases e
    obtain⟨v,e1,e2⟩:=hd.get q
    refine⟨v,?_,e2⟩
    unfold L2.start
    rw[List.getElem?_append_left (by simp;omega),List.getElem?_map,e1]
    rfl
  ·rw[List.getElem?_append_right (by simpa using hi),List.getElem?_replicate] at e
   split at e<;>cases e
 ·have hlen:=hd.len
  unfold L2.start
  simp[hlen]
 ·exfalso
  by_cases hi:i<ds.length
  ·rw[List.getElem?_append_left (by simpa using hi),List.getElem?_map] at e
   cases q:ds[i]? with
   |none=>rw[q] at e;cases e
   |some d=>rw[q] at e;cases e
  ·rw[List.getElem?_append_right (by simpa using hi),List.getElem?_replicate] at e
   split at e<;>cases e
 ·exfalso
  by_cases hi:i<ds.length
  ·rw[List.getElem?_append_left (by simpa using hi),List.getElem?_map] at e
   cases q:ds[i]? with
   |none=>rw[q] at e;cases e
   |some d=>rw[q] at e;cases e
  ·rw[List.getElem?_append_right (by simpa using hi),List.getElem?_replicate] at e
   split at e<;>cases e
 ·have hw:WP K (fun n H'=>E (cv n) none H') F H (τ (ds.map (fun d=>some (Sl.fz d))++List.replicate (N.length - ds.length) none)>>=fun o=>match o with | .nx _=>M.ret .non | .rt d=>M.ret d) Q:=hw
  rcases(τ (ds.map (fun d=>some (Sl.fz d))++List.replicate (N.length - ds.length) none)).cs with e | ⟨n,e⟩ | ⟨o,e⟩
  ·rw[e] at hw;exact hw.elim
  ·rw[e] at hw⊢;exact hw
  ·rw[e] at hw⊢
   cases o with
   |nx ρ'=>exact fun σ' F' H' s'=>hw .non H' F' s'.ext rfl
   |rt d=>exact fun v F' H' e' q=>hw v H' F' e' q
end
section
variable{X:Cx}{Xw:Nat→Hp→Prop}{CX:q9}{cv:Nat→Value}{k m:Nat}{f:Addr}{fd:FuncData}{ps:List Str}{g:List D→M D}{x:Str}{p pos:Pos}{e:Expr}{es:List Expr}{δs:DA}
theorem yB(F:FnOk X.prog X.w X.K X.mg X.base CX k f fd ps (Ca X.K cv m g))(hr:Room k X.A)(hg:Gl X x)(hm:X.mg x=some (.ref f))(hk:PySem.W.keepIn X.K (.ref f)=true)(hb:Binds X.K fd ps [])(hx:Passes CX X (EX cv Xw))
 (ha:mr X Xw (e::es) δs)(hl:(e::es).length=m)(pV:(x==("__debug__":Str))=false:=by decide)(he:starEach (e::es) X.env=(false,eval e X.env)::starEach es X.env:=by rfl)(oj:(backTo pos (starEach es X.env)).any (·.1)=false:=by rfl):
 PD X Xw (.Call (.Name x p) (e::es) [] pos) (fun ρ=>δs ρ>>=fun ds=>if ds.length=m then g ds else M.stuck):=PE.weak (yL F hr hg hm hk hb .nil hx ha pV he oj) fun σ H Q ⟨F,ρ,s,w⟩=>by
 refine⟨F,ρ,s,WPL.mono (WP.bindL w) fun vs H1 ⟨F1,ds,e1,q1,w1⟩=>?_⟩
 split at w1
 ·rename_i zI
  refine⟨F1,ds,e1.fh,by simpa using q1,by rw[List.append_nil,←q1.len];exact zI,WP.xw w1 fun n H h=>⟨n,rfl,h⟩⟩
 ·exact w1.elim
theorem tI{x:Str}{d:D}{v:V}{u:Value}(hg:Gl X x)(hm:X.mg x=some u)(r:RelV v u)(hd:∀F,Den X.K F d v)(pV:(x==("__debug__":Str))=false:=by decide):PD X Xw (.Name x pos) (dC d):=
 eB (yO hg hm r pV) hd
end
theorem obj_some{P:Program}{w:World}{H:Hp}{h:Heap}{a:Addr}{o:HO}(x:ObjOk P w H h a o):∃ob,h.get? a=some ob:=by
 cases o with
 |lst xs=>obtain⟨_,_,_,_,e⟩:=x;exact⟨_,e⟩
 |tup xs=>obtain⟨_,_,_,ob,e,_⟩:=x;exact⟨_,e⟩
 |dK ax=>obtain⟨_,_,_,_,o,_,_,e,_⟩:=x;exact⟨_,e⟩
 |dT ax=>obtain⟨_,_,_,_,o,_,_,e,_⟩:=x;exact⟨_,e⟩
 |set S n=>obtain⟨o,_,_,_,e,_⟩:=x;exact⟨_,e⟩
 |ins C dx fs=>obtain⟨_,_,_,e,_⟩:=x;exact⟨_,e⟩
 |own y=>obtain⟨_,e⟩:=x;exact⟨_,e⟩
 |xd fs=>obtain⟨_,⟨_,_,_,e,_⟩,_⟩:=x;exact⟨_,e⟩
 |rng lo hi=>obtain⟨_,_,_,e⟩:=x;exact⟨_,e⟩
 |frz ob u=>obtain⟨e,_⟩:=x;exact⟨_,e⟩
 |tbl ps=>exact⟨_,(show h.get? a=some _ from x)⟩
 |met f y=>exact⟨_,(show h.get? a=some _ from x)⟩
 |ext φ=>obtain⟨_,⟨_,e⟩,_⟩:=x;exact⟨_,e⟩
def nW(P:Program)(w:World)(cv:Nat→Value):q9:=fun outer H s E e s'=>∃(ea:Addr) (n:Nat) (a0:Value) (B:Heap) (H':Hp),e= .ref ea∧s'.os=s.os∧AllBare s'.gens∧HOk P w H' s'.heap∧Un (j8 outer) [] H H' s.heap s'.heap∧
 Heap.FlyingW B outer ea (cv n) a0 s'.heap∧(∀b o,s'.heap.get? b=some o→(H' b≠none∨(s.heap.get? b).isSome=true)→b∉j8 outer→B.get? b=some o)∧E (cv n) none H'
section
variable{P:Program}{w:World}{fs:List Addr}{H₀ H:Hp}{h₀ h h':Heap}
theorem zi(u:Un fs [] H₀ H h₀ h)(ka:∀b o,h.get? b=some o→b∉fs→(H b≠none∨(h₀.get? b).isSome=true)→h'.get? b=some o)(kb:∀b o,h.get? b=some o→b∈fs→∃sl,h'.get? b=some {o with slots:=sl}):Un fs [] H₀ H h₀ h' where
 keep:=fun b o e n hb hx=>ka b o (u.keep b o e n hb hx) hb (.inr (by rw[e];rfl))
 slot:=fun b o e n hb hx=>by
  obtain⟨sl,q⟩:=u.slot b o e n hb hx
  obtain⟨BO,q'⟩:=kb b _ q hb
  exact⟨BO,q'⟩
 free:=u.free
 there:=fun b o e hx=>by
  obtain⟨o',q⟩:=u.there b o e hx
  by_cases hb:b∈fs
  ·obtain⟨sl,q'⟩:=kb b _ q hb
   exact⟨_,q'⟩
  ·exact⟨o',ka b o' q hb (.inr (by rw[e];rfl))⟩
 tups:=u.tups
 frzs:=u.frzs
 tbls:=u.tbls
theorem vY(x:HOk P w H h)(hf:∀b∈fs,H b=none)(ka:∀b o,h.get? b=some o→b∉fs→H b≠none→h'.get? b=some o):HOk P w H h':=fun a o e=>by
 refine(x a o e).stay (fun b u hb q=>ka b u q (fun z=>?_) ?_) (fun _ q=>q) fun _ _ q=>q
 ·have hz:=hf b z
  rcases hb with rfl | hb
  ·rw[hz] at e;cases e
  ·rw[hz] at hb;cases hb
 ·rcases hb with rfl | hb
  ·rw[e];exact fun z=>nomatch z
  ·rw[hb];exact fun z=>nomatch z
end
section
variable{P:Program}{w:World}{K:W.Frag}{mg:Str→Option Value}{base:Heap}{N:List Str}{qual:Str}{scope:Scope}{f:Addr}{cd:Value}{A:Around}{outer:List Env}{s₀:Shared}{H₀:Hp}{E:XK}{cv:Nat→Value}
theorem a6:Passes (nW P w cv) (fo (nW P w cv) P w K mg base N qual scope f cd A outer s₀ H₀ E) (EX cv fun n H'=>E (cv n) none H'):=by
 intro pins σ H s e s' I ⟨ea,n,a0,B,H',he,vZ,hg,hok,un,Gm,hB,m,hm,hE⟩
 subst he
 have Ax:((fo (nW P w cv) P w K mg base N qual scope f cd A outer s₀ H₀ E)).env.locals=s₀.heap.objs.size:=rfl
 have xZ:j8 ((fo (nW P w cv) P w K mg base N qual scope f cd A outer s₀ H₀ E)).stack=s₀.heap.objs.size::j8 outer:=rfl
 show wpAny (model P w) (A.deeper (envOfC qual scope s₀.heap.objs.size f cd)) (leaving (envOfC qual scope s₀.heap.objs.size f cd) (.ref ea)) _ _ s'
 refine wpAny_leaves_onW (base:=B) (outer:=outer) (L:=s₀.heap.objs.size) I.ok.frames rfl Gm fun h' An ups=>?_
 have zF:∀b∈j8 ((fo (nW P w cv) P w K mg base N qual scope f cd A outer s₀ H₀ E)).stack,H' b=none:=fun b hb=>by
  obtain⟨o,ho⟩:∃o,s.heap.get? b=some o:=by
   obtain⟨_,o,ho,_⟩:=I.stack.mem hb
   exact⟨o,ho⟩
  exact un.free b o ho (I.stkFree b hb) (by simp)
 have zM:∀b o,s'.heap.get? b=some o→b∉j8 ((fo (nW P w cv) P w K mg base N qual scope f cd A outer s₀ H₀ E)).stack→(H' b≠none∨(s.heap.get? b).isSome=true)→h'.get? b=some o:=fun b o e hb hc=>An.1 b o (hB b o e hc hb)
 have unA:Un (j8 outer) [] H₀ H' s₀.heap s'.heap:=by
  have u1:Un (j8 outer) [] H₀ H s₀.heap s.heap:=I.base
  refine⟨fun b o e nn hb hx=>?_,fun b o e nn hb hx=>?_,fun b o e nn hx=>?_,fun b o e hx=>?_,fun b xs q=>un.tups b xs (u1.tups b xs q),fun b o u q=>un.frzs b o u (u1.frzs b o u q),fun b ps q=>?_⟩
  ·refine un.keep b o (u1.keep b o e nn hb hx) (u1.free b o e nn hx) (fun z=>?_) (by simp)
   rw[xZ] at z
   rcases List.mem_cons.mp z with z | z
   ·exact absurd (Heap.lt_size e) (by rw[z];exact Nat.lt_irrefl _)
   ·exact hb z
  ·obtain⟨sl,q⟩:=u1.slot b o e nn hb hx
   obtain⟨BO,q'⟩:=un.slot b _ q (u1.free b o e nn hx) (by rw[xZ];exact List.mem_cons_of_mem _ hb) (by simp)
   exact⟨BO,q'⟩
  ·obtain⟨o',q⟩:=u1.there b o e hx
   exact un.free b o' q (u1.free b o e nn hx) (by simp)
  ·obtain⟨o',q⟩:=u1.there b o e hx
   exact un.there b o' q (by simp)
  ·obtain⟨m1,q1⟩:=u1.tbls b ps q
   obtain⟨m2,q2⟩:=un.tbls b _ q1
   exact⟨m1++m2,by rw[q2,Array.append_assoc]⟩
 have GY:∀b,(s₀.heap.get? b).isSome=true→(s.heap.get? b).isSome=true:=fun b hb=>by
  obtain⟨o,ho⟩:=Option.isSome_iff_exists.mp hb
  obtain⟨o',q⟩:=(show Un (j8 outer) [] H₀ H s₀.heap s.heap from I.base).there b o ho (by simp)
  rw[q];rfl
 have FE:∀b,(s₀.heap.get? b).isSome=true→b≠s₀.heap.objs.size:=fun b hb z=>by
  obtain⟨o,ho⟩:=Option.isSome_iff_exists.mp hb
  exact absurd (Heap.lt_size ho) (by rw[z];exact Nat.lt_irrefl _)
 have Dg:∀b,b∉j8 outer→(H' b≠none∨(s₀.heap.get? b).isSome=true)→b∉j8 ((fo (nW P w cv) P w K mg base N qual scope f cd A outer s₀ H₀ E)).stack:=fun b hb hc z=>by
  rcases hc with hc | hc
  ·exact hc (zF b z)
  ·rw[xZ] at z
   rcases List.mem_cons.mp z with z | z
   ·exact FE b hc z
   ·exact hb z
 refine⟨ea,n,a0,B,H',rfl,vZ.trans I.os,hg,vY hok zF (fun b o e hb hc=>zM b o e hb (.inl hc)),zi unA (fun b o e hb hc=>zM b o e (Dg b hb hc) (hc.imp id (GY b))) (fun b o e hb=>?_),An,fun b o e hc hb=>?_,?_⟩
 ·obtain⟨_,o',mO,hd⟩:=Gm.2.2.1.mem (show b∈j8 ((fo (nW P w cv) P w K mg base N qual scope f cd A outer s₀ H₀ E)).stack by rw[xZ];exact List.mem_cons_of_mem _ hb)
  rw[e] at mO
  cases mO
  exact ups b o e hd
 ·have ES:=Dg b hb hc
  obtain⟨o',mO⟩:∃o',s'.heap.get? b=some o':=by
   rcases hc with hc | hc
   ·cases q:H' b with
    |none=>exact absurd q hc
    |some u=>
     exact obj_some (hok b u q)
   ·obtain⟨o1,h1⟩:=Option.isSome_iff_exists.mp hc
    exact unA.there b o1 h1 (by simp)
  have:=hB b o' mO (hc.imp id (GY b)) ES
  rw[An.1 b o' this] at e
  cases e
  exact this
 ·rw[hm];exact hE
end
section
variable{X:Cx}{Xw:Nat→Hp→Prop}{cv:Nat→Value}{n:Nat}{C:Addr}{x:Str}{np bo pos:Pos}{e:Expr}{es:List Expr}{δs:DA}{bm:List Value}{B newId Fx:String}
end
def zN:D→Option String
 | .non=>some "NoneType"
 | .bl _=>some "bool"
 | .int _=>some "int"
 | .str _=>some "str"
 | .tup _=>some "tuple"
 | .lst _=>some "list"
 |_=>none
def AR(k T:String):Option Bool:=if T="str"∨T="int"∨T="bool"∨T="tuple"∨T="list" then some (decide (k=T)||(decide (k="bool")&&decide (T="int"))) else none
def eT:List D→M D
 |[d, .raw (.ty T)]=>match zN d with
  |some k=>match AR k T with
   |some b=>M.ret (.bl b)
   |none=>M.stuck
  |none=>M.stuck
 |_=>M.stuck
theorem A4{K:W.Frag}{k T:String}{b:Bool}(hk:k="NoneType"∨k="bool"∨k="int"∨k="str"∨k="tuple"∨k="list")(h:AR k T=some b):PySem.W.kitOne K (.type k) (.type T)=some b:=by
 unfold AR at h
 split at h
 ·rename_i hT
  cases h
  rcases hk with rfl | rfl | rfl | rfl | rfl | rfl<;>rcases hT with rfl | rfl | rfl | rfl | rfl<;>with_unfolding_all rfl
 ·cases h
section
variable{X:Cx}{Xw:Nat→Hp→Prop}{a b e e2:Expr}{es:List Expr}{δa δb:DE}{δs:DA}{pos p:Pos}
def DD(K:W.Frag):List V→Hp→VK→Prop:=fun xs H Q=>∃x T t b,xs=[x, .ty T]∧TyOf K H x t∧PySem.W.kitOne K t (.type T)=some b∧Q (.bl b) H
theorem vy:CallR X (.builtin "isinstance") (DD X.K):=by
 intro pins s σ H xs us Q I r h
 obtain⟨x,T,t,b,rfl,ty,e,q⟩:=h
 obtain⟨u,w',rfl,r1,r2⟩:=vals2 r
 cases (show w'=_ from r2)
 exact uz I r1 ty e fun tk=>⟨.bl b,H,I.tok tk,rfl,q⟩
theorem xq{K:W.Frag}{F H:Hp}{d:D}{v:V}{k:String}(s:Same F H)(h:Den K F d v)(hk:zN d=some k):TyOf K H v (.type k)∧(k="NoneType"∨k="bool"∨k="int"∨k="str"∨k="tuple"∨k="list"):=by
 cases d with
 |non=>cases hk;cases (show _=_ from h);exact⟨.non, .inl rfl⟩
 |bl x=>cases hk;cases (show _=_ from h);exact⟨.bl x, .inr (.inl rfl)⟩
 |int x=>cases hk;cases (show _=_ from h);exact⟨.int x, .inr (.inr (.inl rfl))⟩
 |str x=>cases hk;cases (show _=_ from h.1);exact⟨.str x, .inr (.inr (.inr (.inl rfl)))⟩
 |tup x=>cases hk;obtain⟨a,vs,rfl,h2,_⟩:=h;exact⟨.tup (s _ _ h2), .inr (.inr (.inr (.inr (.inl rfl))))⟩
 |lst x=>cases hk;obtain⟨a,vs,rfl,h2,_⟩:=h;exact⟨.lst (s _ _ h2), .inr (.inr (.inr (.inr (.inr rfl))))⟩
 |_=>cases hk
theorem uy{K:W.Frag}:sJ K (DD K) eT:=fun Xw F H vs ds Q s h w=>by
 unfold eT at w
 split at w
 ·rename_i d T
  obtain⟨v,v',rfl,h1,h2⟩:=h.two
  cases (show _=_ from h2)
  split at w
  ·rename_i k hk
   split at w
   ·rename_i b hb
    obtain⟨ty,B8⟩:=xq s h1 hk
    exact⟨v,T, .type k,b,rfl,ty,A4 B8 hb,WP.now w s rfl⟩
   ·exact w.elim
  ·exact w.elim
 ·exact w.elim
theorem gS(hg:Gl X "isinstance")(hm:X.mg "isinstance"=none)(hb:bootBuiltins "isinstance"=some (.builtin "isinstance"))(ha:mr X Xw [e,e2] δs)(he:starEach [e,e2] X.env=(false,eval e X.env)::starEach [e2] X.env:=by rfl)
 (oj:(backTo pos (starEach [e2] X.env)).any (·.1)=false:=by rfl):PD X Xw (.Call (.Name "isinstance" p) [e,e2] [] pos) (dA eT δs):=
 dH vy uy hg hm hb ha (by decide) (by decide) he oj
theorem lz{x:Str}{T:String}(hg:Gl X x)(hm:X.mg x=none)(hv:bootBuiltins x=some (.type T))(hn:x≠"__name__":=by decide)(hd:(x==("__debug__":Str))=false:=by decide):PD X Xw (.Name x pos) (dC (.raw (.ty T))):=
 eB (v:= .ty T) (yK hg hm hv (show RelV (.ty T) (.type T) from rfl) hn hd) fun _=>rfl
def bools:List D→Option (List Bool)
 |[]=>some []
 | .bl b::r=>(bools r).map (b:: ·)
 |_=>none
def allM:List D→M D
 |[.lst ds]=>match bools ds with
  |some bs=>M.ret (.bl (bs.all id))
  |none=>M.stuck
 |_=>M.stuck
theorem mD{K:W.Frag}{F:Hp}:∀{ds:List D}{vs:List V}{bs:List Bool},bools ds=some bs→DenL K F ds vs→vs=bs.map V.bl
 |[],_,_,e,h=>by cases e;exact h
 | .bl b::r,_,_,e,⟨v,r',h1,h2,h3⟩=>by
   unfold bools at e
   cases q:bools r with
   |none=>rw[q] at e;cases e
   |some bs=>rw[q] at e;cases e;subst h1;rw[mD q h3,show v= .bl b from h2];rfl
 | .non::_,_,_,e,_=>by cases e
 | .int _::_,_,_,e,_=>by cases e
 | .str _::_,_,_,e,_=>by cases e
 | .raw _::_,_,_,e,_=>by cases e
 | .exc _::_,_,_,e,_=>by cases e
 | .scr _::_,_,_,e,_=>by cases e
 | .tup _::_,_,_,e,_=>by cases e
 | .lst _::_,_,_,e,_=>by cases e
theorem tX:∀{bs:List Bool}{aG:List Value},Vals (bs.map V.bl) aG→aG=bs.map Value.bool
 |[],_,r=>by cases r;rfl
 |b::bs,_,r=>by
  cases r with
  |cons r1 r2=>cases (show _=_ from r1);rw[tX r2];rfl
def FL:List V→Hp→VK→Prop:=fun xs H Q=>∃(a:Addr) (bs:List Bool),xs=[.ref a]∧H a=some (.lst (bs.map V.bl))∧Q (.bl (bs.all id)) H
theorem all_range{bs:List Bool}:(List.range bs.length).all (fun i=>bs.getD i false)=bs.all id:=by
 induction bs with
 |nil=>rfl
 |cons b bs ih=>
  rw[List.length_cons,List.range_succ_eq_map,List.all_cons,List.all_map,List.all_cons]
  congr 1
theorem ub(hc:X.calm=true):CallR X (.builtin "all") FL:=by
 intro pins s σ H xs us Q I r h
 obtain⟨a,bs,rfl,hH,q⟩:=h
 obtain⟨u,rfl,r1⟩:=vals1 r
 cases (show u=_ from r1)
 obtain⟨aG,r2,pl,hz⟩:=I.list (SqL.of (K:=X.K) hH)
 obtain rfl:=tX r2
 have l7:a≠s.heap.objs.size:=Nat.ne_of_lt (I.hok.lt hH)
 refine call_all_walk (wpAny_pyIter_list pl.isList ?_)
 refine⟨s.heap.objs.size,_,_,_,_,_,fun i=>bs.getD i false,rfl,Walks.list (A:=X.A.in1) (show X.A.in1.handled=none from I.ok.hd hc) s.heap.objs.size a l7 (bs.map Value.bool).toArray,⟨⟨_,Heap.get?_push_size _ rfl,rfl,rfl⟩,Heap.IsList.at pl.isList fun o e=>Heap.get?_push_of_some _ e⟩,?_,fun h' tk k=>?_⟩
 ·intro i v s' Q' E' hv hq
  have hv:(bs.map Value.bool).toArray[i]? =some v:=hv
  rw[List.getElem?_toArray,List.getElem?_map] at hv
  cases q':bs[i]? with
  |none=>rw[q'] at hv;cases hv
  |some b=>
   rw[q'] at hv
   cases hv
   have:bs.getD i false=b:=by rw[List.getD_eq_getElem?_getD,q'];rfl
   have hq:Q' (bs.getD i false) s':=hq
   rw[this] at hq
   exact wpAny_truthy_bool hq
 ·have e:(List.range (bs.map Value.bool).toArray.size).all (fun i=>bs.getD i false)=bs.all id:=by
   rw[List.size_toArray,List.length_map];exact all_range
  rw[e]
  refine⟨.bl (bs.all id),H,I.kept (h':=h') (t':=tk) fun b o e'=>k b o (fun z=>?_) (Heap.get?_push_of_some _ e'),rfl,q⟩
  have z:b=s.heap.objs.size:=by simpa using z
  exact absurd (Heap.lt_size e') (by rw[z];exact Nat.lt_irrefl _)
theorem gR(hc:X.calm=true)(hg:Gl X "all")(hm:X.mg "all"=none)(hb:bootBuiltins "all"=some (.builtin "all"))(ha:mr X Xw [e] δs)(he:starEach [e] X.env=[(false,eval e X.env)]:=by rfl):PD X Xw (.Call (.Name "all" p) [e] [] pos) (dA allM δs):=
 dH (ub hc) (fun Xw F H vs ds Q s h w=>by
  unfold allM at w
  split at w
  ·rename_i ds
   obtain⟨v,rfl,h1⟩:=h.one
   obtain⟨a,ws,rfl,h2,h3,_⟩:=h1
   split at w
   ·rename_i bs hb
    exact⟨a,bs,rfl,by rw[←mD hb h3];exact s _ _ h2,WP.now w s rfl⟩
   ·exact w.elim
  ·exact w.elim) hg hm hb ha (by decide) (by decide) he rfl
end
section
variable{X:Cx}{Xw:Nat→Hp→Prop}{a b e e2:Expr}{es:List Expr}{δ δa δb:DE}{δs:DA}{pos p apos bo:Pos}
theorem zg{i:Nat}:∀F₀ H₀ D σ H,tS X.K Xw F₀ H₀ (lK i δ) D σ H→z6 (Hc X.K "list" tR (qL i) (z5 (tD X.K Xw δ) DV)) D σ H:=fun F₀ H₀ D σ H ⟨F,ρ,s,w⟩=>by
 unfold lK at w
 cases ho:yA ρ i with
 |none=>rw[ho] at w;exact w.elim
 |some ds=>
  rw[ho] at w
  have hi:=uR ho
  obtain⟨v,hv,a,o,rfl,hH,hF,vs,rfl,hd,hl⟩:=s.st.den i _ hi
  have w:WPS X.K Xw F₀ H₀ (δ ρ>>=fun d=>if ds.length<lim then M.ret (.nx (ρ.set i (some (.ow (.lst (ds++[d])))))) else M.stuck) D:=w
  refine⟨.ref a,hv, .inl ⟨rfl,vs,SqL.of hH⟩,F,ρ,s.st,?_⟩
  rcases(δ ρ).cs with q | ⟨n,q⟩ | ⟨d,q⟩
  ·rw[q] at w;exact w.elim
  ·rw[q] at w⊢;exact fun F' H' e'=>w F' H' (s.ext.trans e')
  ·rw[q] at w⊢
   intro u H1 F1 e1 hq
   have w:WPS X.K Xw F₀ H₀ (if ds.length<lim then M.ret (.nx (ρ.set i (some (.ow (.lst (ds++[d])))))) else M.stuck) D:=w
   split at w
   ·rename_i gr
    have hlen:=hd.len
    refine⟨a,vs,u,rfl,rfl,e1.hh _ _ hH,by have:=c8;omega,?_⟩
    exact w σ F1 _ ((s.ext' e1).chg (c₀:= .lst (ds++[d])) hi hv ⟨_,rfl,DenL.append (DenL.mono e1.ff hd) (.cons hq .nil),by rw[List.length_append];exact gr⟩)
   ·exact w.elim
theorem oK{i:Nat}{x:Str}(hv:PE X (.Name x p) (qL i))(he:PD X Xw e δ)(hs:swapsWith (.Call (.Attribute (.Name x p) "append" apos) [e] [] bo) none pos.line X.env=pure false:=by rfl)
 (kD:attributeBase (.Name x p) "append" X.env (eval (.Name x p) X.env)=eval (.Name x p) X.env:=by rfl)
 (rA:((backTo bo (starEach [e] X.env)).all (fun x=>!x.1)&&(backToKw bo (keywordEach [] X.env)).all (fun x=>x.1.isSome)&&decide ([e].length+([]:List Keyword).length+(if ([]:List Keyword).isEmpty then 0 else 1)<30))=true:=by rfl)
 (kE:(apos.endLine==bo.line)=true:=by rfl)(zK:starEach [e] X.env=[(false,eval e X.env)]:=by rfl):j3 X Xw (.Expr (.Call (.Attribute (.Name x p) "append" apos) [e] [] bo) pos) (lK i δ):=fun F₀ H₀=>
 PS.weak (tO (zX PySem.F.plainAttrs_list PySem.F.slot_list_append PySem.F.type_list_append ng hv (tH he r0 zK) kD rA kE zK rfl) hs) fun D σ H w=>zg F₀ H₀ D σ H w
theorem wu:OpR X (binaryOp .Add) (fun x y H Q=>∃a b ys,x= .ref a∧y= .ref b∧SqT X.K H a []∧SqT X.K H b ys∧Q (.ref b) H):=by
 intro pins s σ H x y v u Q I rx ry h
 obtain⟨a,b,ys,rfl,rfl,ha,hb,q⟩:=h
 cases rx
 cases ry
 obtain⟨aG,r1,p1,_⟩:=I.tuple ha
 obtain⟨dE,r2,p2,_⟩:=I.tuple hb
 cases r1
 obtain⟨⟨cls,dd,data,sl⟩,ho,hc,n,hd⟩:=id p1
 obtain⟨⟨EE,D3,data2,En⟩,AE,Ar,n2,hd2⟩:=id p2
 simp only at hc hd Ar hd2
 subst hc hd Ar hd2
 exact concat_meets ⟨_,ho,rfl⟩ ⟨_,AE,rfl⟩ noFill_tuple_add seq_tuple_add PySem.F.slot_tuple_add PySem.F.entry_tuple_add (PySem.F.args_tuple_add_2 _ _)
  (tuple_addW0 a b _ _ n n2 dd D3 sl En (by simp)) ⟨ho,AE,⟨.ref b,H,I,rfl,q⟩⟩
def pR:D→D→M D
 | .tup x, .tup y=>if x.length+y.length≤lim then M.ret (.tup (x++y)) else M.stuck
 |_,_=>M.stuck
theorem yC(ha:PD X Xw a δa)(hb:PD X Xw b δb):PD X Xw (.BinOp a .Add b pos) (d2 pR δa δb):=lu (wu.or yp) (fun Xw F H x y dx dy Q s hx hy w=>by
 unfold pR at w
 split at w
 ·rename_i i j
  obtain⟨a,vs,h1,h2,h3,h4⟩:=hx
  obtain⟨a',xr,k1,k2,k3,k4⟩:=hy
  split at w
  ·rename_i hl
   have e1:=h3.len
   have e2:=k3.len
   have:=c8
   by_cases hv:vs=[]
   ·subst hv
    have:i=[]:=by cases i with | nil=>rfl | cons _ _=>simp at e1
    subst this
    exact .inl ⟨a,a',xr,h1,k1,SqT.of (s _ _ h2),SqT.of (s _ _ k2),WP.now w s ⟨a',xr,k1▸rfl,k2,k3,k4⟩⟩
   ·refine .inr ⟨a,a',vs,xr,h1,k1,SqT.of (s _ _ h2),SqT.of (s _ _ k2),hv,by omega,fun z=>?_,fun z p hp=>?_⟩
    ·subst z
     have:j=[]:=by cases j with | nil=>rfl | cons _ _=>simp at e2
     subst this
     rw[List.append_nil] at w
     exact WP.now w s ⟨a,vs,rfl,h2,h3,h4⟩
    ·exact WP.fin w (Ext.lay s hp) ⟨p,_,rfl,aE,DenL.mono (Ext.lay s hp).ff (h3.append k3),by rw[List.length_append];exact hl⟩
  ·exact w.elim
 ·exact w.elim) ha hb
end
section
variable{X:Cx}{Xw:Nat→Hp→Prop}{a b e e2 o:Expr}{es:List Expr}{δ δa δb δo:DE}{δs:DA}{pos p apos bo:Pos}
def dM(kd:D→Bool)(g:D→List D→M D)(o:DE)(s:DA):DE:=fun ρ=>o ρ>>=fun d=>if kd d then s ρ>>=fun ds=>g d ds else M.stuck
theorem Dq{T:String}{name:Str}{id:String}{r:V→List V→Hp→VK→Prop}{kd:D→Bool}{g:D→List D→M D}(pa:PlainAttrs T)(slot:Slot T name id)(Fi:typeOf (.builtin id)=pure (.type "method_descriptor"))(hm:Ew X id r)
 (hk:∀(F H:Hp) (x:V) (d:D),kd d=true→Same F H→Den X.K F d x→Er X.K T x H)
 (hd:∀(Xw:Nat→Hp→Prop) (F H:Hp) (x:V) (vs:List V) (d:D) (ds:List D) (Q:VK),Same F H→Den X.K F d x→DenL X.K F ds vs→WP X.K Xw F H (g d ds) Q→r x vs H Q)
 (ho:PD X Xw o δo)(ha:mr X Xw (e::es) δs)
 (kD:attributeBase o name X.env (eval o X.env)=eval o X.env:=by rfl)
 (rA:((backTo bo (starEach (e::es) X.env)).all (fun x=>!x.1)&&(backToKw bo (keywordEach [] X.env)).all (fun x=>x.1.isSome)
  &&decide ((e::es).length+([]:List Keyword).length+(if ([]:List Keyword).isEmpty then 0 else 1)<30))=true:=by rfl)
 (kE:(apos.endLine==bo.line)=true:=by rfl) (hs:starEach (e::es) X.env=(false,eval e X.env)::starEach es X.env:=by rfl) (rB:(backTo bo (starEach es X.env)).any (·.1)=false:=by rfl):
 PD X Xw (.Call (.Attribute o name apos) (e::es) [] bo) (dM kd g δo δs):=PE.weak (zX pa slot Fi hm ho ha kD rA kE hs rB) fun σ H Q ⟨F,ρ,s,w⟩=>by
 refine⟨F,ρ,s,WP.mono (WP.bind w) fun v H1 ⟨F1,d,e1,q1,w1⟩=>?_⟩
 split at w1
 ·rename_i Ij
  refine⟨hk F1 H1 v d Ij e1.fh q1,F1,ρ,s.ext e1,WPL.mono (WP.bindL w1) fun vs H2 ⟨F2,ds,e2,q2,w2⟩=>?_⟩
  exact hd Xw F2 H2 v vs d ds Q e2.fh (Den.mono e2.ff q1) q2 w2
 ·exact w1.elim
def C8:D→Bool
 | .str _=>true
 |_=>false
theorem AQ{K:W.Frag}(F H:Hp)(x:V)(d:D)(h:C8 d=true)(s:Same F H)(q:Den K F d x):Er K "str" x H:=by
 cases d with
 |str z=>cases (show _=_ from q.1);exact rfl
 |_=>cases h
def o6:List D→Option (List Str)
 |[]=>some []
 | .str x::r=>(o6 r).map (x:: ·)
 |_=>none
theorem lT{K:W.Frag}{F:Hp}:∀{ds:List D}{vs:List V}{xs:List Str},o6 ds=some xs→DenL K F ds vs→vs=xs.map V.str
 |[],_,_,e,h=>by cases e;exact h
 | .str b::r,_,_,e,⟨v,r',h1,h2,h3⟩=>by
   unfold o6 at e
   cases q:o6 r with
   |none=>rw[q] at e;cases e
   |some bs=>rw[q] at e;cases e;subst h1;rw[lT q h3,show v= .str b from h2.1];rfl
 | .non::_,_,_,e,_=>by cases e
 | .int _::_,_,_,e,_=>by cases e
 | .bl _::_,_,_,e,_=>by cases e
 | .raw _::_,_,_,e,_=>by cases e
 | .exc _::_,_,_,e,_=>by cases e
 | .scr _::_,_,_,e,_=>by cases e
 | .tup _::_,_,_,e,_=>by cases e
 | .lst _::_,_,_,e,_=>by cases e
theorem lV:∀{xs:List Str}{aG:List Value},Vals (xs.map V.str) aG→StrsAre aG xs
 |[],_,r=>by cases r;exact .nil
 |b::bs,_,r=>by
  cases r with
  |cons r1 r2=>obtain⟨t,rfl⟩:=r1;exact .cons b t (lV r2)
def da:List Str→Str
 |[]=>⟨#[]⟩
 |x::r=>x++da r
def joinM:D→List D→M D
 | .str sep,[.lst ds]=>match o6 ds with
   |some xs=>if sep.length=0∧(xs.map (·.length)).sum≤lim then M.ret (.str (da xs)) else M.stuck
   |none=>M.stuck
 | .str sep,[.tup ds]=>match o6 ds with
   |some xs=>if sep.length=0∧(xs.map (·.length)).sum≤lim then M.ret (.str (da xs)) else M.stuck
   |none=>M.stuck
 |_,_=>M.stuck
theorem kl:∀xs:List Str,(da xs).length=(xs.map (·.length)).sum
 |[]=>rfl
 |x::r=>by
  show (x++da r).length=_
  rw[fW,kl r,List.map_cons,List.sum_cons]
theorem ze{x:Str}(h:x.length=0):x=⟨#[]⟩:=by
 obtain⟨⟨l⟩⟩:=x
 have:l.length=0:=h
 cases l with
 |nil=>rfl
 |cons _ _=>simp at this
theorem jV(x:Str):x++(⟨#[]⟩:Str)=x:=by
 obtain⟨c⟩:=x
 show (⟨c++ #[]⟩:Str)=⟨c⟩
 simp
theorem jB(sep:Str)(h:sep.length=0):∀xs:List Str,Txt.join sep xs=da xs:=by
 have e:=ze h
 subst e
 intro xs
 show Builtin.Str.glued _ xs=_
 rw[StrLaws.glued_eq_join]
 induction xs with
 |nil=>rfl
 |cons x r ih=>
  cases r with
  |nil=>show x=x++(⟨#[]⟩:Str);rw[jV]
  |cons y r=>show x++(⟨#[]⟩:Str)++Str.join _ (y::r)=x++da (y::r);rw[jV,ih]
def rJoin(K:W.Frag):V→List V→Hp→VK→Prop:=fun x vs H Q=>∃(sep:Str) (a:Addr) (xs:List Str),x= .str sep∧vs=[.ref a]∧(H a=some (.lst (xs.map V.str))∨H a=some (.tup (xs.map V.str)))∧sep.length=0∧(xs.map (·.length)).sum≤lim∧Q (.str (da xs)) H
theorem ym:Ew X "str.join" (rJoin X.K):=by
 intro pins s σ H x vs v us Q I rx rv h
 obtain⟨sep,a,xs,rfl,rfl,hH,hs,hl,q⟩:=h
 obtain⟨t,rfl⟩:=rx
 obtain⟨u,rfl,r1⟩:=rv.one
 cases (show u=_ from r1)
 have hok:(xs.map (·.length)).sum+xs.length*sep.length≤16777216:=by
  rw[hs,Nat.mul_zero]
  unfold lim at hl
  omega
 rcases hH with hH | hH
 ·obtain⟨aG,r2,pl,hz⟩:=I.list (SqL.of (K:=X.K) hH)
  refine join_list pl.isList (by simpa using lV r2) hok fun t' k=>⟨.str (da xs),H,I.tok k,⟨t',by rw[jB sep hs]⟩,q⟩
 ·obtain⟨aG,r2,pl,hz⟩:=I.tuple (SqT.of (K:=X.K) hH)
  refine join_tuple pl (by simpa using lV r2) hok fun t' k=>⟨.str (da xs),H,I.tok k,⟨t',by rw[jB sep hs]⟩,q⟩
theorem yD(ho:PD X Xw o δo)(ha:mr X Xw [e] δs)(kD:attributeBase o "join" X.env (eval o X.env)=eval o X.env:=by rfl)
 (rA:((backTo bo (starEach [e] X.env)).all (fun x=>!x.1)&&(backToKw bo (keywordEach [] X.env)).all (fun x=>x.1.isSome)&&decide ([e].length+([]:List Keyword).length+(if ([]:List Keyword).isEmpty then 0 else 1)<30))=true:=by rfl)
 (kE:(apos.endLine==bo.line)=true:=by rfl)(zK:starEach [e] X.env=[(false,eval e X.env)]:=by rfl):PD X Xw (.Call (.Attribute o "join" apos) [e] [] bo) (dM C8 joinM δo δs):=
 Dq PySem.F.plainAttrs_str PySem.F.slot_str_join PySem.F.type_str_join ym AQ (fun Xw F H x vs d ds Q s hx hv w=>by
  unfold joinM at w
  split at w
  ·rename_i sep ds
   obtain⟨v,rfl,h1⟩:=hv.one
   obtain⟨a,ws,rfl,h2,h3,_⟩:=h1
   split at w
   ·rename_i xs Fp
    split at w
    ·rename_i hc
     exact⟨sep,a,xs,hx.1,rfl, .inl (by rw[←lT Fp h3];exact s _ _ h2),hc.1,hc.2,WP.now w s ⟨rfl,by rw[kl];exact hc.2⟩⟩
    ·exact w.elim
   ·exact w.elim
  ·rename_i sep ds
   obtain⟨v,rfl,h1⟩:=hv.one
   obtain⟨a,ws,rfl,h2,h3,_⟩:=h1
   split at w
   ·rename_i xs Fp
    split at w
    ·rename_i hc
     exact⟨sep,a,xs,hx.1,rfl, .inr (by rw[←lT Fp h3];exact s _ _ h2),hc.1,hc.2,WP.now w s ⟨rfl,by rw[kl];exact hc.2⟩⟩
    ·exact w.elim
   ·exact w.elim
  ·exact w.elim) ho ha kD rA kE zK rfl
theorem r6(hc:X.calm=true)(hg:Gl X "max")(hm:X.mg "max"=none)(hb:bootBuiltins "max"=some (.builtin "max"))(ha:mr X Xw [e,e2] δs)(he:starEach [e,e2] X.env=(false,eval e X.env)::starEach [e2] X.env:=by rfl)
 (oj:(backTo pos (starEach [e2] X.env)).any (·.1)=false:=by rfl):PD X Xw (.Call (.Name "max" p) [e,e2] [] pos) (dA rM δs):=
 dH (uc hc) (fun Xw F H vs ds Q s h w=>by
  unfold rM at w
  split at w
  ·obtain⟨v,v',rfl,h1,h2⟩:=h.two
   cases (show _=_ from h1)
   cases (show _=_ from h2)
   exact⟨_,_,rfl,WP.now w s rfl⟩
  ·exact w.elim) hg hm hb ha (by decide) (by decide) he oj
theorem wG(hc:X.calm=true)(hg:Gl X "min")(hm:X.mg "min"=none)(hb:bootBuiltins "min"=some (.builtin "min"))(ha:mr X Xw [e,e2] δs)(he:starEach [e,e2] X.env=(false,eval e X.env)::starEach [e2] X.env:=by rfl)
 (oj:(backTo pos (starEach [e2] X.env)).any (·.1)=false:=by rfl):PD X Xw (.Call (.Name "min" p) [e,e2] [] pos) (dA uJ δs):=
 dH (ud hc) (fun Xw F H vs ds Q s h w=>by
  unfold uJ at w
  split at w
  ·obtain⟨v,v',rfl,h1,h2⟩:=h.two
   cases (show _=_ from h1)
   cases (show _=_ from h2)
   exact⟨_,_,rfl,WP.now w s rfl⟩
  ·exact w.elim) hg hm hb ha (by decide) (by decide) he oj
def nums:List D→Option (List Int)
 |[]=>some []
 | .int x::r=>(nums r).map (x:: ·)
 |_=>none
theorem kG{K:W.Frag}{F:Hp}:∀{ds:List D}{vs:List V}{xs:List Int},nums ds=some xs→DenL K F ds vs→vs=xs.map V.int
 |[],_,_,e,h=>by cases e;exact h
 | .int b::r,_,_,e,⟨v,r',h1,h2,h3⟩=>by
   unfold nums at e
   cases q:nums r with
   |none=>rw[q] at e;cases e
   |some bs=>rw[q] at e;cases e;subst h1;rw[kG q h3,show v= .int b from h2];rfl
 | .non::_,_,_,e,_=>by cases e
 | .str _::_,_,_,e,_=>by cases e
 | .bl _::_,_,_,e,_=>by cases e
 | .raw _::_,_,_,e,_=>by cases e
 | .exc _::_,_,_,e,_=>by cases e
 | .scr _::_,_,_,e,_=>by cases e
 | .tup _::_,_,_,e,_=>by cases e
 | .lst _::_,_,_,e,_=>by cases e
def xT(neg:Bool):D→D→M D
 | .int i, .tup ds=>match nums ds with | some ns=>M.ret (.bl (if neg then !ns.contains i else ns.contains i)) | none=>M.stuck
 |_,_=>M.stuck
theorem v7(i:Int)(ns:List Int):Eh (.int i) (ns.map V.int)=ns.contains i:=by
 unfold Eh
 rw[List.any_map]
 induction ns with
 |nil=>rfl
 |cons n ns ih=>
  rw[List.any_cons,List.contains_cons,ih]
  congr 1
  show xA (.int n) (.int i)=(i==n)
  unfold xA
  exact Bool.beq_comm
theorem AL{neg:Bool}{K:W.Frag}:pe K (G9 K neg) (xT neg):=fun Xw F H x y dx dy Q s hx hy w=>by
 unfold xT at w
 split at w
 ·rename_i i ds
  obtain⟨a,vs,h1,h2,h3,h4⟩:=hy
  split at w
  ·rename_i ns hn
   have hv:=kG hn h3
   subst hv
   cases (show _=_ from hx)
   refine⟨a,ns.map V.int,h1, .inr (SqT.of (s _ _ h2)),rfl,?_,?_⟩
   ·rw[List.all_map]
    exact List.all_eq_true.mpr fun _ _=>rfl
   ·rw[v7]
    exact WP.now w s rfl
  ·exact w.elim
 ·exact w.elim
theorem uX(ha:PD X Xw a δa)(hb:PD X Xw b δb)(hm:behindInMarks .NotIn b=false:=by rfl):lZ X Xw (.Compare a [.NotIn] [b] pos) (bN (d2 (xT true) δa δb)):=gf oE AL ha hb hm
def vO(neg:Bool):D→D→M D
 | .str x, .str y=>M.ret (.bl (if neg then !(!(Builtin.Str.occurrences y x 0 y.length 1).isEmpty) else !(Builtin.Str.occurrences y x 0 y.length 1).isEmpty))
 |_,_=>M.stuck
theorem Bg(ha:PD X Xw a δa)(hb:PD X Xw b δb)(hm:behindInMarks .In b=false:=by rfl):PD X Xw (.Compare a [.In] [b] pos) (d2 (vO false) δa δb):=ll uO (fun Xw F H x y dx dy Q s hx hy w=>by
 unfold vO at w
 split at w
 ·exact⟨_,_,hx.1,hy.1,WP.now w s rfl⟩
 ·exact w.elim) ha hb hm
end
end L3
namespace L3
open PySem PySem.Spec L2 SeqAt HT
open PyProof.Rows hiding St
section
variable{prog:Program}{w:World}{A:Around}{E:Value→Shared→Prop}{s:Shared}
theorem gk{t sl:Addr}{items:Array Value}{vl vu:Value}{lo hi:Option Int}{Q:Value→Shared→Prop}(ht:IsTup s.heap t items)(hs:s.heap.IsSliceOf sl vl vu .none)(pl:IsPart vl lo)(pu:IsPart vu hi)
 (hw:sIx items.size 0 lo=0∧sIx items.size items.size hi=items.size)(h:Q (.ref t) s):wpAny (model prog w) A (getItem (.ref t) (.ref sl)) Q E s:=by
 obtain⟨os,vZ,D_,zE⟩:=id hs
 have EM:s.TypeIs (.ref sl) "slice":=⟨os,vZ,D_⟩
 unfold getItem
 try with_reducible refine wpAny_holding ?_
 first | refine wpAny_bind (wpAny_pure ?_) | skip
 refine wpAny_bind (wpAny_sequenceKey ht.typeIs (by decide) ?_)
 refine wpAny_bind (wpAny_callSpecial?_slot (name:=Str.ofString "__getitem__") ht.typeIs PyProof.Rows.slot_tuple_getitem
  (wpAny_call_entry PyProof.Rows.slot_tuple_getitem ht.typeIs entry_tuple_getitem ?_ (args_tuple_getitem _ _)))
 show wpAny _ _ (Builtin.Tuple.tupleItemsOf (.ref t)>>=_) _ _ s
 refine wpAny_bind (tupleItemsOf_ ht ?_)
 refine wpAny_bind (wpAny_typeOf EM ?_)
 rw[if_pos (by decide)]
 refine wpAny_bind (sliceApplied_gen hs pl pu ?_)
 have uv:((((sIx items.size 0 lo:Nat):Int)==0&&(1:Int)==1&&(sIx items.size items.size hi - sIx items.size 0 lo)==items.size)=true):=by
  rw[hw.1,hw.2]
  simp
 show wpAny _ _ (if (((sIx items.size 0 lo:Nat):Int)==0&&(1:Int)==1&&(sIx items.size items.size hi - sIx items.size 0 lo)==items.size)=true then _ else _) _ _ s
 rw[if_pos uv]
 refine wpAny_bind ?_
 unfold Builtin.Tuple.tupleIsExact
 refine wpAny_bind (wpAny_typeOf ht.typeIs (wpAny_pure ?_))
 rw[if_pos (by decide)]
 exact wpAny_bind (wpAny_rule (wpAny_pure ⟨_,rfl,wpAny_pure h⟩))
end
section
variable{X:Cx}{Xw:Nat→Hp→Prop}{a b e:Expr}{lo hi:Option Expr}{δ δa δb:DE}{pos p p2:Pos}
theorem zd:SlR X (fun x lo hi H Q=>∃a xs,x= .ref a∧SqT X.K H a xs∧(sIx xs.length 0 lo=0∧sIx xs.length xs.length hi=xs.length)∧Q (.ref a) H):=by
 intro pins s σ H x v vl vu lo hi sl Q I rx hs pl pu h
 obtain⟨a,xs,rfl,hx,hw,q⟩:=h
 cases rx
 obtain⟨aG,r,ht,hz⟩:=I.tuple hx
 have hlen:aG.toArray.size=xs.length:=by rw[List.size_toArray];exact r.length.symm
 exact⟨"tuple",_,PyProof.Rows.slot_tuple_getitem.lookup,ht.typeIs,gk ht hs pl pu (by rw[hlen];exact hw) ⟨.ref a,H,I,rfl,q⟩⟩
theorem BP:SlR X (fun x lo hi H Q=>∃z:Str,x= .str z∧z.length≤lim∧Q (.str (Txt.slice z lo hi)) H):=by
 intro pins s σ H x v vl vu lo hi sl Q I rx hs pl pu h
 obtain⟨z,rfl,hl,q⟩:=h
 obtain⟨t,rfl⟩:=rx
 have hz:z.length≤sizeLine:=by have:=c8;omega
 cases pl with
 |none=>
  cases pu with
  |none=>exact⟨"str",_,PySem.F.slot_str_getitem.lookup,typeIs_str _ _ _,wpAny_getItem_str_slice (l:=none) (u:=none) (st:=none) hs rfl (post_val_or_str ⟨Nat.le_trans (Txt.slice_le z _ _) hz,fun t' k=>⟨.str _,H,I.tok k,⟨t',rfl⟩,q⟩⟩)⟩
  |int j uj=>exact⟨"str",_,PySem.F.slot_str_getitem.lookup,typeIs_str _ _ _,wpAny_getItem_str_slice (l:=none) (u:=some (j,uj)) (st:=none) hs rfl (post_val_or_str ⟨Nat.le_trans (Txt.slice_le z _ _) hz,fun t' k=>⟨.str _,H,I.tok k,⟨t',rfl⟩,q⟩⟩)⟩
 |int i ui=>
  cases pu with
  |none=>exact⟨"str",_,PySem.F.slot_str_getitem.lookup,typeIs_str _ _ _,wpAny_getItem_str_slice (l:=some (i,ui)) (u:=none) (st:=none) hs rfl (post_val_or_str ⟨Nat.le_trans (Txt.slice_le z _ _) hz,fun t' k=>⟨.str _,H,I.tok k,⟨t',rfl⟩,q⟩⟩)⟩
  |int j uj=>exact⟨"str",_,PySem.F.slot_str_getitem.lookup,typeIs_str _ _ _,wpAny_getItem_str_slice (l:=some (i,ui)) (u:=some (j,uj)) (st:=none) hs rfl (post_val_or_str ⟨Nat.le_trans (Txt.slice_le z _ _) hz,fun t' k=>⟨.str _,H,I.tok k,⟨t',rfl⟩,q⟩⟩)⟩
abbrev DO:=aW→M (Option Int)
def WPO(Xw:Nat→Hp→Prop)(F H:Hp)(m:M (Option Int))(Q:Option Int→Hp→Prop):Prop:=
 match m with
 |none=>False
 |some (.ok b)=>∀H' F',Ext F H F' H'→Q b H'
 |some (.ex n)=>∀F' H',Ext F H F' H'→Xw n H'
def IQ(K:W.Frag)(Xw:Nat→Hp→Prop)(δ:DO):TO:=fun σ H Q=>∃F ρ,StE K F H σ ρ∧WPO Xw F H (δ ρ) Q
def D1(X:Cx)(Xw:Nat→Hp→Prop)(e:Option Expr)(δ:DO):Prop:=PO X e (IQ X.K Xw δ)
def oN:DO:=fun _=>M.ret none
def oS(δ:DE):DO:=fun ρ=>δ ρ>>=fun d=>match d with | .int i=>M.ret (some i) | _=>M.stuck
theorem iI:D1 X Xw none oN:=fun pins s σ H Q I ⟨F,ρ,S,w⟩=>yQ pins s σ H Q I (w H F (Ext.refl S.fh))
theorem iJ(h:PD X Xw e δ):D1 X Xw (some e) (oS δ):=fun pins s σ H Q I ⟨F,ρ,S,w⟩=>yR h pins s σ H Q I ⟨F,ρ,S,by
 have w:WPO Xw F H (δ ρ>>=fun d=>match d with | .int i=>M.ret (some i) | _=>M.stuck) Q:=w
 rcases(δ ρ).cs with q | ⟨n,q⟩ | ⟨d,q⟩
 ·rw[q] at w;exact w.elim
 ·rw[q] at w⊢;exact w
 ·rw[q] at w⊢
  intro v H' F' e' hd
  cases d with
  |int i=>exact⟨i,hd,w H' F' e'⟩
  |_=>exact w.elim⟩
theorem WP.bindO{K:W.Frag}{Xw:Nat→Hp→Prop}{F H:Hp}{Q:VK}{m:M (Option Int)}{k:Option Int→M D}(h:WP K Xw F H (m>>=k) Q):WPO Xw F H m fun b H1=>∃F1,Ext F H F1 H1∧WP K Xw F1 H1 (k b) Q:=by
 match m,h with
 |none,h=>exact h
 |some (.ok d),h=>exact fun H2 F2 e2=>⟨F2,e2,WP.ext e2 (show WP K Xw F H (k d) Q from h)⟩
 |some (.ex n),h=>exact h
theorem WPO.mono{Xw:Nat→Hp→Prop}{F H:Hp}{m:M (Option Int)}{Q Q':Option Int→Hp→Prop}(h:WPO Xw F H m Q)(k:∀v H',Q v H'→Q' v H'):WPO Xw F H m Q':=by
 match m,h with
 |none,h=>exact h
 |some (.ok d),h=>exact fun H2 F2 e2=>k _ _ (h H2 F2 e2)
 |some (.ex n),h=>exact h
def cutD(ds:List D)(lo hi:Option Int):List D:=(ds.drop (sIx ds.length 0 lo)).take (sIx ds.length ds.length hi - sIx ds.length 0 lo)
def G_:D→Option Int→Option Int→M D
 | .tup ds,lo,hi=>M.ret (.tup (cutD ds lo hi))
 | .lst ds,lo,hi=>M.ret (.lst (cutD ds lo hi))
 | .str x,lo,hi=>M.ret (.str (Txt.slice x lo hi))
 |_,_,_=>M.stuck
def rm(a:DE)(lo hi:DO):DE:=fun ρ=>a ρ>>=fun d=>lo ρ>>=fun l=>hi ρ>>=fun h=>G_ d l h
theorem pC(ds:List D)(lo hi:Option Int):(cutD ds lo hi).length≤ds.length:=by
 unfold cutD
 rw[List.length_take,List.length_drop]
 omega
theorem DenL.cut{K:W.Frag}{F:Hp}{ds:List D}{vs:List V}(h:DenL K F ds vs)(lo hi:Option Int):DenL K F (cutD ds lo hi) (pD vs lo hi):=by
 unfold cutD pD
 rw[h.len]
 exact(h.drop _).take _
theorem tM{δo:DE}{κl κh:DO}(he:PD X Xw e δo)(hl:D1 X Xw lo κl)(hh:D1 X Xw hi κh):PD X Xw (.Subscript e (.Slice lo hi none p2) pos) (rm δo κl κh):=
 PE.weak (wL (zd.or (BQ.or (zc.or BP))) he hl hh) fun σ H Q ⟨F,ρ,s,w⟩=>by
  refine⟨F,ρ,s,WP.mono (WP.bind w) fun v H1 ⟨F1,d,e1,q1,w1⟩=>?_⟩
  refine⟨F1,ρ,s.ext e1,WPO.mono (WP.bindO w1) fun l H2 ⟨F2,e2,w2⟩=>?_⟩
  refine⟨F2,ρ,(s.ext e1).ext e2,WPO.mono (WP.bindO w2) fun h H3 ⟨F3,e3,w3⟩=>?_⟩
  have q3:=Den.mono (e2.ff.trans e3.ff) q1
  have fh:=e3.fh
  cases d with
  |tup ds=>
   obtain⟨a,vs,rfl,h2,h3,h4⟩:=q3
   by_cases hw:sIx vs.length 0 l=0∧sIx vs.length vs.length h=vs.length
   ·refine .inl ⟨a,vs,rfl,SqT.of (fh _ _ h2),hw,?_⟩
    have hc:cutD ds l h=ds:=by
     unfold cutD
     rw[h3.len,hw.1,hw.2,Nat.sub_zero,List.drop_zero,←h3.len,List.take_length]
    have w3:WP X.K Xw F3 H3 (M.ret (.tup (cutD ds l h))) Q:=w3
    rw[hc] at w3
    exact WP.now w3 fh ⟨a,vs,rfl,h2,h3,h4⟩
   ·exact .inr (.inl ⟨a,vs,rfl,SqT.of (fh _ _ h2),hw,fun p hp=>WP.fin w3 (Ext.lay fh hp) ⟨p,_,rfl,aE,DenL.mono (Ext.lay fh hp).ff (h3.cut l h),Nat.le_trans (pC _ _ _) h4⟩⟩)
  |lst ds=>
   obtain⟨a,vs,rfl,h2,h3,h4⟩:=q3
   exact .inr (.inr (.inl ⟨a,vs,rfl,SqL.of (fh _ _ h2),fun p hp=>WP.fin w3 (Ext.lay fh hp) ⟨p,_,rfl,aE,DenL.mono (Ext.lay fh hp).ff (h3.cut l h),Nat.le_trans (pC _ _ _) h4⟩⟩))
  |str x=>exact .inr (.inr (.inr ⟨x,q3.1,q3.2,WP.now w3 fh ⟨rfl,Nat.le_trans (Txt.slice_le x _ _) q3.2⟩⟩))
  |_=>exact w3.elim
end
section
variable{prog:Program}{w:World}{A:Around}{E:Value→Shared→Prop}{s:Shared}
end
section
variable{X:Cx}{Xw:Nat→Hp→Prop}{a b e:Expr}{δ δa δb:DE}{pos p p2:Pos}
end
def D0(x:Str):It:=⟨fun i _=>i<x.cps.size,fun i H v H'=>H'=H∧∃c,x.cps[i]? =some c∧v= .str ⟨#[c]⟩,fun i _=>x.cps.size≤i⟩
theorem u7{P:Program}{w:World}{K:W.Frag}{tg:Expr}(it:Addr)(x:Str)(t:Tok):Turn P w K tg (D0 x) [it] it (fun i h=>i≤x.cps.size∧h.IsStrIter it "str_ascii_iterator" x t i) where
 mem:=by simp
 obj:=fun i h st b hb=>by
  have e:b=it:=by simpa using hb
  subst e
  obtain⟨_,o,e,c,d⟩:=st
  exact⟨o,e,fun v z=>by rw[d] at z;cases z⟩
 keep:=fun i h h' st k=>⟨st.1,let ⟨o,e,r⟩:=st.2;⟨o,k it (by simp) o e,r⟩⟩
 item:=by
  intro X hP hw hK hc i pins s σ H E I hf st hg
  subst hP hw hK
  obtain⟨f0,f1,f2,f3,f4,f5⟩:=hf it (by simp)
  have hi:i<x.cps.size:=hg
  refine(Walks.strAscii (prog:=X.prog) (w:=X.w) (I.ok.hd hc) it x t).item i s _ _ hi st.2 fun v h' tk hv lR kk=>?_
  obtain⟨c,u,EU,rfl⟩:=hv
  have I1:Inv X pins σ H {s with heap:=h',toks:=tk}:=I.turned (fun b o hb e=>kk b o (by simpa using hb) e) f0 f1 f3 f4 f5
  obtain⟨o,e,cc,dd⟩:=id lR
  exact⟨_,rfl,mM (s:={s with heap:=h',toks:=tk}) e cc dd (by decide) ⟨.str ⟨#[c]⟩,H,I1,⟨u,rfl⟩,⟨rfl,c,EU,rfl⟩,⟨hi,lR⟩,fun b hb=>(hf b hb).1⟩⟩
 done:=by
  intro X hP hw hK hc i pins s σ H E I hf st hg
  subst hP hw hK
  obtain⟨f0,f1,f2,f3,f4,f5⟩:=hf it (by simp)
  have hi:i=x.cps.size:=Nat.le_antisymm st.1 hg
  subst hi
  exact(Walks.strAscii (prog:=X.prog) (w:=X.w) (I.ok.hd hc) it x t).done s _ _ st.2 fun h' tk kk=>⟨rfl,I.turned (fun b o hb e=>kk b o (by simpa using hb) e) f0 f1 f3 f4 f5⟩
 self:=fun _ _ _ _ _ st h=>wpAny_pyIter_striter_ascii st.2 h
theorem u9{P:Program}{w:World}{K:W.Frag}{tg:Expr}(it:Addr)(x:Str)(t:Tok):Turn P w K tg (D0 x) [it] it (fun i h=>i≤x.cps.size∧h.IsStrIter it "str_iterator" x t i) where
 mem:=by simp
 obj:=fun i h st b hb=>by
  have e:b=it:=by simpa using hb
  subst e
  obtain⟨_,o,e,c,d⟩:=st
  exact⟨o,e,fun v z=>by rw[d] at z;cases z⟩
 keep:=fun i h h' st k=>⟨st.1,let ⟨o,e,r⟩:=st.2;⟨o,k it (by simp) o e,r⟩⟩
 item:=by
  intro X hP hw hK hc i pins s σ H E I hf st hg
  subst hP hw hK
  obtain⟨f0,f1,f2,f3,f4,f5⟩:=hf it (by simp)
  have hi:i<x.cps.size:=hg
  refine(Walks.strWide (prog:=X.prog) (w:=X.w) (I.ok.hd hc) it x t).item i s _ _ hi st.2 fun v h' tk hv lR kk=>?_
  obtain⟨c,u,EU,rfl⟩:=hv
  have I1:Inv X pins σ H {s with heap:=h',toks:=tk}:=I.turned (fun b o hb e=>kk b o (by simpa using hb) e) f0 f1 f3 f4 f5
  obtain⟨o,e,cc,dd⟩:=id lR
  exact⟨_,rfl,mM (s:={s with heap:=h',toks:=tk}) e cc dd (by decide) ⟨.str ⟨#[c]⟩,H,I1,⟨u,rfl⟩,⟨rfl,c,EU,rfl⟩,⟨hi,lR⟩,fun b hb=>(hf b hb).1⟩⟩
 done:=by
  intro X hP hw hK hc i pins s σ H E I hf st hg
  subst hP hw hK
  obtain⟨f0,f1,f2,f3,f4,f5⟩:=hf it (by simp)
  have hi:i=x.cps.size:=Nat.le_antisymm st.1 hg
  subst hi
  exact(Walks.strWide (prog:=X.prog) (w:=X.w) (I.ok.hd hc) it x t).done s _ _ st.2 fun h' tk kk=>⟨rfl,I.turned (fun b o hb e=>kk b o (by simpa using hb) e) f0 f1 f3 f4 f5⟩
 self:=fun _ _ _ _ _ st h=>wpAny_pyIter_striter_wide st.2 h
section
variable{X:Cx}{Xw:Nat→Hp→Prop}{tg a b e l o:Expr}{δ δa δb δo:DE}{δs:DA}{pos p p2 apos bo:Pos}
def Ft(tl:TE):TI:=fun σ H R=>tl σ H fun x H1=>∃z,x= .str z∧R (D0 z) H1
theorem Bx{tl:TE}(hl:PE X l tl):PI X tg l (Ft tl):=by
 intro pins s σ H R I h
 refine bB (hl pins s σ H _ I h) fun v s1 ⟨x,H1,I1,r1,q1⟩=>?_
 obtain⟨z,e,q⟩:=q1
 subst e
 obtain⟨t,rfl⟩:=r1
 have fp:∀b∈[s1.heap.objs.size],pd X pins H1 b:=fun b hb=>by
  have e:b=s1.heap.objs.size:=by simpa using hb
  subst e
  exact I1.fpOk (Nat.le_refl _) (I1.hok.fresh (Nat.le_refl _))
 cases ha:z.cps.all (· <128)
 ·exact wpAny_pyIter_wide ha ⟨s1.heap.objs.size,[s1.heap.objs.size],_,_,H1,rfl,I1.kept (t':=s1.toks) fun b o e=>Heap.get?_push_of_some _ e,u9 _ z t,⟨Nat.zero_le _,_,Heap.get?_push_size _ rfl,rfl,rfl⟩,fp,q⟩
 ·exact wpAny_pyIter_ascii ha ⟨s1.heap.objs.size,[s1.heap.objs.size],_,_,H1,rfl,I1.kept (t':=s1.toks) fun b o e=>Heap.get?_push_of_some _ e,u7 _ z t,⟨Nat.zero_le _,_,Heap.get?_push_size _ rfl,rfl,rfl⟩,fp,q⟩
def signs(x:Str):List D:=x.cps.toList.map fun c=>D.str ⟨#[c]⟩
def BN:D→M (List D)
 | .str x=>M.ret (signs x)
 |_=>M.stuck
theorem ye{K:W.Frag}{F:Hp}(x:Str):ItD K F (D0 x) (signs x):=fun F' H' i s1 s2=>by
 refine⟨fun d e=>?_,fun hl=>show x.cps.size≤i by simpa[signs] using hl⟩
 unfold signs at e
 rw[List.getElem?_map] at e
 cases q:x.cps.toList[i]? with
 |none=>rw[q] at e;cases e
 |some c=>
  rw[q] at e
  cases e
  have hi:i<x.cps.size:=by
   have:=(List.getElem?_eq_some_iff.mp q).1
   simpa using this
  refine⟨hi,fun v H'' y=>?_⟩
  obtain⟨e2,c',zB,rfl⟩:=y
  subst e2
  have:c'=c:=by
   have q':x.cps[i]? =some c:=by simpa using q
   rw[q'] at zB
   exact(Option.some.inj zB).symm
  subst this
  exact⟨F',Ext.refl s2,rfl,by show 1≤lim;decide⟩
theorem yJ(h:PD X Xw l δ):t5 X Xw tg l (fun ρ=>δ ρ>>=BN):=PI.weak (Bx h) fun σ H R ⟨F,ρ,s,w⟩=>by
 refine⟨F,ρ,s,WP.mono (WPI.bind w) fun v H1 ⟨F1,d,e1,q1,w1⟩=>?_⟩
 cases d with
 |str z=>exact⟨z,q1.1,w1 _ _ _ (Ext.refl e1.fh) (ye z)⟩
 |_=>exact w1.elim
end
end L3
namespace L3
open PySem PySem.Spec L2 SeqAt HT
open PyProof.Rows hiding St
open PySem.W (Frag Looks InstAt findIn mroIn)
open PySem.Builtin PySem.Builtin.ObjectAttr PySem.Builtin.Getset_descriptor
section
variable{prog:Program}{w:World}{A:Around}{E:Value→Shared→Prop}{h:Heap}{g:Array GenState}{d:Drawn}{t:Nat}{os:OsState}{x D:Addr}{ox:Obj}{K:Frag}
structure ExcC (K:Frag) (D:Addr):Prop where
 ga:findIn K (.ref D) "__getattribute__"=some (some (.builtin "BaseException.__getattribute__"))
 gt:findIn K (.ref D) "__getattr__"=some none
 ca:findIn K (.ref D) "__class__"=some (some (.builtin "object.__class__"))
 mo:mroIn K D (.type "object")=some true
 mb:mroIn K D (.type "BaseException")=some true
 cl:(PySem.W.clsIn K D).isSome=true
end
section
variable{X:Cx}{Xw:Nat→Hp→Prop}{e e2:Expr}{δs:DA}{pos p:Pos}
end
end L3
namespace L3
open PySem PySem.Spec L2 SeqAt HT
open PyProof.Rows hiding St
open PySem.W (Frag Looks findIn mroIn)
section
variable{X:Cx}{pins pn:List (Addr×Obj)}{σ:St}{H:Hp}{s:Shared}{E:Value→Shared→Prop}{ea:Addr}
end
section
variable{P:Program}{w:World}{K:W.Frag}{mg:Str→Option Value}{base:Heap}{N:List Str}{qual:Str}{scope:Scope}{f:Addr}{cd:Value}{A:Around}{outer:List Env}{s₀:Shared}{H₀:Hp}{E:XK}{cv:Nat→Value}
end
end L3
namespace L3
open PySem PySem.Spec L2 SeqAt HT
open PyProof.Rows hiding St
structure RoomH (k:Nat) (A:Around):Prop where
 dp:A.depth+3*k+5<recursionLimit
 un:A.units+16*k+200<cLine
theorem RoomH.units{k:Nat}{A:Around}(r:RoomH k A):A.units+64<cLine:=by have:=r.un;omega
structure FnOkH (P:Program) (w:World) (K:W.Frag) (mg:Str→Option Value) (base:Heap) (k:Nat) (f:Addr) (fd:FuncData) (ps:List Str) (sp:Sp):Prop where
 len:∀vs H Q E,sp vs H Q E→vs.length=ps.length
 run:∀(A:Around) (outer:List Env) (s:Shared) (H:Hp) (args:Args) (us:List Value) (vs:List V) (Q:VK) (E:XK),RoomH k A→Env0 P w K mg base A outer s H→BindsTo s fd args (ps.zip us)→Vals vs us→sp vs H Q E→
  codeAny (model P w) A (.call (.ref f) args) (CR Hj outer P w H s Q E) s
section
variable{P:Program}{w:World}{K:W.Frag}{mg:Str→Option Value}{base:Heap}{cv:Nat→Value}
end
section
variable{X:Cx}{Xw:Nat→Hp→Prop}{cv:Nat→Value}{k m:Nat}{f:Addr}{fd:FuncData}{ps:List Str}{g:List D→M D}{x:Str}{p pos:Pos}{e:Expr}{es:List Expr}{δs:DA}
end
def sT(N:List Str)(osc scope:Scope)(tn:List Str):Bool:=
 decide (scope.kind= .function)&&scope.names.all (fun y=>decide (y.2≠ .cell))&&scope.names.all (fun y=>decide (y.2= .local→scope.names.lookup y.1=some .local))&&
 scope.names.all (fun y=>decide (y.2= .free→(osc.names.lookup y.1=some .cell∨osc.names.lookup y.1=some .free)))&&
 ((cB tn N).zip N).all (fun p=>decide (scope.names.lookup p.1=none∨(p.1=p.2∧scope.names.lookup p.1=some .free)))
theorem bL{X:Cx}{N:List Str}{osc scope:Scope}{tn:List Str}(hN:X.N=N)(ho:X.env.scope=osc)(h:sT N osc scope tn=true):CompSc X scope tn:=by
 unfold sT at h
 simp only[Bool.and_eq_true,List.all_eq_true,decide_eq_true_eq] at h
 obtain⟨⟨⟨⟨h1,h2⟩,h3⟩,h4⟩,h5⟩:=h
 refine⟨h1,h2,h3,fun y hy hf=>?_,?_⟩
 ·have:=h4 y hy hf
  rw[←ho] at this
  exact this
 ·rw[hN]
  exact h5
theorem cW{X:Cx}{x:Str}{px:Pos}{σ:St}(hN:X.N.Nodup)(h0:X.N[0]? =some x)(Ax:X.env.scope.names.lookup x=some .local):vh X (.Name x px) 0 σ:=fun pins s σ' F H d ts v u I fh hd rv q e=>by
 have e:M.ret [d]=M.ret ts:=e
 have e:=d4 e
 subst e
 refine wpAny_assign_Name (qK I hN h0 (.inl Ax) rv (fun s' I'=>⟨[v],?_, .cons q .nil⟩) (.inr Ax))
 have hl:0<σ'.length:=by rw[I.len];exact(List.getElem?_eq_some_iff.mp h0).1
 have:σ'.set 0 (some v)=[v].map some++σ:=by
  cases σ' with
  |nil=>simp at hl
  |cons a r=>
   have hd:r=σ:=by simpa using hd
   subst hd
   rfl
 rw[←this]
 exact I'
theorem bK{P:Program}{w:World}{cv:Nat→Value}{X:Cx}:Passes (nW P w cv) X (EX cv fun _ _=>False):=fun _ _ _ _ _ _ _ ⟨_,_,_,_,_,_,_,_,_,_,_,_,_,_,z⟩=>z.elim
def bx(K:W.Frag)(mg:Str→Option Value)(x:Str)(st:Stmt)(f:Addr):Prop:=mg x=some (.ref f)∧∃fd,Fun K x x st f fd
def aq(P:Program)(w:World)(K:W.Frag)(mg:Str→Option Value)(base:Heap)(cv:Nat→Value)(k:Nat)(x:Str)(m:Nat)(g:List D→M D):Prop:=
 ∃f fd ps,mg x=some (.ref f)∧PySem.W.keepIn K (.ref f)=true∧Binds K fd ps []∧FnOk P w K mg base (nW P w cv) k f fd ps (Ca K cv m g)
section
variable{X:Cx}{Xw:Nat→Hp→Prop}{cv:Nat→Value}{k m:Nat}{g:List D→M D}{x:Str}{p pos:Pos}{e:Expr}{es:List Expr}{δs:DA}
def ah(m:Nat)(g:List D→M D)(δs:DA):DE:=fun ρ=>δs ρ>>=fun ds=>if ds.length=m then g ds else M.stuck
theorem aV(F:aq X.prog X.w X.K X.mg X.base cv k x m g)(hr:Room k X.A)(hg:Gl X x)(hx:Passes (nW X.prog X.w cv) X (EX cv Xw))
 (ha:mr X Xw (e::es) δs)(hl:(e::es).length=m)(pV:(x==("__debug__":Str))=false:=by decide)(he:starEach (e::es) X.env=(false,eval e X.env)::starEach es X.env:=by rfl)(oj:(backTo pos (starEach es X.env)).any (·.1)=false:=by rfl):
 PD X Xw (.Call (.Name x p) (e::es) [] pos) (ah m g δs):=by
 obtain⟨f,fd,ps,h1,h2,h3,h4⟩:=F
 exact yB h4 hr hg h1 h2 h3 hx ha hl pV he oj
end
theorem aD{P:Program}{w:World}{K:W.Frag}{mg:Str→Option Value}{base:Heap}{cv:Nat→Value}{k:Nat}{x:Str}{st:Stmt}{f:Addr}{N ps:List Str}{τ:DS}(T:bx K mg x st f)(S:FnScope N ps (ag st))
 (Gy:∀(kV doc pm:Value) (an:Option Addr) (b8 ct:Value) (us:List Value),us.length=ps.length→bindArgs (PySem.W.fnOf x x (de st) (bD st) (ag st) .none kV doc pm an b8 ct) ⟨us,[]⟩=pure (ps.zip us))
 (pU:∀(b8:Value) (A:Around) (outer:List Env) (s:Shared) (H:Hp) (E:XK),Room k (A.deeper (envOfC x (ag st) s.heap.objs.size f b8))→
  PSDs (fo (nW P w cv) P w K mg base N x (ag st) f b8 A outer s H E) (fun n H'=>E (cv n) none H') (bD st) τ):aq P w K mg base cv (k+1) x ps.length (bW N.length τ):=by
 obtain⟨h1,fd,Fn⟩:=T
 exact⟨f,fd,ps,h1,Fn.kp,Fn.binds Gy,CA Fn S pU⟩
section
variable{X:Cx}{Xw:Nat→Hp→Prop}{a e:Expr}{δ:DE}{pos:Pos}
def ft:D→M D
 | .int i=>M.ret (.int (-i))
 |_=>M.stuck
theorem lr(ha:PD X Xw a δ):PD X Xw (.UnaryOp .USub a pos) (d1 ft δ):=PE.weak (Dv BZ ha) fun σ H Q ⟨F,ρ,s,w⟩=>by
 refine⟨F,ρ,s,WP.mono (WP.bind w) fun v H1 ⟨F1,d,e1,q,w1⟩=>?_⟩
 cases d with
 |int i=>
  have q:v= .int i:=q
  subst q
  exact⟨i,rfl,WP.now w1 e1.fh rfl⟩
 |_=>exact w1.elim
end
section
variable{X:Cx}{Xw:Nat→Hp→Prop}{pos:Pos}
theorem yG{x z:Str}(hg:Gl X x)(h:∃t,X.mg x=some (.str z t))(hz:z.length≤lim)(pV:(x==("__debug__":Str))=false:=by decide):PD X Xw (.Name x pos) (dC (.str z)):=by
 obtain⟨t,h⟩:=h
 exact tI (v:= .str z) hg h ⟨t,rfl⟩ (fun _=>⟨rfl,hz⟩) pV
theorem tJ{x:Str}{i:Int}(hg:Gl X x)(h:∃t,X.mg x=some (.int i t))(pV:(x==("__debug__":Str))=false:=by decide):PD X Xw (.Name x pos) (dC (.int i)):=by
 obtain⟨t,h⟩:=h
 exact tI (v:= .int i) hg h ⟨t,rfl⟩ (fun _=>rfl) pV
end
structure Box (p:Prop):Prop where
 out:p
section
variable{X:Cx}{Xw:Nat→Hp→Prop}{a:Expr}{δa:DE}{pos:Pos}
theorem vv{st:Stmt}{rest:List Stmt}{τ τ':DS}(h1:Box (j3 X Xw st τ))(h2:Box (PSDs X Xw rest τ')):Box (PSDs X Xw (st::rest) (aA τ τ')):=⟨af h1.out h2.out⟩
theorem Ag{st:Stmt}{τ:DS}(h1:Box (j3 X Xw st τ)):Box (PSDs X Xw [st] τ):=⟨ai h1.out⟩
end
theorem DZ{l:PySem.W.OpenLaw}{n k:Nat}{q:Program}{loose:List Str}{XP:(Str→Option Value)→Heap→Prop}{YP:World→Heap→Prop}{d:DefRec}{K:Params→W.Frag}{x:Str}{g:List D→M D}
 (hn:l.most=some n)(Eb:n≤lim)(CL:d.params.defaults=[])(hr:Room k callerA)
 (hY:∀(w:World) (h:Heap),YP w h→(K w.params).In h)(hg:∀ns:List Int,ns.length≤n→g [.scr ns]=M.ret (.bl true))
 (F:∀(w:World) (mg:Str→Option Value) (fa:Addr) (h:Heap),(K w.params).In h→h.Ns mainGlobals mg→mg d.name=some (.ref fa)→
  ∃(cv:Nat→Value) (fd:FuncData),(∀(s:Shared) (u:Value),BindsTo s fd ⟨[u],[]⟩ [(x,u)])∧
   ∀base:Heap,(K w.params).In base→base.Ns mainGlobals mg→FnOk l.prog w (K w.params) mg base (nW l.prog w cv) k fa fd [x] (Ca (K w.params) cv 1 g)):
 PySem.W.WalkO q loose XP YP l.row.toRowW d [] (fun f vs=>PySem.call f vs):=by
 refine Att.attach_call hn CL fun w s₀ s₁ mg mb fa o pm cd doc a vs ns G Y ho hd ve Az vX hints hlen H8=>?_
 have KX:=hY w _ Y
 obtain⟨cv,fd,hb,hF⟩:=F w mg fa _ KX G.T.g Az
 refine p0 KX G.T.g G.T.b G.T.builtins G.T.nolimit H8 vX hints (Nat.le_trans hlen (Nat.le_trans Eb (Nat.le_of_lt c8))) hr hF hb (fun H hO hS=>?_) fun H e s' z=>?_
 ·refine⟨H,[.scr ns],fun _ _ e=>e,⟨_,_,rfl,⟨a,rfl,hS,Nat.le_trans hlen Eb⟩,rfl⟩,rfl,?_⟩
  rw[hg ns hlen]
  exact fun v H' F' e q=>q
 ·obtain⟨_,_,_,_,_,_,_,_,_,_,_,_,_,_,y⟩:=z
theorem kB{α β:Type}{f g:α→Option β}:∀{l:List α},(∀x∈l,f x=g x)→l.filterMap f=l.filterMap g
 |[],_=>rfl
 |a::l,h=>by rw[List.filterMap_cons,List.filterMap_cons,h a (List.mem_cons_self ..),kB fun x hx=>h x (List.mem_cons_of_mem _ hx)]
section
variable{prog:Program}{w:World}{A:Around}{E:Value→Shared→Prop}{s:Shared}
end
section
variable{X:Cx}{Xw:Nat→Hp→Prop}{e B5:Expr}{te ts:TE}{δ δs:DE}{pos p2:Pos}
def Gf(X:Cx)(r:V→Hp→VK→Prop):Prop:=
 ∀(pins:List (Addr×Obj)) (s:Shared) (σ:St) (H:Hp) (x:V) (v:Value) (u:Tok) (sl:Addr) (Q:VK),Inv X pins σ H s→RelV x v→s.heap.IsSliceOf sl .none .none (.int (-1) u)→r x H Q→
  ∃T id,typeLookup (.type T) "__getitem__"=pure (some (.builtin id))∧s.TypeIs v T∧wpAny (model X.prog X.w) X.A (getItem v (.ref sl)) (EP X pins σ Q) X.xe s
theorem Bt{r:V→Hp→VK→Prop}(hr:Gf X r)(he:PE X e te)(hs:PE X B5 ts):PE X (.Subscript e (.Slice none none (some B5) p2) pos) (fun σ H Q=>te σ H fun x H1=>ts σ H1 fun y H2=>y= .int (-1)∧r x H2 Q):=by
 intro pins s σ H Q I h
 refine Subscript_ (bB (he pins s σ H _ I h) fun v s1 ⟨x,H1,I1,r1,q1⟩=>?_)
 refine wpAny_Slice ?_
 rw[evalPart_none]
 refine wpAny_pure (wpAny_pure ?_)
 rw[evalPart_some]
 refine bB (hs pins s1 σ H1 _ I1 q1) fun vs s3 ⟨y,H3,I3,ry,q3⟩=>?_
 obtain⟨rfl,q3⟩:=q3
 obtain⟨u,rfl⟩:=ry
 have I4:Inv X pins σ H3 {s3 with heap:=s3.heap.push {cls:= .type "slice",data:= .fields #[.none, .none, .int (-1) u]} }:=I3.kept (t':=s3.toks) fun b ob q=>Heap.get?_push_of_some _ q
 obtain⟨T,id,hT,ht,hg⟩:=hr pins {s3 with heap:=s3.heap.push {cls:= .type "slice",data:= .fields #[.none, .none, .int (-1) u]} } σ H3 x v u s3.heap.objs.size Q I4 r1 (Heap.IsSliceOf.new ..) q3
 show wpAny (model X.prog X.w) X.A (subscriptTail e (.Slice none none (some B5) p2) v (.ref s3.heap.objs.size)) (EP X pins σ Q) X.xe {s3 with heap:=s3.heap.push {cls:= .type "slice",data:= .fields #[.none, .none, .int (-1) u]} }
 exact tail_any (ops:=[v, .ref s3.heap.objs.size]) ht hT hg (by with_unfolding_all rfl)
variable{o:Expr}{δo:DE}{δl:DA}{apos bo:Pos}
end
namespace RV
end RV
section
variable{prog:Program}{w:World}{A:Around}{E:Value→Shared→Prop}{s:Shared}
end
section
variable{X:Cx}{Xw:Nat→Hp→Prop}{tg e:Expr}{es:List Expr}{δ δi:DE}{δs:DA}{pos p:Pos}
end
end L3
namespace L3
open PySem PySem.Spec L2 SeqAt HT
open PyProof.Rows hiding St
def rH:D→Option Key
 | .int i=>some (.inl i)
 | .str x=>some (.inr x)
 |_=>none
def oo:List D→Option (List Key)
 |[]=>some []
 |d::ds=>match rH d,oo ds with
  |some k,some ks=>some (k::ks)
  |_,_=>none
def df:D→Option (List Key)
 | .tup ds=>oo ds
 |_=>none
theorem kO{K:W.Frag}{F:Hp}{d:D}{v:V}{k:Key}(e:rH d=some k)(h:Den K F d v):v=kV k:=by
 cases d<;>first | cases e | skip
 ·exact h
 ·exact h.1
theorem fF{K:W.Frag}{F:Hp}:∀{ds:List D}{vs:List V}{ks:List Key},oo ds=some ks→DenL K F ds vs→vs=ks.map kV
 |[],_,_,e,h=>by cases e;exact h
 |d::ds,_,_,e,⟨v,r,h1,h2,h3⟩=>by
  unfold oo at e
  split at e
  ·rename_i k ks e1 e2
   cases e
   subst h1
   rw[List.map_cons,kO e1 h2,fF e2 h3]
  ·cases e
section
variable{κ:Type}[DecidableEq κ]
def eI:List κ→List D→κ→Option D
 |k'::ks,d::ds,k=>if k'=k then some d else eI ks ds k
 |_,_,_=>none
def mh:List κ→List D→κ→D→List D
 |k'::ks,d'::ds,k,d=>(if k'=k then d else d')::mh ks ds k d
 |_,_,_,_=>[]
theorem iR{K:W.Frag}{F:Hp}:∀{ks:List κ}{ds:List D}{vs:List V}(k:κ),DenL K F ds vs→ks.length=ds.length→
 (match eI ks ds k with | some d=>∃v,iS (ks.zip vs) k=some v∧Den K F d v | none=>iS (ks.zip vs) k=none)
 |[],[],_,_,_,_=>rfl
 |k'::ks,d::ds,_,k,⟨v,r,h1,h2,h3⟩,hl=>by
  subst h1
  unfold eI
  rw[List.zip_cons_cons]
  by_cases e:k'=k
  ·rw[if_pos e,iU (p:=(k',v)) e]
   exact⟨v,rfl,h2⟩
  ·rw[if_neg e,iT (p:=(k',v)) e]
   exact iR k h3 (by simpa using hl)
 |[],_::_,_,_,_,hl=>by simp at hl
 |_::_,[],_,_,_,hl=>by simp at hl
theorem fY{K:W.Frag}{F:Hp}{ks:List κ}{ds:List D}{vs:List V}(k:κ)(h:DenL K F ds vs)(hl:ks.length=ds.length):(iS (ks.zip vs) k).isSome=(eI ks ds k).isSome:=by
 have:=iR k h hl
 split at this
 ·rename_i d e
  obtain⟨v,e1,_⟩:=this
  rw[e1,e];rfl
 ·rename_i e
  rw[this,e]
  rfl
theorem qA{K:W.Frag}{F:Hp}{d:D}{v:V}(hd:Den K F d v):∀{ks:List κ}{ds:List D}{vs:List V}(k:κ),DenL K F ds vs→ks.length=ds.length→
 ∃ws,(ks.zip vs).map (fun kv=>if kv.1=k then(kv.1,v) else kv)=ks.zip ws∧DenL K F (mh ks ds k d) ws
 |[],[],_,_,h,_=>⟨[],rfl,rfl⟩
 |k'::ks,d'::ds,_,k,⟨v',r,h1,h2,h3⟩,hl=>by
  subst h1
  obtain⟨ws,e1,e2⟩:=qA hd k h3 (by simpa using hl)
  by_cases e:k'=k
  ·refine⟨v::ws,?_,?_⟩
   ·rw[List.zip_cons_cons,List.map_cons,e1,if_pos e];rfl
   ·unfold mh;rw[if_pos e];exact .cons hd e2
  ·refine⟨v'::ws,?_,?_⟩
   ·rw[List.zip_cons_cons,List.map_cons,e1,if_neg e];rfl
   ·unfold mh;rw[if_neg e];exact .cons h2 e2
 |[],_::_,_,_,_,hl=>by simp at hl
 |_::_,[],_,_,_,hl=>by simp at hl
theorem lI:∀(ks:List κ) (ds:List D) (k:κ) (d:D),ks.length=ds.length→(mh ks ds k d).length=ds.length
 |[],[],_,_,_=>rfl
 |_::ks,_::ds,k,d,h=>by unfold mh;rw[List.length_cons,List.length_cons,lI ks ds k d (by simpa using h)]
 |[],_::_,_,_,h=>by simp at h
 |_::_,[],_,_,h=>by simp at h
def fM(ks:List κ)(ds:List D)(k:κ):List κ:=if (eI ks ds k).isSome then ks else ks++[k]
def eC(ks:List κ)(ds:List D)(k:κ)(d:D):List D:=if (eI ks ds k).isSome then mh ks ds k d else ds++[d]
theorem tQ{K:W.Frag}{F:Hp}{d:D}{v:V}(hd:Den K F d v){ks:List κ}{ds:List D}{vs:List V}(k:κ)(h:DenL K F ds vs)(hl:ks.length=ds.length):
 ∃ws,putK (ks.zip vs) k v=(fM ks ds k).zip ws∧DenL K F (eC ks ds k d) ws∧(fM ks ds k).length=(eC ks ds k d).length:=by
 have hs:=fY (K:=K) (F:=F) k h hl
 unfold putK fM eC
 have ha:((ks.zip vs).any fun kv=>decide (kv.1=k))=(iS (ks.zip vs) k).isSome:=lU ..
 rw[ha,hs]
 cases e:(eI ks ds k).isSome with
 |true=>
  rw[if_pos rfl,if_pos rfl,if_pos rfl]
  obtain⟨ws,e1,e2⟩:=qA hd k h hl
  exact⟨ws,e1,e2,by rw[lI ks ds k d hl];exact hl⟩
 |false=>
  rw[if_neg Bool.false_ne_true,if_neg Bool.false_ne_true,if_neg Bool.false_ne_true]
  refine⟨vs++[v],?_,h.append (.cons hd .nil),by simp[hl]⟩
  rw[List.zip_append (by rw[hl];exact h.len)]
  rfl
end
theorem tZ{κ:Type}{K:W.Frag}{F:Hp}{ks:List κ}{ds:List D}{vs:List V}(h:DenL K F ds vs)(hl:ks.length=ds.length):(ks.zip vs).length=ds.length:=by
 rw[List.length_zip,hl,←h.len];omega
def lP(ρ:aW)(i:Nat):Option D:=match ρ[i]? with
 |some (some (.fz d))=>some d
 |some (some (.ow c))=>some c.d
 |_=>none
theorem xh{K:W.Frag}{F H:Hp}{σ:St}{ρ:aW}{i:Nat}{ks:List (List Key)}{ds:List D}(s:StE K F H σ ρ)(e:lP ρ i=some (.dct ks ds)):
 ∃a vs,σ[i]? =some (some (.ref a))∧Rd H a (.dT (ks.zip vs))∧DenL K F ds vs∧ks.length=ds.length∧ds.length≤lim:=by
 unfold lP at e
 split at e
 ·rename_i d e1
  cases e
  obtain⟨v,h1,a,ob,vs,rfl,h2,h3,h4,h5⟩:=s.den i _ e1
  exact⟨a,vs,h1, .inr ⟨ob,s.fh _ _ h2⟩,h3,h4,h5⟩
 ·rename_i c e1
  cases c<;>cases e
  obtain⟨v,h1,a,o,rfl,h2,_,vs,rfl,h3,h4,h5⟩:=s.den i _ e1
  exact⟨a,vs,h1, .inl h2,h3,h4,h5⟩
 ·cases e
theorem xg{K:W.Frag}{F H:Hp}{σ:St}{ρ:aW}{i:Nat}{ks:List Key}{ds:List D}(s:StE K F H σ ρ)(e:lP ρ i=some (.dci ks ds)):
 ∃a vs,σ[i]? =some (some (.ref a))∧Rd H a (.dK (ks.zip vs))∧DenL K F ds vs∧ks.length=ds.length∧ds.length≤lim:=by
 unfold lP at e
 split at e
 ·rename_i d e1
  cases e
  obtain⟨v,h1,a,ob,vs,rfl,h2,h3,h4,h5⟩:=s.den i _ e1
  exact⟨a,vs,h1, .inr ⟨ob,s.fh _ _ h2⟩,h3,h4,h5⟩
 ·rename_i c e1
  cases c<;>cases e
  obtain⟨v,h1,a,o,rfl,h2,_,vs,rfl,h3,h4,h5⟩:=s.den i _ e1
  exact⟨a,vs,h1, .inl h2,h3,h4,h5⟩
 ·cases e
def xy:D→D→Option (Option D)
 | .dct ks ds,k=>(df k).map (eI ks ds)
 | .dci ks ds,k=>(rH k).map (eI ks ds)
 |_,_=>none
theorem sO{K:W.Frag}{F H:Hp}{σ:St}{ρ:aW}{i:Nat}{d k:D}{y:V}{o:Option D}(s:StE K F H σ ρ)(hi:lP ρ i=some d)(hk:Den K F k y)(e:xy d k=some o):
 ∃a ov,σ[i]? =some (some (.ref a))∧lY H a y ov∧ov.isSome=o.isSome∧∀d',o=some d'→∃v,ov=some v∧Den K F d' v:=by
 unfold xy at e
 split at e
 ·rename_i ks ds
  cases q:df k with
  |none=>rw[q] at e;cases e
  |some kk=>
   rw[q] at e
   cases e
   obtain⟨a,vs,h1,h2,h3,h4,h5⟩:=xh s hi
   unfold df at q
   split at q
   ·rename_i es
    obtain⟨b,ws,rfl,k2,k3,_⟩:=hk
    have e1:=fF q k3
    subst e1
    refine⟨a,_,h1, .inr ⟨_,kk,b,h2,rfl,s.fh _ _ k2,rfl⟩,fY kk h3 h4,fun d' vT=>?_⟩
    have:=iR (K:=K) (F:=F) kk h3 h4
    rw[vT] at this
    exact this
   ·cases q
 ·rename_i ks ds
  cases q:rH k with
  |none=>rw[q] at e;cases e
  |some kk=>
   rw[q] at e
   cases e
   obtain⟨a,vs,h1,h2,h3,h4,h5⟩:=xg s hi
   have e1:=kO q hk
   subst e1
   refine⟨a,_,h1, .inl ⟨_,kk,h2,rfl,rfl⟩,fY kk h3 h4,fun d' vT=>?_⟩
   have:=iR (K:=K) (F:=F) kk h3 h4
   rw[vT] at this
   exact this
 ·cases e
section
variable{X:Cx}{Xw:Nat→Hp→Prop}{a b:Expr}{δa δb:DE}{pos:Pos}
end
section
variable{X:Cx}{Xw:Nat→Hp→Prop}{a e:Expr}{δ δk δv:DE}{pos p pos' se apos bo:Pos}{x:Str}{i:Nat}
def Cr(neg:Bool)(i:Nat)(δ:DE):DE:=fun ρ=>δ ρ>>=fun k=>match lP ρ i with
 |some d=>match xy d k with
  |some o=>M.ret (.bl (if neg then !o.isSome else o.isSome))
  |none=>M.stuck
 |none=>M.stuck
theorem AM{neg:Bool}{σ:St}{H:Hp}{Q:VK}(h:tD X.K Xw (Cr neg i δ) σ H Q):(fun σ H Q=>tD X.K Xw δ σ H fun y H1=>qL i σ H1 fun x H2=>∃a o,x= .ref a∧lY H2 a y o∧Q (.bl (if neg then !o.isSome else o.isSome)) H2) σ H Q:=by
 obtain⟨F,ρ,s,w⟩:=h
 refine⟨F,ρ,s,WP.mono (WP.bind w) fun y H1 ⟨F1,k,e1,q1,w1⟩=>?_⟩
 have s1:=s.ext e1
 cases hi:lP ρ i with
 |none=>rw[hi] at w1;exact w1.elim
 |some d=>
  rw[hi] at w1
  have w1:WP X.K Xw F1 H1 (match xy d k with | some o=>M.ret (.bl (if neg then !o.isSome else o.isSome)) | none=>M.stuck) Q:=w1
  cases he:xy d k with
  |none=>rw[he] at w1;exact w1.elim
  |some o=>
   rw[he] at w1
   obtain⟨a,ov,h1,h2,h3,_⟩:=sO s1 hi q1 he
   refine⟨.ref a,h1,a,ov,rfl,h2,?_⟩
   rw[h3]
   exact WP.now w1 e1.fh rfl
theorem FK(hu:X.A.units+64<cLine)(ha:PD X Xw a δ)(hv:PE X (.Name x p) (qL i))(hm:behindInMarks .In (.Name x p)=false:=by rfl):PD X Xw (.Compare a [.In] [.Name x p] pos) (Cr false i δ):=
 PE.weak (Bo (Bf (by omega) ha hv) hm) fun σ H Q h=>AM (neg:=false) h
def z4(i:Nat):DS:=fun ρ=>M.ret (.nx (ρ.set i (some (.ow (.dct [] [])))))
theorem wO(hN:X.N.Nodup)(hi:X.N[i]? =some x)(hx:Loc X.env.scope x)(hf:X.fn x=true∨X.env.scope.names.lookup x=some .local:=by first | exact .inl rfl | exact .inr rfl):
 j3 X Xw (.Assign [.Name x pos'] (.Dict [] [] se) pos) (z4 i):=fun F₀ H₀=>PS.weak (oJ wK (cb hN hi hx hf) rfl) fun D σ H ⟨F,ρ,s,w⟩=>fun q hq=>
 w _ F _ (s.setNew (c₀:= .dct [] []) hq ⟨[],rfl,rfl,rfl,Nat.zero_le _⟩)
def lE:C→D→D→Option C
 | .dct ks ds,k,d=>match df k with
   |some kk=>if ds.length<lim then some (.dct (fM ks ds kk) (eC ks ds kk d)) else none
   |none=>none
 | .dci ks ds,k,d=>match rH k with
   |some kk=>if ds.length<lim then some (.dci (fM ks ds kk) (eC ks ds kk d)) else none
   |none=>none
 |_,_,_=>none
def yz(ρ:aW)(i:Nat):Option C:=match ρ[i]? with
 |some (some (.ow c))=>some c
 |_=>none
theorem uQ{ρ:aW}{i:Nat}{c:C}(h:yz ρ i=some c):ρ[i]? =some (some (.ow c)):=by
 unfold yz at h
 split at h
 ·rename_i c' e
  cases h
  exact e
 ·cases h
def nL(i:Nat)(δk δv:DE):DS:=fun ρ=>match yz ρ i with
 |some c=>δv ρ>>=fun v=>δk ρ>>=fun k=>match lE c k v with
  |some c'=>M.ret (.nx (ρ.set i (some (.ow c'))))
  |none=>M.stuck
 |none=>M.stuck
theorem nE{κ:Type}[DecidableEq κ]{ks:List κ}{ds:List D}{k:κ}{d:D}(hl:ks.length=ds.length)(h:ds.length<lim):(eC ks ds k d).length≤lim:=by
 unfold eC
 split
 ·rw[lI ks ds k d hl];omega
 ·rw[List.length_append];exact h
theorem wW{K:W.Frag}{F H:Hp}{c c':C}{k d:D}{y v:V}{o:HO}{b:Addr}(hs:Same F H)(hb:H b=some o)(hc:DenC K F c o)(hk:Den K F k y)(hd:Den K F d v)(e:lE c k d=some c'):∃o',DPut H b y v (upd H b o')∧DenC K F c' o':=by
 have CV:=c8
 unfold lE at e
 split at e
 ·rename_i ks ds k d
  obtain⟨vs,rfl,h3,h4,h5⟩:=hc
  split at e
  ·rename_i kk q
   split at e
   ·rename_i gr
    cases e
    unfold df at q
    split at q
    ·rename_i es
     obtain⟨b2,ws,rfl,k2,k3,_⟩:=hk
     have e1:=fF q k3
     subst e1
     obtain⟨us,e2,e3,e4⟩:=tQ hd kk h3 h4
     refine⟨_,DPut.t hb (hs _ _ k2) (by rw[tZ h3 h4];omega),us,?_,e3,e4,nE h4 gr⟩
     rw[e2]
    ·cases q
   ·cases e
  ·cases e
 ·rename_i ks ds k d
  obtain⟨vs,rfl,h3,h4,h5⟩:=hc
  split at e
  ·rename_i kk q
   split at e
   ·rename_i gr
    cases e
    have e1:=kO q hk
    subst e1
    obtain⟨us,e2,e3,e4⟩:=tQ hd kk h3 h4
    refine⟨_,DPut.k hb (by rw[tZ h3 h4];omega),us,?_,e3,e4,nE h4 gr⟩
    rw[e2]
   ·cases e
  ·cases e
 ·cases e
theorem qt(hu:X.A.units+64<cLine)(hv:PE X (.Name x p) (qL i))(hk:PD X Xw a δk)(he:PD X Xw e δv)(hs:swapsWith e (some (.Subscript (.Name x p) a pos')) pos.line X.env=pure false:=by rfl):
 j3 X Xw (.Assign [.Subscript (.Name x p) a pos'] e pos) (nL i δk δv):=fun F₀ H₀=>PS.weak (yT (by omega) hv hk he hs) fun D σ H ⟨F,ρ,s,w⟩=>by
 unfold nL at w
 cases ho:yz ρ i with
 |none=>rw[ho] at w;exact w.elim
 |some c=>
  rw[ho] at w
  have hi:=uQ ho
  have w:WPS X.K Xw F₀ H₀ (δv ρ>>=fun v=>δk ρ>>=fun k=>match lE c k v with | some c'=>M.ret (.nx (ρ.set i (some (.ow c')))) | none=>M.stuck) D:=w
  refine⟨F,ρ,s.st,?_⟩
  rcases(δv ρ).cs with q | ⟨n,q⟩ | ⟨dv,q⟩
  ·rw[q] at w;exact w.elim
  ·rw[q] at w⊢;exact fun F' H' e'=>w F' H' (s.ext.trans e')
  ·rw[q] at w⊢
   intro v H1 F1 e1 hq
   have s1:=s.ext' e1
   obtain⟨u,h1,b,o,rfl,h2,h3,h4⟩:=s1.st.den i _ hi
   have w:WPS X.K Xw F₀ H₀ (δk ρ>>=fun k=>match lE c k dv with | some c'=>M.ret (.nx (ρ.set i (some (.ow c')))) | none=>M.stuck) D:=w
   refine⟨.ref b,h1,F1,ρ,s1.st,?_⟩
   rcases(δk ρ).cs with q2 | ⟨n,q2⟩ | ⟨dk,q2⟩
   ·rw[q2] at w;exact w.elim
   ·rw[q2] at w⊢;exact fun F' H' e'=>w F' H' (s1.ext.trans e')
   ·rw[q2] at w⊢
    intro y H2 F2 e2 hy
    have w:WPS X.K Xw F₀ H₀ (match lE c dk dv with | some c'=>M.ret (.nx (ρ.set i (some (.ow c')))) | none=>M.stuck) D:=w
    cases hp:lE c dk dv with
    |none=>rw[hp] at w;exact w.elim
    |some c'=>
     rw[hp] at w
     have s2:=s1.ext' e2
     obtain⟨u2,k1,b2,o2,CI,k2,k3,k4⟩:=s2.st.den i _ hi
     rw[h1] at k1
     cases k1
     cases CI
     obtain⟨o',g,hc⟩:=wW s2.st.fh k2 k4 hy (Den.mono e2.ff hq) hp
     exact⟨b,_,rfl,g,w σ F2 _ (s2.chg hi h1 hc)⟩
end
def cS(c:DT)(body:DS):Nat→DS
 |0,_=>M.stuck
 |n+1,ρ=>c ρ>>=fun b=>if b then body ρ>>=fun o=>match o with | .nx ρ'=>cS c body n ρ' | .rt d=>M.ret (.rt d) else M.ret (.nx ρ)
def oR(c:DT)(body:DS):DS:=fun ρ=>cS c body lim ρ
section
variable{X:Cx}{Xw:Nat→Hp→Prop}{τ:DS}{tc:DT}{pos:Pos}
theorem nB{c:Expr}{body:List Stmt}(hp:PassesOwn (model X.prog X.w) X.A X.env X.xe)(hc:lZ X Xw c tc)(hb:PSDs X Xw body τ):j3 X Xw (.While c body [] pos) (oR tc τ):=fun F₀ H₀=>PS.weak (wN hp hc hb.ex) fun D σ H ⟨F,ρ,s,w⟩=>by
 refine⟨fun m σ H=>∃F ρ,StOk X.K F₀ H₀ F H σ ρ∧WPS X.K Xw F₀ H₀ (cS tc τ m ρ) D,⟨lim,F,ρ,s,w⟩,?_⟩
 rintro m σ H ⟨F,ρ,s,w⟩
 cases m with
 |zero=>exact w.elim
 |succ m=>
  refine⟨F,ρ,s.st,?_⟩
  unfold cS at w
  match tc ρ,w with
  |none,w=>exact w
  |some (.ex n),w=>exact fun F' H' e'=>w F' H' (s.ext.trans e')
  |some (.ok false),w=>exact fun H' F' e'=>w σ F' H' (s.ext' e')
  |some (.ok true),w=>
   intro H' F' e'
   have w:WPS X.K Xw F₀ H₀ (τ ρ>>=fun o=>match o with | .nx ρ'=>cS tc τ m ρ' | .rt d=>M.ret (.rt d)) D:=w
   refine⟨fun σ' H'=>∃F' ρ',StOk X.K F₀ H₀ F' H' σ' ρ'∧WPS X.K Xw F₀ H₀ (cS tc τ m ρ') D,fun σ' H' h=>⟨m,Nat.lt_succ_self m,h⟩,F₀,H₀,F',ρ,s.ext' e',?_⟩
   match τ ρ,w with
   |none,w=>exact w
   |some (.ok (.nx ρ')),w=>exact fun σ' F' H' s'=>⟨F',ρ',s',w⟩
   |some (.ok (.rt d)),w=>exact w
   |some (.ex n),w=>exact w
end
def ij:List D→Option (List (List Key))
 |[]=>some []
 |d::ds=>match df d,ij ds with
  |some k,some ks=>some (k::ks)
  |_,_=>none
theorem Al:∀{x y:D}{k k':Key}{n:Nat},rH x=some k→rH y=some k'→iV n x y=some (decide (k=k'))
 | .int i, .int j,_,_,n,e1,e2=>by
   cases e1;cases e2
   have:iV n (.int i) (.int j)=some (i==j):=by cases n<;>rfl
   rw[this]
   congr 1
   by_cases h:i=j
   ·subst h;simp
   ·simp[h]
 | .str x, .str y,_,_,n,e1,e2=>by
   cases e1;cases e2
   have:iV n (.str x) (.str y)=some (x==y):=by cases n<;>rfl
   rw[this]
   congr 1
   by_cases h:x=y
   ·subst h;simp
   ·simp[h]
 | .int i, .str y,_,_,n,e1,e2=>by
   cases e1;cases e2
   have:iV n (.int i) (.str y)=some false:=by cases n<;>rfl
   rw[this]
   simp
 | .str x, .int j,_,_,n,e1,e2=>by
   cases e1;cases e2
   have:iV n (.str x) (.int j)=some false:=by cases n<;>rfl
   rw[this]
   simp
 | .non,_,_,_,_,e1,_=>by cases e1
 | .bl _,_,_,_,_,e1,_=>by cases e1
 | .raw _,_,_,_,_,e1,_=>by cases e1
 | .exc _,_,_,_,_,e1,_=>by cases e1
 | .scr _,_,_,_,_,e1,_=>by cases e1
 | .tup _,_,_,_,_,e1,_=>by cases e1
 | .lst _,_,_,_,_,e1,_=>by cases e1
 | .dct _ _,_,_,_,_,e1,_=>by cases e1
 | .dci _ _,_,_,_,_,e1,_=>by cases e1
 |_, .non,_,_,_,_,e2=>by cases e2
 |_, .bl _,_,_,_,_,e2=>by cases e2
 |_, .raw _,_,_,_,_,e2=>by cases e2
 |_, .exc _,_,_,_,_,e2=>by cases e2
 |_, .scr _,_,_,_,_,e2=>by cases e2
 |_, .tup _,_,_,_,_,e2=>by cases e2
 |_, .lst _,_,_,_,_,e2=>by cases e2
 |_, .dct _ _,_,_,_,_,e2=>by cases e2
 |_, .dci _ _,_,_,_,_,e2=>by cases e2
theorem sV{n:Nat}:∀{xs ys:List D}{k k':List Key},oo xs=some k→oo ys=some k'→kz (iV n) xs ys=some (decide (k=k'))
 |[],[],_,_,e1,e2=>by cases e1;cases e2;rfl
 |x::xs,[],_,_,e1,e2=>by
  cases e2
  unfold oo at e1
  split at e1
  ·cases e1;simp[kz]
  ·cases e1
 |[],y::ys,_,_,e1,e2=>by
  cases e1
  unfold oo at e2
  split at e2
  ·cases e2;simp[kz]
  ·cases e2
 |x::xs,y::ys,_,_,e1,e2=>by
  unfold oo at e1 e2
  split at e1
  ·rename_i k ks q1 q2
   cases e1
   split at e2
   ·rename_i k' yi q3 q4
    cases e2
    unfold kz
    rw[Al q1 q3,sV q2 q4]
    simp
   ·cases e2
  ·cases e1
theorem xQ{x y:D}{k k':List Key}{n:Nat}(e1:df x=some k)(e2:df y=some k'):iV (n+1) x y=some (decide (k=k')):=by
 cases x with
 |tup xs=>
  cases y with
  |tup ys=>exact sV (n:=n) e1 e2
  |_=>cases e2
 |_=>cases e1
theorem wa{K:W.Frag}{F:Hp}{d:D}{v:V}{k:List Key}(e:df d=some k)(h:Den K F d v):∃a,v= .ref a∧F a=some (.tup (k.map kV)):=by
 cases d with
 |tup ds=>
  obtain⟨a,vs,rfl,h2,h3,_⟩:=h
  have:=fF e h3
  subst this
  exact⟨a,rfl,h2⟩
 |_=>cases e
def je(k:List Key)(ks:List (List Key)):Bool:=ks.any fun k'=>decide (k'=k)
open Classical in
noncomputable def isKey(H:Hp)(k:List Key)(u:Value):Bool:=decide (∃a,u= .ref a∧H a=some (.tup (k.map kV)))
theorem ux{K:W.Frag}{F H:Hp}{d:D}{v:V}{u:Value}{k k':List Key}(hs:Same F H)(e:df d=some k')(h:Den K F d v)(r:RelV v u):isKey H k u=decide (k'=k):=by
 obtain⟨a,rfl,h2⟩:=wa e h
 cases (show u=_ from r)
 unfold isKey
 by_cases hk:k'=k
 ·subst hk
  rw[decide_eq_true rfl]
  exact @decide_eq_true _ (Classical.propDecidable _) ⟨a,rfl,hs _ _ h2⟩
 ·rw[decide_eq_false hk]
  refine @decide_eq_false _ (Classical.propDecidable _) fun⟨b,e1,e2⟩=>hk ?_
  cases e1
  rw[hs _ _ h2] at e2
  injection e2 with e2
  injection e2 with e2
  exact tm e2
theorem jb{X:Cx}{pins:List (Addr×Obj)}{σ:St}{F H:Hp}{s:Shared}{A:Around}{x:D}{v:V}{u:Value}{k:List Key}(I:Inv X pins σ H s)(hs:Same F H)(hu:A.units+6<cLine)(ex:df x=some k)(hx:Den X.K F x v)(rx:RelV v u):
 ∀{ys:List D}{vs:List V}{aG:List Value}{ks:List (List Key)},ij ys=some ks→DenL X.K F ys vs→Vals vs aG→aG.any (isKey H k)=je k ks∧∀t∈aG,EqAt A s t u (isKey H k t)
 |[],_,_,_,e,h,r=>by
  cases e
  cases (show _=_ from h)
  cases r
  exact⟨rfl,fun t ht=>by cases ht⟩
 |y::ys,_,_,_,e,⟨w,ws,h1,h2,h3⟩,r=>by
  subst h1
  unfold ij at e
  split at e
  ·rename_i k' ks e1 e2
   cases e
   cases r with
   |cons r1 r2=>
    obtain⟨Fv,Fw⟩:=jb I hs hu ex hx rx e2 h3 r2
    have hk:=ux (k:=k) hs e1 h2 r1
    refine⟨?_,fun t ht=>?_⟩
    ·rw[List.any_cons,Fv,hk]
     rfl
    ·rcases List.mem_cons.mp ht with rfl | ht
     ·rw[hk]
      exact(oe I hs 6 A y x w v t u _ hu h2 hx r1 rx (xQ e1 ex)).eq
     ·exact Fw t ht
  ·cases e
def uq(neg:Bool):D→D→M D
 |x, .lst ys=>match df x,ij ys with
  |some k,some ks=>M.ret (.bl (if neg then !je k ks else je k ks))
  |_,_=>M.stuck
 |x, .tup ys=>match df x,ij ys with
  |some k,some ks=>M.ret (.bl (if neg then !je k ks else je k ks))
  |_,_=>M.stuck
 |_,_=>M.stuck
def DC(K:W.Frag)(neg:Bool):R2:=fun x y H Q=>∃F dx ys vs p k ks,Same F H∧Den K F dx x∧df dx=some k∧ij ys=some ks∧DenL K F ys vs∧y= .ref p∧(SqL K H p vs∨SqT K H p vs)∧Q (.bl (if neg then !je k ks else je k ks)) H
section
variable{X:Cx}{Xw:Nat→Hp→Prop}{a b:Expr}{δa δb:DE}{pos:Pos}
theorem A9(hu:X.A.units+64<cLine):OpR X (compareOp .In) (DC X.K false):=by
 intro pins s σ H x y v u Q I rx ry h
 obtain⟨F,dx,ys,vs,p,k,ks,hs,hx,ex,ek,hd,rfl,hq,q⟩:=h
 cases (show u=_ from ry)
 have GV:X.A.in1.units+6<cLine:=by show X.A.units+1+6<cLine;omega
 rcases hq with hq | hq
 ·obtain⟨aG,r,pl,hz⟩:=I.list hq
  obtain⟨e1,e2⟩:=jb (A:=X.A.in1) I hs GV ex hx rx ek hd r
  refine SeqAt.in_listAt (isKey H k) pl.isList (fun w hw=>e2 w (by simpa using hw)) ⟨.bl _,H,I,rfl,?_⟩
  rw[show aG.toArray.any (isKey H k)=aG.any (isKey H k) by simp,e1]
  exact q
 ·obtain⟨aG,r,pl,hz⟩:=I.tuple hq
  obtain⟨e1,e2⟩:=jb (A:=X.A.in1) I hs GV ex hx rx ek hd r
  refine SeqAt.in_tupleAt (isKey H k) pl (fun w hw=>e2 w (by simpa using hw)) ⟨.bl _,H,I,rfl,?_⟩
  rw[show aG.toArray.any (isKey H k)=aG.any (isKey H k) by simp,e1]
  exact q
theorem AN{neg:Bool}{K:W.Frag}:pe K (DC K neg) (uq neg):=fun Xw F H x y dx dy Q s hx hy w=>by
 unfold uq at w
 split at w
 ·rename_i ys
  split at w
  ·rename_i k ks e1 e2
   obtain⟨p,vs,h1,h2,h3,_⟩:=hy
   exact⟨F,dx,ys,vs,p,k,ks,s,hx,e1,e2,h3,h1, .inl (SqL.of (s _ _ h2)),WP.now w s rfl⟩
  ·exact w.elim
 ·rename_i ys
  split at w
  ·rename_i k ks e1 e2
   obtain⟨p,vs,h1,h2,h3,_⟩:=hy
   exact⟨F,dx,ys,vs,p,k,ks,s,hx,e1,e2,h3,h1, .inr (SqT.of (s _ _ h2)),WP.now w s rfl⟩
  ·exact w.elim
 ·exact w.elim
theorem Bh(hu:X.A.units+64<cLine)(ha:PD X Xw a δa)(hb:PD X Xw b δb)(hm:behindInMarks .In b=false:=by rfl):PD X Xw (.Compare a [.In] [b] pos) (d2 (uq false) δa δb):=ll (A9 hu) AN ha hb hm
end
end L3
namespace L3
open PySem PySem.W PyProof.Rows
def b9{α:Type}(b:Nat→Nat→Bool):KasT α→α
 | .ret a=>a
 | .ask i j k=>b9 b (k (b i j))
theorem dq{α β:Type}(b:Nat→Nat→Bool)(f:α→KasT β):∀t:KasT α,b9 b (t.bind f)=b9 b (f (b9 b t))
 | .ret _=>rfl
 | .ask i j k=>dq b f (k (b i j))
structure Lt (n:Nat) (b:Nat→Nat→Bool):Prop where
 tr:∀i j k,b i j=true→b j k=true→b i k=true
 IZ:∀i j,b i j=true→b j i=false
 tot:∀i j,i<n→j<n→i≠j→b i j=true∨b j i=true
abbrev at'(p:Array Nat)(i:Nat):Nat:=p.getD i 0
def Ri(b:Nat→Nat→Bool)(p:Array Nat)(k:Nat):Prop:=∀i j,i<j→j<k→b (at' p i) (at' p j)=true
def Fa(b:Nat→Nat→Bool)(p:Array Nat)(k:Nat):Prop:=∀i j,i<j→j<k→b (at' p j) (at' p i)=true
structure PN (n:Nat) (p:Array Nat):Prop where
 sz:p.size=n
 lt:∀i,i<n→at' p i<n
 inj:∀i j,i<n→j<n→at' p i=at' p j→i=j
section
variable{n:Nat}{b:Nat→Nat→Bool}(L:Lt n b)
include L
theorem Ri.more{p:Array Nat}{k:Nat}(h:Ri b p k)(h1:1≤k)(e:b (at' p (k - 1)) (at' p k)=true):Ri b p (k+1):=fun i j s8 hj=>by
 by_cases hk:j<k
 ·exact h i j s8 hk
 ·have:j=k:=by omega
  subst this
  by_cases hi:i=j - 1
  ·subst hi;exact e
  ·exact L.tr _ _ _ (h i (j - 1) (by omega) (by omega)) e
theorem Fa.more{p:Array Nat}{k:Nat}(h:Fa b p k)(h1:1≤k)(e:b (at' p k) (at' p (k - 1))=true):Fa b p (k+1):=fun i j s8 hj=>by
 by_cases hk:j<k
 ·exact h i j s8 hk
 ·have:j=k:=by omega
  subst this
  by_cases hi:i=j - 1
  ·subst hi;exact e
  ·exact L.tr _ _ _ e (h i (j - 1) (by omega) (by omega))
theorem nZ{p:Array Nat}(P:PN n p):∀(f k:Nat),1≤k→k+f≤n→Ri b p k→k≤b9 b (kas_asc p f k)∧b9 b (kas_asc p f k)≤k+f∧Ri b p (b9 b (kas_asc p f k))∧(b9 b (kas_asc p f k)<k+f→b (at' p (b9 b (kas_asc p f k))) (at' p (b9 b (kas_asc p f k) - 1))=true)
 |0,k,h1,hn,h=>⟨Nat.le_refl _,Nat.le_refl _,h,fun z=>absurd z (Nat.lt_irrefl _)⟩
 |f+1,k,h1,hn,h=>by
  have e:b9 b (kas_asc p (f+1) k)=b9 b (if b (at' p k) (at' p (k - 1))=true then KasT.ret k else kas_asc p f (k+1)):=rfl
  rw[e]
  by_cases hb:b (at' p k) (at' p (k - 1))=true
  ·rw[if_pos hb]
   exact⟨Nat.le_refl _,by show k≤_;omega,h,fun _=>hb⟩
  ·rw[if_neg hb]
   have hr:b (at' p (k - 1)) (at' p k)=true:=by
    rcases L.tot (at' p (k - 1)) (at' p k) (P.lt _ (by omega)) (P.lt _ (by omega)) (fun z=>by have:=P.inj _ _ (by omega) (by omega) z;omega) with q | q
    ·exact q
    ·exact absurd q hb
   obtain⟨a1,a2,a3,a4⟩:=nZ P f (k+1) (by omega) (by omega) (Ri.more L h h1 hr)
   exact⟨by omega,by omega,a3,fun z=>a4 (by omega)⟩
theorem pF{p:Array Nat}(P:PN n p):∀(f k:Nat),1≤k→k+f≤n→Fa b p k→∃m,b9 b (kas_desc f p k 0)=(p,m,0)∧k≤m∧m≤k+f∧Fa b p m
 |0,k,h1,hn,h=>⟨k,rfl,Nat.le_refl _,Nat.le_refl _,h⟩
 |f+1,k,h1,hn,h=>by
  have e:b9 b (kas_desc (f+1) p k 0)=b9 b (if b (at' p k) (at' p (k - 1))=true then(if 0>0 then kas_desc f (kas_rev p (k - (0+1)) k) (k+1) 0 else kas_desc f p (k+1) 0)
   else .ask (p.getD (k - 1) 0) (p.getD k 0) fun d=>if d=true then .ret (p,k,0) else kas_desc f p (k+1) (0+1)):=rfl
  rw[e]
  by_cases hb:b (at' p k) (at' p (k - 1))=true
  ·rw[if_pos hb,if_neg (by omega)]
   obtain⟨m,e1,e2,e3,e4⟩:=pF P f (k+1) (by omega) (by omega) (Fa.more L h h1 hb)
   exact⟨m,e1,by omega,by omega,e4⟩
  ·rw[if_neg hb]
   have hr:b (at' p (k - 1)) (at' p k)=true:=by
    rcases L.tot (at' p (k - 1)) (at' p k) (P.lt _ (by omega)) (P.lt _ (by omega)) (fun z=>by have:=P.inj _ _ (by omega) (by omega) z;omega) with q | q
    ·exact q
    ·exact absurd q hb
   refine⟨k,?_,Nat.le_refl _,by omega,h⟩
   show b9 b (if b (at' p (k - 1)) (at' p k)=true then KasT.ret (p,k,0) else kas_desc f p (k+1) (0+1))=_
   rw[if_pos hr]
   rfl
end
theorem c7(p:Array Nat)(k:Nat):at' p k=(p[k]?).getD 0:=by
 unfold at'
 rw[Array.getD_eq_getD_getElem?]
theorem w9{p:Array Nat}{m:Nat}(hm:m≤p.size)(k:Nat):at' (kas_rev p 0 m) k=if k<m then at' p (m - 1 - k) else at' p k:=by
 have e:=getElem?_mirror_all (xs:=p) (i:=0) hm k
 rw[c7]
 show (((mirror p 0 m ((m - 0) / 2))[k]?).getD 0)=_
 rw[e]
 by_cases h:k<m
 ·rw[if_pos ⟨Nat.zero_le _,h⟩,if_pos h,c7,Nat.zero_add]
 ·rw[if_neg (fun z=>h z.2),if_neg h,c7]
theorem vr{p:Array Nat}{k l:Nat}(hk:k<p.size)(hl:l≤k)(j:Nat):at' (bubble p k (k - l)) j=if j=l then at' p k else if l<j∧j≤k then at' p (j - 1) else at' p j:=by
 have e:=getElem?_bubble hk (k - l) (by omega) j
 have e2:k - (k - l)=l:=by omega
 rw[e2] at e
 rw[c7 (bubble p k (k - l)),e,c7 p k,c7 p (j - 1),c7 p j]
 by_cases c1:j=l
 ·rw[if_pos c1,if_pos c1]
 ·rw[if_neg c1,if_neg c1]
  by_cases c2:l<j∧j≤k
  ·rw[if_pos c2,if_pos c2]
  ·rw[if_neg c2,if_neg c2]
section
variable{n:Nat}{b:Nat→Nat→Bool}
theorem PN.rev{p:Array Nat}(P:PN n p){m:Nat}(hm:m≤n):PN n (kas_rev p 0 m):=by
 have ha:=w9 (p:=p) (m:=m) (by rw[P.sz];exact hm)
 refine⟨(mirror_size ..).trans P.sz,fun i hi=>?_,fun i j hi hj e=>?_⟩
 ·rw[ha]
  split
  ·exact P.lt _ (by omega)
  ·exact P.lt _ hi
 ·rw[ha,ha] at e
  split at e<;>split at e
  ·have:=P.inj _ _ (by omega) (by omega) e;omega
  ·have:=P.inj _ _ (by omega) hj e;omega
  ·have:=P.inj _ _ hi (by omega) e;omega
  ·exact P.inj _ _ hi hj e
theorem PN.bub{p:Array Nat}(P:PN n p){k l:Nat}(hk:k<n)(hl:l≤k):PN n (bubble p k (k - l)):=by
 have ha:=vr (p:=p) (k:=k) (l:=l) (by rw[P.sz];exact hk) hl
 refine⟨(bubble_size ..).trans P.sz,fun i hi=>?_,fun i j hi hj e=>?_⟩
 ·rw[ha]
  split
  ·exact P.lt _ hk
  ·split
   ·exact P.lt _ (by omega)
   ·exact P.lt _ hi
 ·rw[ha,ha] at e
  split at e
  ·split at e
   ·omega
   ·split at e
    ·have:=P.inj _ _ hk (by omega) e;omega
    ·have:=P.inj _ _ hk hj e;omega
  ·split at e
   ·split at e
    ·have:=P.inj _ _ (by omega) hk e;omega
    ·split at e
     ·have:=P.inj _ _ (by omega) (by omega) e;omega
     ·have:=P.inj _ _ (by omega) hj e;omega
   ·split at e
    ·have:=P.inj _ _ hi hk e;omega
    ·split at e
     ·have:=P.inj _ _ hi (by omega) e;omega
     ·exact P.inj _ _ hi hj e
theorem Fa.rev{p:Array Nat}(P:PN n p){m:Nat}(hm:m≤n)(h:Fa b p m):Ri b (kas_rev p 0 m) m:=fun i j s8 hj=>by
 have ha:=w9 (p:=p) (m:=m) (by rw[P.sz];exact hm)
 rw[ha,ha,if_pos (by omega),if_pos hj]
 exact h _ _ (by omega) (by omega)
variable(L:Lt n b)
include L
theorem xo{p:Array Nat}(P:PN n p){m:Nat}(h1:1≤m)(hm:m≤n)(h:Fa b p m):∃k q,b9 b (kas_tail3 m n p)=(k,q)∧PN n q∧1≤k∧k≤n∧Ri b q k:=by
 unfold kas_tail3
 rw[dq]
 obtain⟨a1,a2,a3,_⟩:=nZ L (P.rev hm) (n - m) m h1 (by omega) (Fa.rev P hm h)
 exact⟨_,_,rfl,P.rev hm,by omega,by omega,a3⟩
theorem ug{p:Array Nat}(P:PN n p)(h2:2≤n):∃k q,b9 b (kas_count n p)=(k,q)∧PN n q∧1≤k∧k≤n∧Ri b q k:=by
 unfold kas_count
 rw[dq]
 obtain⟨a1,a2,a3,a4⟩:=nZ L P (n - 1) 1 (Nat.le_refl _) (by omega) (fun i j s8 hj=>by omega)
 generalize b9 b (kas_asc p (n - 1) 1)=m at a1 a2 a3 a4
 by_cases he:m=n
 ·subst he
  rw[if_pos (by simp)]
  exact⟨m,p,rfl,P,by omega,Nat.le_refl _,a3⟩
 ·rw[if_neg (by simpa using he)]
  by_cases hg:m>1
  ·rw[if_pos hg]
   have hb:b (p.getD 0 0) (p.getD (m - 1) 0)=true:=a3 0 (m - 1) (by omega) (by omega)
   show∃k q,b9 b (if b (p.getD 0 0) (p.getD (m - 1) 0)=true then KasT.ret (m,p) else kas_descPart m n (kas_rev p 0 m))=(k,q)∧_
   rw[if_pos hb]
   exact⟨m,p,rfl,P,by omega,by omega,a3⟩
  ·rw[if_neg hg]
   have hm:m=1:=by omega
   subst hm
   have hb:=a4 (by omega)
   unfold kas_descPart
   rw[dq]
   obtain⟨m,e1,e2,e3,e4⟩:=pF L P (n - (1+1)) (1+1) (by omega) (by omega) (fun i j s8 hj=>by
    have hi:i=0:=by omega
    have hj:j=1:=by omega
    subst hi hj
    exact hb)
   rw[e1]
   dsimp only
   rw[if_neg (by omega)]
   exact xo L P (by omega) (by omega) e4
theorem jh{p:Array Nat}(P:PN n p){k:Nat}(hk:k<n)(h:Ri b p k):∀(f l r:Nat),l≤r→r≤k→r - l≤f→(∀i,i<l→b (at' p i) (at' p k)=true)→(∀i,r≤i→i<k→b (at' p k) (at' p i)=true)→
 b9 b (kas_place p k f l r)≤k∧(∀i,i<b9 b (kas_place p k f l r)→b (at' p i) (at' p k)=true)∧∀i,b9 b (kas_place p k f l r)≤i→i<k→b (at' p k) (at' p i)=true
 |0,l,r,h1,h2,h3,h4,h5=>by
  have:r=l:=by omega
  subst this
  exact⟨h2,h4,h5⟩
 |f+1,l,r,h1,h2,h3,h4,h5=>by
  unfold kas_place
  by_cases GI:l≥r
  ·rw[if_pos GI]
   have:r=l:=by omega
   subst this
   exact⟨h2,h4,h5⟩
  ·rw[if_neg GI]
   have hm:(l+r) / 2<r:=by omega
   have Ay:l≤(l+r) / 2:=by omega
   show b9 b (if b (at' p k) (at' p ((l+r) / 2))=true then kas_place p k f l ((l+r) / 2) else kas_place p k f ((l+r) / 2+1) r)≤k∧(∀i,i<b9 b (if b (at' p k) (at' p ((l+r) / 2))=true then kas_place p k f l ((l+r) / 2) else kas_place p k f ((l+r) / 2+1) r)→_)∧∀i,b9 b (if b (at' p k) (at' p ((l+r) / 2))=true then kas_place p k f l ((l+r) / 2) else kas_place p k f ((l+r) / 2+1) r)≤i→_
   by_cases hb:b (at' p k) (at' p ((l+r) / 2))=true
   ·rw[if_pos hb]
    refine jh P hk h f l ((l+r) / 2) Ay (by omega) (by omega) h4 fun i hi Ib=>?_
    by_cases e:i=(l+r) / 2
    ·rw[e];exact hb
    ·exact L.tr _ _ _ hb (h _ _ (by omega) Ib)
   ·rw[if_neg hb]
    have hr:b (at' p ((l+r) / 2)) (at' p k)=true:=by
     rcases L.tot (at' p ((l+r) / 2)) (at' p k) (P.lt _ (by omega)) (P.lt _ hk) (fun z=>by have:=P.inj _ _ (by omega) hk z;omega) with q | q
     ·exact q
     ·exact absurd q hb
    refine jh P hk h f ((l+r) / 2+1) r (by omega) h2 (by omega) (fun i hi=>?_) h5
    by_cases e:i=(l+r) / 2
    ·rw[e];exact hr
    ·exact L.tr _ _ _ (h i ((l+r) / 2) (by omega) (by omega)) hr
theorem sQ:∀(f:Nat) {p:Array Nat}{k:Nat},PN n p→k+f≤n→Ri b p k→PN n (b9 b (kas_bin f p k))∧Ri b (b9 b (kas_bin f p k)) (k+f)
 |0,p,k,P,_,h=>⟨P,h⟩
 |f+1,p,k,P,hn,h=>by
  have hk:k<n:=by omega
  unfold kas_bin
  rw[dq]
  obtain⟨a1,a2,a3⟩:=jh L P hk h k 0 k (Nat.zero_le _) (Nat.le_refl _) (by omega) (fun i hi=>by omega) (fun i h1 h2=>by omega)
  generalize b9 b (kas_place p k k 0 k)=l at a1 a2 a3
  have ha:=vr (p:=p) (k:=k) (l:=l) (by rw[P.sz];exact hk) a1
  have hR:Ri b (bubble p k (k - l)) (k+1):=fun i j s8 hj=>by
   rw[ha,ha]
   by_cases c1:i=l
   ·rw[if_pos c1,if_neg (by omega),if_pos ⟨by omega,by omega⟩]
    exact a3 _ (by omega) (by omega)
   ·rw[if_neg c1]
    by_cases c2:j=l
    ·rw[if_pos c2,if_neg (by omega)]
     exact a2 _ (by omega)
    ·rw[if_neg c2]
     by_cases c3:l<i∧i≤k
     ·rw[if_pos c3,if_pos ⟨by omega,by omega⟩]
      exact h _ _ (by omega) (by omega)
     ·rw[if_neg c3]
      by_cases c4:l<j∧j≤k
      ·rw[if_pos c4]
       exact h _ _ (by omega) (by omega)
      ·rw[if_neg c4]
       exact h _ _ s8 (by omega)
  have:=sQ f (P.bub hk a1) (by omega) hR
  rw[show k+(f+1)=k+1+f by omega]
  exact this
theorem xi(h2:2≤n):PN n (b9 b (kas_sort n))∧Ri b (b9 b (kas_sort n)) n:=by
 have P0:PN n (List.toArray (List.range n)):=by
  have e:∀i,i<n→at' (List.toArray (List.range n)) i=i:=fun i hi=>by rw[c7];simp[hi]
  exact⟨by simp,fun i hi=>by rw[e i hi];exact hi,fun i j hi hj z=>by rw[e i hi,e j hj] at z;exact z⟩
 unfold kas_sort
 rw[dq]
 obtain⟨k,q,e,P,k1,kn,hR⟩:=ug L P0 h2
 rw[e]
 dsimp only
 by_cases gr:k<n
 ·rw[if_pos gr]
  have:=sQ L (n - max k 1) (k:=max k 1) P (by omega) (by rw[show max k 1=k by omega];exact hR)
  rw[show max k 1+(n - max k 1)=n by omega] at this
  exact this
 ·rw[if_neg gr]
  have:k=n:=by omega
  subst this
  exact⟨P,hR⟩
end
def Asks{α:Type}(n:Nat)(P:α→Prop):KasT α→Prop
 | .ret a=>P a
 | .ask i j k=>i<n∧j<n∧∀c,Asks n P (k c)
theorem Asks.bind{α β:Type}{n:Nat}{P:α→Prop}{Q:β→Prop}{f:α→KasT β}:∀{t:KasT α},Asks n P t→(∀a,P a→Asks n Q (f a))→Asks n Q (t.bind f)
 | .ret a,h,hf=>hf a h
 | .ask i j k,h,hf=>⟨h.1,h.2.1,fun c=>Asks.bind (h.2.2 c) hf⟩
theorem wp_run{α:Type}{n:Nat}{P:α→Prop}{b:Nat→Nat→Bool}{cmp:Nat→Nat→(Bool→Shared→Prop)→Shared→Prop}{Q:α→Shared→Prop}{s:Shared}(hc:∀i j C,i<n→j<n→C (b i j) s→cmp i j C s):∀{t:KasT α},Asks n P t→Q (b9 b t) s→t.kasWp cmp Q s
 | .ret a,_,h=>h
 | .ask i j k,ha,h=>hc i j _ ha.1 ha.2.1 (wp_run hc (ha.2.2 _) h)
def Below(n:Nat)(p:Array Nat):Prop:=∀x∈p,x<n
section
variable{n:Nat}(hn:0<n)
include hn
theorem Below.at{p:Array Nat}(h:Below n p)(i:Nat):at' p i<n:=by
 rw[c7]
 cases e:p[i]? with
 |none=>exact hn
 |some x=>exact h x (Array.mem_of_getElem? e)
theorem Below.rev{p:Array Nat}(h:Below n p)(i j:Nat):Below n (kas_rev p i j):=fun x hx=>h x ((mirror_perm p i j ((j - i) / 2)).mem_iff.mp hx)
theorem Below.bub{p:Array Nat}(h:Below n p)(k d:Nat):Below n (bubble p k d):=fun x hx=>h x ((bubble_perm p k d).mem_iff.mp hx)
theorem kh{p:Array Nat}(h:Below n p):∀f k,Asks n (fun _=>True) (kas_asc p f k)
 |0,k=>trivial
 |f+1,k=>⟨Below.at hn h _,Below.at hn h _,fun c=>by
  show Asks n _ (if c=true then KasT.ret k else kas_asc p f (k+1))
  cases c
  ·exact kh h f (k+1)
  ·exact trivial⟩
theorem f6:∀f {p:Array Nat} k q,Below n p→Asks n (fun r=>Below n r.1) (kas_desc f p k q)
 |0,p,k,q,h=>h
 |f+1,p,k,q,h=>⟨Below.at hn h _,Below.at hn h _,fun c=>by
  cases c
  ·refine⟨Below.at hn h _,Below.at hn h _,fun d=>?_⟩
   cases d
   ·exact f6 f _ _ h
   ·exact h
  ·show Asks n _ (if q>0 then kas_desc f (kas_rev p (k - (q+1)) k) (k+1) 0 else kas_desc f p (k+1) 0)
   split
   ·exact f6 f _ _ (Below.rev hn h _ _)
   ·exact f6 f _ _ h⟩
theorem mx{p:Array Nat}(h:Below n p)(m r:Nat):Asks n (fun x=>Below n x.2) (kas_tail3 m r p):=Asks.bind (kh hn (Below.rev hn h 0 m) _ _) fun _ _=>Below.rev hn h 0 m
theorem ki{p:Array Nat}(h:Below n p)(m r:Nat):Asks n (fun x=>Below n x.2) (kas_descPart m r p):=Asks.bind (f6 hn _ _ _ h) fun x hx=>by
 split
 ·exact mx hn (Below.rev hn hx _ _) _ _
 ·exact mx hn hx _ _
theorem ra{p:Array Nat}(h:Below n p)(r:Nat):Asks n (fun x=>Below n x.2) (kas_count r p):=Asks.bind (kh hn h _ _) fun m _=>by
 split
 ·exact h
 ·split
  ·refine⟨Below.at hn h _,Below.at hn h _,fun c=>?_⟩
   cases c
   ·exact ki hn (Below.rev hn h _ _) _ _
   ·exact h
  ·exact ki hn h _ _
theorem gF{p:Array Nat}(h:Below n p)(k:Nat):∀f l r,Asks n (fun _=>True) (kas_place p k f l r)
 |0,l,r=>trivial
 |f+1,l,r=>by
  unfold kas_place
  split
  ·exact trivial
  ·refine⟨Below.at hn h _,Below.at hn h _,fun c=>?_⟩
   cases c
   ·exact gF h k f _ _
   ·exact gF h k f _ _
theorem ph:∀f {p:Array Nat} k,Below n p→Asks n (fun _=>True) (kas_bin f p k)
 |0,p,k,h=>trivial
 |f+1,p,k,h=>Asks.bind (gF hn h k _ _ _) fun l _=>ph f _ (Below.bub hn h _ _)
theorem t7:Asks n (fun _=>True) (kas_sort n):=by
 have h0:Below n (List.toArray (List.range n)):=fun x hx=>by simpa using hx
 refine Asks.bind (ra hn h0 n) fun x hx=>?_
 split
 ·exact ph hn _ _ hx
 ·exact trivial
end
def cO:List Int→List Int→Bool
 |[],[]=>false
 |[],_::_=>true
 |_::_,[]=>false
 |x::xs,y::ys=>if x=y then cO xs ys else decide (x<y)
theorem ot:∀a b c:List Int,cO a b=true→cO b c=true→cO a c=true
 |[],[],_,h,_=>by cases h
 |[],_::_,[],_,h=>by cases h
 |[],_::_,_::_,_,_=>rfl
 |_::_,[],_,h,_=>by cases h
 |_::_,_::_,[],_,h=>by cases h
 |x::a,y::b,z::c,h1,h2=>by
  unfold cO at h1 h2⊢
  by_cases e1:x=y
  ·subst e1
   rw[if_pos rfl] at h1
   by_cases e2:x=z
   ·subst e2
    rw[if_pos rfl] at h2⊢
    exact ot a b c h1 h2
   ·rw[if_neg e2] at h2⊢
    exact h2
  ·rw[if_neg e1] at h1
   have h1:=of_decide_eq_true h1
   by_cases e2:y=z
   ·subst e2
    rw[if_neg e1]
    exact decide_eq_true h1
   ·rw[if_neg e2] at h2
    have h2:=of_decide_eq_true h2
    rw[if_neg (by omega)]
    exact decide_eq_true (by omega)
theorem il:∀a b:List Int,cO a b=true→cO b a=false
 |[],[],h=>by cases h
 |[],_::_,_=>rfl
 |_::_,[],h=>by cases h
 |x::a,y::b,h=>by
  unfold cO at h⊢
  by_cases e:x=y
  ·subst e
   rw[if_pos rfl] at h⊢
   exact il a b h
  ·rw[if_neg e] at h
   have h:=of_decide_eq_true h
   rw[if_neg (fun z=>e z.symm)]
   exact decide_eq_false (by omega)
theorem kQ:∀a b:List Int,a≠b→cO a b=true∨cO b a=true
 |[],[],h=>absurd rfl h
 |[],_::_,_=> .inl rfl
 |_::_,[],_=> .inr rfl
 |x::a,y::b,h=>by
  unfold cO
  by_cases e:x=y
  ·subst e
   rw[if_pos rfl,if_pos rfl]
   exact kQ a b fun z=>h (by rw[z])
  ·rw[if_neg e,if_neg (fun z=>e z.symm)]
   by_cases q:x<y
   ·exact .inl (decide_eq_true q)
   ·exact .inr (decide_eq_true (by omega))
section
variable{prog:Program}{w:World}{A:Around}{E:Value→Shared→Prop}{s:Shared}
theorem p5{Q:Bool→Shared→Prop}:∀{us vs:List Value}{xs ys:List Int}(i:Nat) {fin:Bool},IntsAre us xs→IntsAre vs ys→fin=decide (xs.length<ys.length)→Q (cO xs ys) s→KatLex prog w A true fin Q (us.zip vs) i s
 |_,_,_,_,i,_, .nil, .nil,e,h=>by subst e;exact kat_nil h
 |_,_,_,_,i,_, .nil, .cons y t r,e,h=>by subst e;exact kat_nil h
 |_,_,_,_,i,_, .cons x t r, .nil,e,h=>by subst e;exact kat_nil h
 |_,_,_,_,i,_, .cons (vs:=us) (ns:=xs) x t r, .cons (vs:=vs) (ns:=ys) y u r',e,h=>by
  refine kat_cons (wpAny_eqBool_int ?_)
  by_cases q:x=y
  ·subst q
   rw[show (x==x)=true by simp]
   refine kat_yes (p5 (i+1) r r' (by rw[e];simp) ?_)
   unfold cO at h
   rw[if_pos rfl] at h
   exact h
  ·rw[show (x==y)=false by simpa using q]
   unfold cO at h
   rw[if_neg q] at h
   refine kat_no ?_
   by_cases hi:(i==0)=true
   ·rw[hi]
    exact oneLt_int h
   ·rw[show (i==0)=false by simpa using hi]
    exact kat_one _ _ (PyProof.Rows.lt_int h)
def TupsAt(h:Heap):List Value→List (List Int)→Prop
 |[],[]=>True
 |v::vs,k::ks=>(∃a o us m,v= .ref a∧h.get? a=some o∧o.cls= .type "tuple"∧o.data= .seq (List.toArray us) m∧IntsAre us k∧k≠[])∧TupsAt h vs ks
 |_,_=>False
theorem TupsAt.len{h:Heap}:∀{vs:List Value}{ks:List (List Int)},TupsAt h vs ks→vs.length=ks.length
 |[],[],_=>rfl
 |v::vs,k::ks,t=>by rw[List.length_cons,List.length_cons,TupsAt.len t.2]
 |[],_::_,t=>t.elim
 |_::_,[],t=>t.elim
theorem TupsAt.get{h:Heap}:∀{vs:List Value}{ks:List (List Int)}{i:Nat},TupsAt h vs ks→i<vs.length→∃a o us m,vs.getD i Value.none= .ref a∧h.get? a=some o∧o.cls= .type "tuple"∧o.data= .seq (List.toArray us) m∧IntsAre us (ks.getD i [])∧ks.getD i []≠[]
 |v::vs,k::ks,0,t,_=>t.1
 |v::vs,k::ks,i+1,t,hi=>TupsAt.get (i:=i) t.2 (by simpa using hi)
 |[],_,_,_,hi=>by simp at hi
 |_::_,[],_,t,_=>t.elim
theorem TupsAt.keep{h h':Heap}{a:Addr}(k:∀b o,b≠a→h.get? b=some o→h'.get? b=some o)(ha:∀o,h.get? a=some o→o.cls≠ .type "tuple"):∀{vs:List Value}{ks:List (List Int)},TupsAt h vs ks→TupsAt h' vs ks
 |[],[],_=>trivial
 |v::vs,x::ks,⟨⟨b,o,us,m,e1,e2,e3,e4⟩,t⟩=>⟨⟨b,o,us,m,e1,k b o (fun z=>ha o (by rw[←z];exact e2) e3) e2,e3,e4⟩,TupsAt.keep k ha t⟩
 |[],_::_,t=>t.elim
 |_::_,[],t=>t.elim
theorem kH:∀{us:List Value}{xs:List Int},IntsAre us xs→us.length=xs.length
 |_,_, .nil=>rfl
 |_,_, .cons x t r=>by rw[List.length_cons,List.length_cons,kH r]
theorem TupsAt.firsts{M:Model}{h:Heap}:∀{vs:List Value}{ks:List (List Int)},TupsAt h vs ks→∃fs,KatTups h vs fs∧fs.length=vs.length∧∀v∈fs,Looks M h (typeOf v) (.type "int")
 |[],[],_=>⟨[],KatTups.nil,rfl,fun _ z=>by cases z⟩
 |v::vs,k::ks,⟨⟨a,o,us,m,e1,e2,e3,e4,e5,e6⟩,t⟩=>by
  obtain⟨fs,q1,q2,q3⟩:=TupsAt.firsts (M:=M) t
  subst e1
  cases e5 with
  |nil=>exact absurd rfl e6
  |cons x t r=>
   refine⟨.int x t::fs,KatTups.cons e2 e3 e4 (by simp) q1,by simp[q2],fun v hv=>?_⟩
   rcases List.mem_cons.mp hv with rfl | hv
   ·exact show Looks M h (pure (Value.type "int")) (Value.type "int") from .now
   ·exact q3 v hv
 |[],_::_,t=>t.elim
 |_::_,[],t=>t.elim
theorem asked{vs:List Value}{ks:List (List Int)}(t:TupsAt s.heap vs ks)(i j:Nat)(C:Bool→Shared→Prop)(hi:i<vs.length)(hj:j<vs.length)(h:C (cO (ks.getD i []) (ks.getD j [])) s):kas_ask prog w A (tuples' true) vs i j C s:=by
 obtain⟨a,o,us,m,e1,e2,_,e4,e5,_⟩:=t.get hi
 obtain⟨a',o',Jj,m',vc,B3,_,Hn,Gh,_⟩:=t.get hj
 unfold kas_ask
 rw[e1,vc]
 refine kat_lt e2 e4 B3 Hn (p5 0 e5 Gh ?_ h)
 rw[List.size_toArray,List.size_toArray,kH e5,kH Gh]
theorem wj{α:Type}{l:List α}(h:l.Nodup){i j:Nat}(hi:i<l.length)(hj:j<l.length)(e:l[i]=l[j]):i=j:=by
 rcases Nat.lt_trichotomy i j with q | q | q
 ·exact absurd e (List.pairwise_iff_getElem.mp h i j hi hj q)
 ·exact q
 ·exact absurd e.symm (List.pairwise_iff_getElem.mp h j i hj hi q)
theorem u0{a:Addr}{c:Nat}{vs:List Value}{ks:List (List Int)}{P:PySem.Fin→Shared→Prop}(ho:s.heap.get? a=some (seqObj "list" vs.toArray c))(ht:TupsAt s.heap vs ks)(hd:ks.Nodup)(D7:vs.length<64)
 (h:∀(p:Array Nat) (h':Heap) (c':Nat),PN vs.length p→Ri (fun i j=>cO (ks.getD i []) (ks.getD j [])) p vs.length→h'.get? a=some (seqObj "list" (List.toArray (p.toList.map fun i=>vs.getD i Value.none)) c')→
  (∀b o,b≠a→s.heap.get? b=some o→h'.get? b=some o)→P (.done (.ret .none)) {s with heap:=h'}):wpAny (model prog w) A (Builtin.«list.sort» ⟨[.ref a],[]⟩) P E s:=by
 have AI:sizeLine=16777216:=sizeLine_eq
 have s1:=Heap.SameBut.update s.heap a (Obj.mapSeq fun _=>(#[]:Array Value))
 obtain⟨e1,GL⟩:∃e1,(s.heap.update a (Obj.mapSeq fun _=>(#[]:Array Value))).get? a=some (seqObj "list" #[] e1):=⟨_,get?_update_seq ho fun _=> #[]⟩
 have k1:∀b o,b≠a→s.heap.get? b=some o→(((s.heap.update a (Obj.mapSeq fun _=>(#[]:Array Value))).push (seqObj "tuple" vs.toArray 0)).push (seqObj "list" #[] 0)).get? b=some o:=fun b o hb e=>
  Heap.get?_push_of_some _ (Heap.get?_push_of_some _ ((s1.2 b hb).trans e))
 have E8:=Heap.get?_push_of_some (seqObj "list" #[] 0) (Heap.get?_push_of_some (seqObj "tuple" vs.toArray 0) GL)
 have t3:=ht.keep k1 (fun o e z=>by rw[ho] at e;cases e;exact absurd (Value.type.inj z) (by decide))
 have fin:∀(st:SortSt) (p:Array Nat),PN vs.length p→Ri (fun i j=>cO (ks.getD i []) (ks.getD j [])) p vs.length→(arrOf st).map (·.2)=List.toArray (p.toList.map fun i=>vs.getD i Value.none)→failedOf st=none→
  wpAny (model prog w) A (do
   let touched:=(←seqEpoch a) !=e1
   Builtin.List.listUpdate (.ref a) fun _=>(arrOf st).map (·.2)
   if let some e:=failedOf st then rule "list.sort.comparison-raised";throw e
   if touched then rule "list.sort.modified";raiseError "ValueError" "list modified during sort"
   ret .none) P E {s with heap:=((s.heap.update a (Obj.mapSeq fun _=>(#[]:Array Value))).push (seqObj "tuple" vs.toArray 0)).push (seqObj "list" #[] 0)}:=fun st p hp hr he hf=>by
  have hz:(List.toArray (p.toList.map fun i=>vs.getD i Value.none)).size=vs.length:=by rw[List.size_toArray,List.length_map,Array.length_toList,hp.sz]
  rw[he,hf]
  refine wpAny_bind (seqEpoch_at E8 rfl (wpAny_bind (listUpdate_at E8 rfl ?_ (Nat.zero_le _) (by rw[hz,AI];omega))))
  simp only[bne_self_eq_false,Bool.false_eq_true,if_false]
  have s2:=Heap.SameBut.update (((s.heap.update a (Obj.mapSeq fun _=>(#[]:Array Value))).push (seqObj "tuple" vs.toArray 0)).push (seqObj "list" #[] 0)) a (Obj.mapSeq fun _=>List.toArray (p.toList.map fun i=>vs.getD i Value.none))
  exact wpAny_pure (h p _ _ hp hr (get?_update_seq E8 fun _=>List.toArray (p.toList.map fun i=>vs.getD i Value.none)) fun b o hb e=>(s2.2 b hb).trans (k1 b o hb e))
 rw[list_sort_plain]
 refine wpAny_bind (listItems_at ho rfl (wpAny_bind (listUpdate_at ho rfl (wpAny_bind (seqEpoch_at GL rfl ?_)) (by rw[List.size_toArray,AI];omega) (Nat.zero_le _))))
 refine wpAny_bind (wpAny_newTuple (wpAny_bind (wpAny_newList (wpAny_holding ?_) (Nat.zero_le _))) (by show vs.length≤_;rw[AI];omega))
 show wpAny (model prog w) A _ P E {s with heap:=((s.heap.update a (Obj.mapSeq fun _=>(#[]:Array Value))).push (seqObj "tuple" vs.toArray 0)).push (seqObj "list" #[] 0)}
 dsimp only
 by_cases hs:vs.toArray.size<2
 ·rw[if_pos hs,if_pos hs]
  have Av:vs.length<2:=by simpa using hs
  refine wpAny_bind (wpAny_pure (wpAny_bind (wpAny_pure ?_)))
  refine fin (SortSt.mk' general' (vs.toArray.zip vs.toArray) #[] 7 none) (List.toArray (List.range vs.length)) ⟨by simp,fun i hi=>?_,fun i j hi hj _=>by omega⟩ (fun i j s8 hj=>by omega) ?_ rfl
  ·rw[c7];simp[hi]
  ·show (vs.toArray.zip vs.toArray).map (·.2)=_
   apply Array.toList_inj.mp
   refine List.ext_getElem (by simp) fun i a1 a2=>?_
   simp at a1
   simp[a1]
 ·rw[if_neg hs,if_neg hs]
  have Av:2≤vs.length:=by
   have:¬vs.length<2:=by simpa using hs
   omega
  obtain⟨fs,q1,q2,q3⟩:=t3.firsts (M:=model prog w)
  refine wpAny_bind (kat_kind q1 (by omega) q3 rfl ?_)
  have hb:Lt vs.length (fun i j=>cO (ks.getD i []) (ks.getD j [])):=⟨fun i j k=>ot _ _ _,fun i j=>il _ _,fun i j hi hj s8=>kQ _ _ fun z=>s8 (by
   rw[ht.len] at hi hj
   rw[List.getD_eq_getElem?_getD,List.getD_eq_getElem?_getD,List.getElem?_eq_getElem hi,List.getElem?_eq_getElem hj] at z
   exact wj hd hi hj (by simpa using z))⟩
  obtain⟨r1,r2⟩:=xi hb Av
  have run:=kat_run (prog:=prog) (w:=w) (A:=A) (E:=E) (ks:=vs) (vs:=vs) (κ:=tuples' true) (Q:=fun st s'=>s'={s with heap:=((s.heap.update a (Obj.mapSeq fun _=>(#[]:Array Value))).push (seqObj "tuple" vs.toArray 0)).push (seqObj "list" #[] 0)}∧∃p,PN vs.length p∧Ri (fun i j=>cO (ks.getD i []) (ks.getD j [])) p vs.length∧(arrOf st).map (·.2)=List.toArray (p.toList.map fun i=>vs.getD i Value.none)∧failedOf st=none)
   (G:=fun p s'=>s'={s with heap:=((s.heap.update a (Obj.mapSeq fun _=>(#[]:Array Value))).push (seqObj "tuple" vs.toArray 0)).push (seqObj "list" #[] 0)}∧PN vs.length p∧Ri (fun i j=>cO (ks.getD i []) (ks.getD j [])) p vs.length) rfl Av D7
   (fun p lR s' a1 a2 a3 a4=>⟨a4.1,p,a4.2.1,a4.2.2,kat_snds rfl a2,a3⟩)
   (wp_run (s:={s with heap:=((s.heap.update a (Obj.mapSeq fun _=>(#[]:Array Value))).push (seqObj "tuple" vs.toArray 0)).push (seqObj "list" #[] 0)}) (fun i j C hi hj hC=>asked t3 i j C hi hj hC) (t7 (by omega)) ⟨rfl,r1,r2⟩)
  refine wpAny_bind (wpAny_mono run ?_ fun _ _ e=>e)
  rintro⟨⟨⟩,lR⟩ s' ⟨rfl,p,a1,a2,a3,a4⟩
  exact fin lR p a1 a2 a3 a4
end
section
variable{prog:Program}{w:World}{A:Around}{E:Value→Shared→Prop}{s:Shared}
theorem mW{d:Addr}{od:Obj}{es:Array DictEntry}{ep:Nat}{Q:Value→Shared→Prop}(lo:(d==sysModules)=false)(ho:s.heap.get? d=some od)(hx:od.ExactDict)(hd:od.data= .dict es ep)
 (hQ:Q (.ref s.heap.objs.size) {s with heap:=s.heap.push {cls:= .type "dict_keyiterator",data:= .fields #[.ref d, .int 0 0, .int es.size 0, .int ep 0]} }):wpAny (model prog w) A (pyIter (.ref d)) Q E s:=by
 have hT:s.TypeIs (.ref d) "dict":=⟨od,ho,hx.1⟩
 refine wpAny_pyIter_slot hT F.slot_dict_iter (wpAny_call_entry F.slot_dict_iter hT F.entry_dict_iter ?_ (F.args_dict_iter_1 _))
 unfold Builtin.«dict.__iter__» Builtin.Dict.dictSlotNone
 refine wpAny_bind (wpAny_bind (wpAny_notOrdered_dict hT ?_))
 show wpAny _ _ (pure (Value.ref d)) _ _ s
 refine wpAny_pure ?_
 show wpAny _ _ (Builtin.Dict.showsAll d>>=_) _ _ s
 unfold Builtin.Dict.showsAll
 rw[if_neg (by rw[lo];exact Bool.false_ne_true)]
 refine wpAny_bind (wpAny_pure (wpAny_bind (wpAny_dictEntries ho hd (wpAny_bind (wpAny_dictEpoch ho hd ?_)))))
 refine wpAny_bind (wpAny_newObj_type (wpAny_pure ⟨_,rfl,"dict_keyiterator",_,⟨_,Heap.get?_push_size _ rfl,rfl⟩,F.slot_dict_keyiterator_next.lookup,?_⟩))
 simpa[rawInt] using hQ
theorem p9{it d:Addr}{od:Obj}{es:Array DictEntry}{i ep:Nat}{e:DictEntry}{Q:Option Value→Shared→Prop}(hit:s.heap.IsKeyIter it d i es.size ep)(AF:s.heap.get? d=some od)(pb:od.data= .dict es ep)(hx:es[i]? =some e)
 (hQ:∀h',h'.IsKeyIter it d (i+1) es.size ep→Heap.SameBut it s.heap h'→Q (some e.key) {s with heap:=h'}):wpAny (model prog w) A (pyNext (.ref it)) Q E s:=by
 obtain⟨o,ho,hc,hd⟩:=id hit
 have gr:i<es.size:=(Array.getElem?_eq_some_iff.mp hx).1
 have AG:Builtin.Dict_items.ownsTuple "dict_keyiterator"=false:=by decide
 unfold pyNext
 refine wpAny_bind (wpAny_attempt (wpAny_callSpecial?_slot (name:=Str.ofString "__next__") hit.typeIs F.slot_dict_keyiterator_next
  (wpAny_call_entry F.slot_dict_keyiterator_next hit.typeIs F.entry_dict_keyiterator_next ?_ (F.args_dict_keyiterator_next_1 _))))
 refine wpAny_bind (wpAny_pure (wpAny_bind (wpAny_bind ?_)))
 first | refine wpAny_bind (wpAny_typeNameOfWhole_keyiter hit.typeIs (wpAny_pure ?_)) | refine wpAny_bind (wpAny_typeNameOf_keyiter hit.typeIs (wpAny_pure ?_))
 refine wpAny_bind (wpAny_fieldsOf ho hd ?_)
 simp only[AG,Bool.false_eq_true,if_false]
 show wpAny _ _ (if (Value.ref d==Value.none)=true then _ else _) _ _ s
 rw[if_neg (show¬((Value.ref d==Value.none)=true) from Bool.false_ne_true)]
 refine wpAny_bind (wpAny_pure (wpAny_bind (wpAny_dictEntries AF pb ?_)))
 rw[if_neg (by simp)]
 refine wpAny_bind (wpAny_pure (wpAny_bind (wpAny_dictEpoch AF pb ?_)))
 rw[if_neg (by simp)]
 refine wpAny_pure ?_
 simp only[show¬((i:Int)<0) from by omega,if_false,Int.toNat_natCast,hx]
 refine wpAny_bind ?_
 first | refine wpAny_bind (wpAny_typeNameOfWhole_keyiter hit.typeIs (wpAny_pure ?_)) | refine wpAny_bind (wpAny_typeNameOf_keyiter hit.typeIs (wpAny_pure ?_))
 refine wpAny_bind (wpAny_isOneOf_keyiter hit.typeIs ?_)
 show wpAny _ _ (setField (.ref it) 1 (rawInt ((i:Int)+1))>>=_) _ _ s
 refine wpAny_bind (wpAny_setField ho hd (by simp) ?_)
 have xV:(s.heap.update it (Obj.mapFields (·.setIfInBounds 1 (rawInt ((i:Int)+1))))).IsKeyIter it d (i+1) es.size ep:=
  ⟨_,Heap.get?_update_self _ ho (Obj.isFreed_of_fields (Obj.data_mapFields hd _)),(Obj.cls_mapFields ..).trans hc,by rw[Obj.data_mapFields hd];simp[rawInt]⟩
 refine wpAny_bind (wpAny_holding (wpAny_bind (wpAny_isOneOf_keyiter (s:={s with heap:=s.heap.update it (Obj.mapFields (·.setIfInBounds 1 (rawInt ((i:Int)+1))))}) xV.typeIs ?_)))
 show wpAny _ _ (pure e.key) _ _ _
 exact wpAny_pure (wpAny_pure ⟨_,rfl,wpAny_pure (hQ _ xV (Heap.SameBut.update ..))⟩)
theorem mH{it d:Addr}{od:Obj}{es:Array DictEntry}{ep i:Nat}{Q:Option Value→Shared→Prop}(hh:A.handled=none)(hit:s.heap.IsKeyIter it d i es.size ep)(hi:es.size≤i)(AF:s.heap.get? d=some od)(pb:od.data= .dict es ep)
 (hQ:∀h',Heap.ExtBut it s.heap h'→Q none {s with heap:=h'}):wpAny (model prog w) A (pyNext (.ref it)) Q E s:=by
 obtain⟨o,ho,hc,hd⟩:=id hit
 have AG:Builtin.Dict_items.ownsTuple "dict_keyiterator"=false:=by decide
 unfold pyNext
 refine wpAny_bind (wpAny_attempt (wpAny_callSpecial?_slot (name:=Str.ofString "__next__") hit.typeIs F.slot_dict_keyiterator_next
  (wpAny_call_entry F.slot_dict_keyiterator_next hit.typeIs F.entry_dict_keyiterator_next ?_ (F.args_dict_keyiterator_next_1 _))))
 refine wpAny_bind (wpAny_pure (wpAny_bind (wpAny_bind ?_)))
 first | refine wpAny_bind (wpAny_typeNameOfWhole_keyiter hit.typeIs (wpAny_pure ?_)) | refine wpAny_bind (wpAny_typeNameOf_keyiter hit.typeIs (wpAny_pure ?_))
 refine wpAny_bind (wpAny_fieldsOf ho hd ?_)
 simp only[AG,Bool.false_eq_true,if_false]
 show wpAny _ _ (if (Value.ref d==Value.none)=true then _ else _) _ _ s
 rw[if_neg (show¬((Value.ref d==Value.none)=true) from Bool.false_ne_true)]
 refine wpAny_bind (wpAny_pure (wpAny_bind (wpAny_dictEntries AF pb ?_)))
 rw[if_neg (by simp)]
 refine wpAny_bind (wpAny_pure (wpAny_bind (wpAny_dictEpoch AF pb ?_)))
 rw[if_neg (by simp)]
 refine wpAny_pure ?_
 simp only[show¬((i:Int)<0) from by omega,if_false,Int.toNat_natCast,Array.getElem?_eq_none hi]
 refine wpAny_bind ?_
 first | refine wpAny_bind (wpAny_typeNameOfWhole_keyiter hit.typeIs (wpAny_pure ?_)) | refine wpAny_bind (wpAny_typeNameOf_keyiter hit.typeIs (wpAny_pure ?_))
 show wpAny _ _ (setField (.ref it) 0 .none>>=_) _ _ s
 refine wpAny_bind (wpAny_setField ho hd (by simp) ?_)
 show wpAny _ _ (newExc (.type "StopIteration") []>>=_) _ _ _
 refine wpAny_bind ?_
 simp only[newExc,newTuple]
 refine wpAny_bind (wpAny_newObj_type ?_ (by size_fits))
 refine wpAny_bind (m:=firstArgMember _ _) (wpAny_of_eq (a:=Value.none) (by first | rfl | (simp only[firstArgMember];rfl)) ?_)
 refine wpAny_newObj_type ?_ (by size_fits)
 simp only[raiseNew]
 refine wpAny_bind (wpAny_handled ?_)
 rw[show A.in1.handled=none from hh]
 refine wpAny_bind (wpAny_pure (wpAny_throw ?_))
 refine wpAny_bind (wpAny_isInstance (T:="StopIteration") (b:=true) ⟨_,Heap.get?_push_size _ rfl,rfl⟩ isSubtype_stop ?_)
 exact wpAny_pure (hQ _ (((Heap.SameBut.update ..).extBut.push _).push _))
theorem vH{it d:Addr}{od:Obj}{es:Array DictEntry}{ep:Nat}{Q:Option Value→Shared→Prop}(hh:A.handled=none)(hit:s.heap.IsKeyIter it d es.size es.size ep)(AF:s.heap.get? d=some od)(pb:od.data= .dict es ep)
 (hQ:∀h',Heap.ExtBut it s.heap h'→Q none {s with heap:=h'}):wpAny (model prog w) A (pyNext (.ref it)) Q E s:=mH hh hit (Nat.le_refl _) AF pb hQ
def zl(es:Array DictEntry):Nat→Value→Prop:=fun i v=>∃e,es[i]? =some e∧v=e.key
theorem sC(hh:A.handled=none)(I d:Addr)(l7:d≠I){od:Obj}{es:Array DictEntry}{ep:Nat}(pb:od.data= .dict es ep):
 Walks prog w A I [I,d] [I] es.size (zl es) (fun i h=>h.IsKeyIter I d i es.size ep∧h.get? d=some od) where
 sub:=fun b hb=>by simp at hb;simp[hb]
 frame:=fun _ _ _ st hk=>⟨st.1.at fun o e=>hk I (by simp) o e,hk d (by simp) _ st.2⟩
 item:=fun i s Q E hi st hQ=>by
  have hx:es[i]? =some es[i]:=Array.getElem?_eq_getElem hi
  exact p9 st.1 st.2 pb hx fun h' xV Ed=>hQ _ h' s.toks ⟨_,hx,rfl⟩ ⟨xV,(Ed.2 d l7).trans st.2⟩ fun b o hb e=>Ed.extBut b o (fun h=>hb (by simp[h])) e
 done:=fun s Q E st hQ=>vH hh st.1 st.2 pb fun h' HS=>hQ h' s.toks fun b o hb e=>HS b o (fun h=>hb (by simp[h])) e
 self:=fun _ _ _ _ st hQ=>wpAny_pyIter_keyiter st.1 hQ
theorem xj{d:Addr}{od:Obj}{es:Array DictEntry}{ep:Nat}(lo:(d==sysModules)=false)(hx:od.ExactDict)(pb:od.data= .dict es ep):KdlSrc prog w "dict" d d es.size (zl es) (fun h=>h.get? d=some od) where
 type:=fun _ hm=>⟨od,hm,hx.1⟩
 there:=fun _ hm=>⟨Heap.lt_size hm,Heap.lt_size hm⟩
 keep:=fun _ _ hm hk=>hk d (.inl rfl) od hm
 notList:=by decide
 notTuple:=by decide
 hint:=fun _ _ s _ hm hq=>kdl_hint_dict ⟨od,hm,hx.1⟩ hq
 iter:=fun _ _ hh hm=>⟨_,_,(fun _ _ hq=>mW lo hm hx pb hq),sC hh _ d (Nat.ne_of_lt (Heap.lt_size hm)) pb,⟨⟨_,Heap.get?_push_size _ rfl,rfl,rfl⟩,Heap.get?_push_of_some _ hm⟩⟩
end
end L3
namespace L3
open PySem
def insI(k:List Int):List (List Int)→List (List Int)
 |[]=>[k]
 |x::r=>if cO k x then k::x::r else x::insI k r
def sortI:List (List Int)→List (List Int)
 |[]=>[]
 |k::r=>insI k (sortI r)
def q_(l:List (List Int)):Prop:=l.Pairwise fun a b=>cO a b=true
theorem kF{k x:List Int}:∀{l:List (List Int)},x∈insI k l↔x=k∨x∈l
 |[]=>by simp[insI]
 |y::r=>by
  unfold insI
  split
  ·simp
  ·rw[List.mem_cons,kF,List.mem_cons]
   constructor
   ·rintro(h | h | h)<;>simp[h]
   ·rintro(h | h | h)<;>simp[h]
theorem mP{k:List Int}:∀{l:List (List Int)},q_ l→k∉l→q_ (insI k l)
 |[],_,_=>List.pairwise_singleton _ _
 |x::r,h,hk=>by
  have h:=List.pairwise_cons.mp h
  unfold insI
  split
  ·rename_i q
   refine List.pairwise_cons.mpr ⟨fun y hy=>?_,List.pairwise_cons.mpr h⟩
   rcases List.mem_cons.mp hy with rfl | hy
   ·exact q
   ·exact ot _ _ _ q (h.1 y hy)
  ·rename_i q
   have hx:cO x k=true:=by
    rcases kQ k x (fun z=>hk (by rw[z];exact List.mem_cons_self ..)) with z | z
    ·exact absurd z q
    ·exact z
   refine List.pairwise_cons.mpr ⟨fun y hy=>?_,mP h.2 fun z=>hk (List.mem_cons_of_mem _ z)⟩
   rcases kF.mp hy with rfl | hy
   ·exact hx
   ·exact h.1 y hy
theorem eG{x:List Int}:∀{l:List (List Int)},x∈sortI l↔x∈l
 |[]=>Iff.rfl
 |k::r=>by unfold sortI;rw[kF,eG,List.mem_cons]
theorem g7:∀{l:List (List Int)},l.Nodup→q_ (sortI l)
 |[],_=>List.Pairwise.nil
 |k::r,h=>by
  have h:=List.nodup_cons.mp h
  exact mP (g7 h.2) fun z=>h.1 (eG.mp z)
theorem qB:∀{a b:List (List Int)},q_ a→q_ b→(∀x,x∈a↔x∈b)→a=b
 |[],[],_,_,_=>rfl
 |[],y::b,_,_,h=>by have:=(h y).mpr (List.mem_cons_self ..);cases this
 |x::a,[],_,_,h=>by have:=(h x).mp (List.mem_cons_self ..);cases this
 |x::a,y::b,ha,hb,h=>by
  have ha:=List.pairwise_cons.mp ha
  have hb:=List.pairwise_cons.mp hb
  have e:x=y:=by
   rcases List.mem_cons.mp ((h x).mp (List.mem_cons_self ..)) with q | q
   ·exact q
   ·rcases List.mem_cons.mp ((h y).mpr (List.mem_cons_self ..)) with p | p
    ·exact p.symm
    ·have z1:=hb.1 x q
     have z2:=ha.1 y p
     rw[il _ _ z1] at z2
     cases z2
  subst e
  have GZ:∀k,cO k k≠true:=fun k z=>by have:=il _ _ z;rw[z] at this;cases this
  rw[qB ha.2 hb.2 fun z=>?_]
  constructor
  ·intro hz
   rcases List.mem_cons.mp ((h z).mp (List.mem_cons_of_mem _ hz)) with q | q
   ·subst q;exact absurd (ha.1 z hz) (GZ z)
   ·exact q
  ·intro hz
   rcases List.mem_cons.mp ((h z).mpr (List.mem_cons_of_mem _ hz)) with q | q
   ·subst q;exact absurd (hb.1 z hz) (GZ z)
   ·exact q
theorem sd:∀(n:Nat) (l:List Nat),l.Nodup→(∀x∈l,x<n)→l.length=n→∀k,k<n→k∈l
 |0,_,_,_,_,k,hk=>by omega
 |n+1,l,hd,hl,hn,k,hk=>by
  by_cases h:n∈l
  ·by_cases e:k=n
   ·subst e;exact h
   ·refine List.mem_of_mem_erase (sd n (l.erase n) (hd.erase n) (fun x hx=>?_) (by rw[List.length_erase_of_mem h,hn];rfl) k (by omega))
    have hx:=hd.mem_erase_iff.mp hx
    have:=hl x hx.2
    have:=hx.1
    omega
  ·cases l with
   |nil=>simp at hn
   |cons x r=>
    have hd:=List.nodup_cons.mp hd
    have lt:∀y∈x::r,y<n:=fun y hy=>by
     have:=hl y hy
     have:y≠n:=fun z=>h (by rw[←z];exact hy)
     omega
    exact absurd (sd n r hd.2 (fun y hy=>lt y (List.mem_cons_of_mem _ hy)) (by simpa using hn) x (lt x (List.mem_cons_self ..))) hd.1
theorem u3{ks:List (List Int)}{p:Array Nat}(hd:ks.Nodup)(P:PN ks.length p)(R:Ri (fun i j=>cO (ks.getD i []) (ks.getD j [])) p ks.length):(p.toList.map fun i=>ks.getD i [])=sortI ks:=by
 have hsz:p.toList.length=ks.length:=by rw[Array.length_toList];exact P.sz
 have B6:∀i (h:i<p.toList.length),p.toList[i]=at' p i:=fun i h=>by
  have h':i<p.size:=by rw[Array.length_toList] at h;exact h
  rw[c7,Array.getElem?_eq_getElem h']
  simp
 refine qB ?_ (g7 hd) fun x=>?_
 ·refine List.pairwise_iff_getElem.mpr fun i j hi hj s8=>?_
  rw[List.length_map] at hi hj
  rw[List.getElem_map,List.getElem_map,B6 i hi,B6 j hj]
  exact R i j s8 (by omega)
 ·rw[eG]
  constructor
  ·intro hx
   obtain⟨i,hi,rfl⟩:=List.mem_map.mp hx
   obtain⟨j,hj,rfl⟩:=List.mem_iff_getElem.mp hi
   have:=P.lt j (by omega)
   rw[B6 j hj,List.getD_eq_getElem?_getD,List.getElem?_eq_getElem this]
   exact List.getElem_mem this
  ·intro hx
   obtain⟨k,hk,rfl⟩:=List.mem_iff_getElem.mp hx
   have s9:k∈p.toList:=by
    have hn:p.toList.Nodup:=List.pairwise_iff_getElem.mpr fun i j hi hj s8 z=>by
     rw[B6 i hi,B6 j hj] at z
     have:=P.inj i j (by omega) (by omega) z
     omega
    exact sd ks.length p.toList hn (fun x hx=>by
     obtain⟨j,hj,rfl⟩:=List.mem_iff_getElem.mp hx
     rw[B6 j hj]
     exact P.lt j (by omega)) hsz k hk
   refine List.mem_map.mpr ⟨k,s9,?_⟩
   rw[List.getD_eq_getElem?_getD,List.getElem?_eq_getElem hk]
   rfl
end L3
namespace L3
open PySem PySem.Spec L2 SeqAt HT
open PyProof.Rows hiding St
def tupI(k:List Int):D:= .tup (k.map D.int)
def zL:D→Option (List Int)
 | .tup ds=>nums ds
 |_=>none
def gN:List D→Option (List (List Int))
 |[]=>some []
 |d::ds=>match zL d,gN ds with
  |some k,some ks=>some (k::ks)
  |_,_=>none
def fL(ks:List (List Int)):Bool:=decide ks.Nodup&&decide (ks.length<64)&&ks.all fun k=>!k.isEmpty
def b6(H:Hp):List V→List (List Int)→Prop:=Paired fun v k=>∃a,v= .ref a∧H a=some (.tup (k.map V.int))
theorem mS{K:W.Frag}{F H:Hp}(hs:Same F H):∀{ds:List D}{vs:List V}{ks:List (List Int)},gN ds=some ks→DenL K F ds vs→b6 H vs ks∧b6 F vs ks
 |[],_,_,e,h=>by cases e;cases (show _=_ from h);exact⟨.nil, .nil⟩
 |d::ds,_,_,e,⟨v,r,h1,h2,h3⟩=>by
  subst h1
  unfold gN at e
  split at e
  ·rename_i k ks e1 e2
   cases e
   obtain⟨Fv,Fw⟩:=mS hs e2 h3
   cases d with
   |tup es=>
    obtain⟨a,ws,rfl,k2,k3,_⟩:=h2
    have:=kG e1 k3
    subst this
    exact⟨.cons ⟨a,rfl,hs _ _ k2⟩ Fv, .cons ⟨a,rfl,k2⟩ Fw⟩
   |_=>cases e1
  ·cases e
theorem qx{K:W.Frag}{F:Hp}:∀{ws:List V}{ks:List (List Int)},b6 F ws ks→(∀k∈ks,k.length≤lim)→DenL K F (ks.map tupI) ws
 |_,_, .nil,_=>rfl
 |_,_, .cons (b:=k) h t,hl=>by
  obtain⟨a,rfl,h⟩:=h
  exact .cons ⟨a,_,rfl,h,DenL.ints k,by rw[List.length_map];exact hl k (List.mem_cons_self ..)⟩ (qx t fun k hk=>hl k (List.mem_cons_of_mem _ hk))
theorem nJ{X:Cx}{pins:List (Addr×Obj)}{σ:St}{H:Hp}{s:Shared}(I:Inv X pins σ H s):∀{vs:List V}{aG:List Value}{ks:List (List Int)},b6 H vs ks→Vals vs aG→(∀k∈ks,k≠[])→TupsAt s.heap aG ks
 |_,_,_, .nil,r,_=>by cases r;exact trivial
 |_,_,_, .cons (b:=k) h t,r,hn=>by
  obtain⟨a,rfl,h⟩:=h
  cases r with
  |cons r1 r2=>
   cases (show _=_ from r1)
   obtain⟨us,ru,pt,_⟩:=I.tuple (SqT.of (K:=X.K) h)
   obtain⟨o,q1,q2,m,q3⟩:=pt
   exact⟨⟨a,o,us,m,rfl,q1,q2,q3,intsAre_of ru,hn k (List.mem_cons_self ..)⟩,nJ I t r2 fun k hk=>hn k (List.mem_cons_of_mem _ hk)⟩
theorem lH{H:Hp}:∀{vs:List V}{ks:List (List Int)}{i:Nat},b6 H vs ks→i<vs.length→∃a,vs.getD i .non= .ref a∧H a=some (.tup ((ks.getD i []).map V.int))
 |_,_,i, .nil,hi=>by simp at hi
 |_,_,0, .cons h t,_=>h
 |_,_,i+1, .cons h t,hi=>lH (i:=i) t (by simpa using hi)
theorem iM{H:Hp}:∀{vs:List V}{ks:List (List Int)},b6 H vs ks→vs.length=ks.length
 |_,_, .nil=>rfl
 |_,_, .cons h t=>by rw[List.length_cons,List.length_cons,iM t]
theorem nI{H:Hp}{vs:List V}{ks:List (List Int)}(h:b6 H vs ks):∀{is:List Nat},(∀i∈is,i<vs.length)→b6 H (is.map fun i=>vs.getD i .non) (is.map fun i=>ks.getD i [])
 |[],_=> .nil
 |i::is,hi=> .cons (lH h (hi i (List.mem_cons_self ..))) (nI h fun j hj=>hi j (List.mem_cons_of_mem _ hj))
theorem jt:∀{vs:List V}{us:List Value}(i:Nat),Vals vs us→i<vs.length→RelV (vs.getD i .non) (us.getD i Value.none)
 |_,_,i, .nil,hi=>by simp at hi
 |_,_,0, .cons h t,_=>h
 |_,_,i+1, .cons h t,hi=>jt i t (by simpa using hi)
theorem nT{vs:List V}{us:List Value}(h:Vals vs us):∀{is:List Nat},(∀i∈is,i<vs.length)→Vals (is.map fun i=>vs.getD i .non) (is.map fun i=>us.getD i Value.none)
 |[],_=> .nil
 |i::is,hi=> .cons (jt i h (hi i (List.mem_cons_self ..))) (nT h fun j hj=>hi j (List.mem_cons_of_mem _ hj))
section
variable{X:Cx}{Xw:Nat→Hp→Prop}{e:Expr}{δs:DA}{pos p:Pos}
theorem nO:∀l:List (List Int),(sortI l).length=l.length
 |[]=>rfl
 |k::r=>by
  have ins:∀(k:List Int) (l:List (List Int)),(insI k l).length=l.length+1:=by
   intro k l
   induction l with
   |nil=>rfl
   |cons x l ih=>
    unfold insI
    split
    ·rfl
    ·rw[List.length_cons,ih,List.length_cons]
  unfold sortI
  rw[ins,nO r,List.length_cons]
end
def uB(k:List Int):List Key:=k.map Sum.inl
def DJ:List V→Hp→VK→Prop:=fun xs H Q=>∃p ax ks,xs=[.ref p]∧Rd H p (.dT ax)∧ax.map (·.1)=ks.map uB∧fL ks=true∧∀(q:Addr) (ws:List V),H q=none→b6 H ws (sortI ks)→Q (.ref q) (upd H q (.lst ws))
theorem m6{H:Hp}:∀{ax:List (List Key×V)}{xs:List (List Key×Addr×Value)}{ks:List (List Int)},Paired (fun (p:List Key×V) (q:List Key×Addr×Value)=>p.1=q.1∧H q.2.1=some (.tup (p.1.map kV))∧RelV p.2 q.2.2) ax xs→
 ax.map (·.1)=ks.map uB→b6 H (xs.map fun x=>V.ref x.2.1) ks
 |_,_,[], .nil,_=> .nil
 |_,_,_::_, .nil,e=>by simp at e
 |_,_,[], .cons h t,e=>by simp at e
 |_,_,k::ks, .cons h t,e=>by
  rw[List.map_cons,List.map_cons] at e
  injection e with e1 e2
  refine .cons ⟨_,rfl,?_⟩ (m6 t e2)
  have hk:(uB k).map kV=k.map V.int:=by unfold uB;rw[List.map_map];rfl
  rw[h.2.1,e1,hk]
section
variable{X:Cx}{Xw:Nat→Hp→Prop}{e:Expr}{δs:DA}{pos p:Pos}
theorem ue(hc:X.calm=true):CallR X (.builtin "sorted") DJ:=by
 intro pins s σ H xs us Q I r h
 obtain⟨a,ax,ks,rfl,hH,zH,hk,q⟩:=h
 obtain⟨u,rfl,r1⟩:=r.one
 cases (show u=_ from r1)
 obtain⟨z,lo,xs,rel,o,es,ep,g1,g2,g3,g4,g5⟩:=(show ObjOk X.prog X.w H s.heap a (.dT ax) from hH.ok I.hok)
 unfold fL at hk
 rw[Bool.and_eq_true,Bool.and_eq_true] at hk
 have hd:ks.Nodup:=of_decide_eq_true hk.1.1
 have D7:ks.length<64:=of_decide_eq_true hk.1.2
 have l7:∀k∈ks,k≠[]:=fun k B8 z=>by have:=List.all_eq_true.mp hk.2 k B8;rw[z] at this;cases this
 have hr:=m6 rel zH
 have zI:=iM hr
 rw[List.length_map] at zI
 have GC:es.size=xs.length:=by rw[←Array.length_toList,g4,List.length_map]
 have AI:sizeLine=16777216:=sizeLine_eq
 refine Calls.call_function_entry kind_sorted plain_sorted entry_sorted (args_sorted1 _) ?_
 unfold Builtin.«sorted»
 refine wpAny_bind (m:=checkCount "sorted" 1 1 _) (wpAny_pure (wpAny_bind (PySem.W.kdu_collect (A:=X.A.in1) (xj lo g2 g3) (I.ok.hd hc) g1 (by rw[GC,AI];omega) fun h1 tk acc C9 vR=>?_)))
 have CG:acc.toList.length=xs.length:=by rw[Array.length_toList,←GC];exact vR.1
 have I1:Inv X pins σ H {s with heap:=h1,toks:=tk}:=I.kept (t':=tk) fun b ob e=>C9 b ob e
 have rv:Vals (xs.map fun x=>V.ref x.2.1) acc.toList:=by
  have ext:∀{vs:List V}{us:List Value},vs.length=us.length→(∀(i:Nat) (v:V) (u:Value),vs[i]? =some v→us[i]? =some u→RelV v u)→Vals vs us:=by
   intro vs
   induction vs with
   |nil=>intro us h _;cases us with | nil=>exact .nil | cons _ _=>simp at h
   |cons v vs ih=>
    intro us h hh
    cases us with
    |nil=>simp at h
    |cons u us=>exact .cons (hh 0 v u rfl rfl) (ih (by simpa using h) fun i v u h1 h2=>hh (i+1) v u h1 h2)
  refine ext (by rw[List.length_map,CG]) fun i v u e1 e2=>?_
  rw[Array.getElem?_toList] at e2
  obtain⟨en,q1,q2⟩:=vR.2 i u e2
  rw[←Array.getElem?_toList,g4,List.getElem?_map] at q1
  rw[List.getElem?_map] at e1
  cases w:xs[i]? with
  |none=>rw[w] at e1;cases e1
  |some x=>
   rw[w] at e1 q1
   cases e1
   cases q1
   exact q2
 have ht:=nJ I1 hr rv l7
 refine wpAny_bind (wpAny_newList ?_ (by rw[AI];omega))
 have Ec:(h1.push (seqObj "list" acc.toList.toArray 0)).get? h1.objs.size=some (seqObj "list" acc.toList.toArray 0):=Heap.get?_push_size _ rfl
 refine wpAny_bind (wpAny_holding (wpAny_call_entry slot_list_sort ⟨_,Ec,rfl⟩ entry_list_sort (u0 (s:={s with heap:=h1.push (seqObj "list" acc.toList.toArray 0),toks:=tk}) Ec
  (ht.keep (a:=h1.objs.size) (fun b o _ e=>Heap.get?_push_of_some _ e) (fun o e=>absurd (Heap.lt_size e) (Nat.lt_irrefl _))) hd (by omega) fun P h' c' hP hR As CQ=>?_) (args_list_sort _)))
 have CD:∀i∈P.toList,i<(xs.map fun x=>V.ref x.2.1).length:=fun i hi=>by
  obtain⟨j,hj,rfl⟩:=List.mem_iff_getElem.mp hi
  have h':j<P.size:=by rw[Array.length_toList] at hj;exact hj
  have:=hP.lt j (by rw[hP.sz] at h';exact h')
  rw[c7,Array.getElem?_eq_getElem h'] at this
  have e:P.toList[j]=P[j]:=by simp
  rw[e,List.length_map]
  have:P[j]<acc.toList.length:=this
  omega
 have HB:PN ks.length P:=by rw[←zI,←CG];exact hP
 have HE:Ri (fun i j=>cO (ks.getD i []) (ks.getD j [])) P ks.length:=by rw[←zI,←CG];exact hR
 have Iw:=u3 hd HB HE
 have GW:=nI hr CD
 rw[Iw] at GW
 refine⟨_,rfl,wpAny_pure ⟨_,rfl,⟨.ref h1.objs.size,_,I1.laid (a:=h1.objs.size) (t':=tk) (o:= .lst (P.toList.map fun i=>(xs.map fun x=>V.ref x.2.1).getD i .non)) (fun b ob e=>CQ b ob (Nat.ne_of_lt (Heap.lt_size e)) (Heap.get?_push_of_some _ e)) (Nat.le_refl _) ?_,rfl,q _ _ (I1.hok.fresh (Nat.le_refl _)) GW⟩⟩⟩
 exact⟨by rw[List.length_map,Array.length_toList,hP.sz,AI];omega,_,c',nT rv CD,As⟩
theorem nH{F F':Hp}(e:Same F F'):∀{ws:List V}{ks:List (List Int)},b6 F ws ks→b6 F' ws ks
 |_,_, .nil=> .nil
 |_,_, .cons ⟨b,q1,q2⟩ t=> .cons ⟨b,q1,e _ _ q2⟩ (nH e t)
theorem qy{F H:Hp}(hs:Same F H):∀{ws:List V}{ks:List (List Int)},b6 H ws ks→∃F',Ext F H F' H∧b6 F' ws ks
 |_,_, .nil=>⟨F,Ext.refl hs, .nil⟩
 |_,_, .cons h t=>by
  obtain⟨a,rfl,h⟩:=h
  obtain⟨F1,e1,r1⟩:=qy hs t
  have e2:=Ext.tup (F:=F1) e1.fh h
  refine⟨_,e1.trans e2, .cons ⟨a,rfl,aE⟩ ?_⟩
  exact nH e2.ff r1
def mQ:List Key→Option (List Int)
 |[]=>some []
 | .inl i::r=>(mQ r).map (i:: ·)
 |_=>none
def gM:List (List Key)→Option (List (List Int))
 |[]=>some []
 |k::r=>match mQ k,gM r with
  |some x,some xs=>some (x::xs)
  |_,_=>none
theorem pW:∀{k:List Key}{x:List Int},mQ k=some x→k=uB x
 |[],_,e=>by cases e;rfl
 | .inl i::r,_,e=>by
   unfold mQ at e
   cases q:mQ r with
   |none=>rw[q] at e;cases e
   |some y=>rw[q] at e;cases e;rw[pW q];rfl
 | .inr _::r,_,e=>by cases e
theorem mR:∀{kk:List (List Key)}{ks:List (List Int)},gM kk=some ks→kk=ks.map uB
 |[],_,e=>by cases e;rfl
 |k::r,_,e=>by
  unfold gM at e
  split at e
  ·rename_i x xs e1 e2
   cases e
   rw[List.map_cons,←pW e1,←mR e2]
  ·cases e
def jU:List D→M D
 |[.dct kk ds]=>match gM kk with
  |some ks=>if fL ks&&ks.all (fun k=>decide (k.length≤lim)) then M.ret (.lst ((sortI ks).map tupI)) else M.stuck
  |none=>M.stuck
 |_=>M.stuck
theorem kf{α β:Type}:∀{a:List α}{b:List β},a.length=b.length→(a.zip b).map (·.1)=a
 |[],[],_=>rfl
 |x::a,y::b,h=>by rw[List.zip_cons_cons,List.map_cons,kf (by simpa using h)]
 |[],_::_,h=>by simp at h
 |_::_,[],h=>by simp at h
theorem yF(hc:X.calm=true)(hg:Gl X "sorted")(hm:X.mg "sorted"=none)(hb:bootBuiltins "sorted"=some (.builtin "sorted"))(ha:mr X Xw [e] δs)(he:starEach [e] X.env=[(false,eval e X.env)]:=by rfl):PD X Xw (.Call (.Name "sorted" p) [e] [] pos) (dA jU δs):=
 dH (ue hc) (fun Xw F H vs ds Q s h w=>by
  unfold jU at w
  split at w
  ·rename_i kk ds
   obtain⟨v,rfl,h1⟩:=h.one
   obtain⟨a,ob,ws,rfl,h2,h3,h4,h5⟩:=h1
   split at w
   ·rename_i ks B9
    split at w
    ·rename_i hok
     rw[Bool.and_eq_true] at hok
     have hl:∀k∈ks,k.length≤lim:=fun k hk=>of_decide_eq_true (List.all_eq_true.mp hok.2 k hk)
     have D7:ks.length<64:=by
      have:=hok.1
      unfold fL at this
      rw[Bool.and_eq_true,Bool.and_eq_true] at this
      exact of_decide_eq_true this.1.2
     refine⟨a,_,ks,rfl, .inr ⟨ob,s _ _ h2⟩,by rw[kf (by rw[h4];exact h3.len),mR B9],hok.1,fun q us hq hr=>?_⟩
     obtain⟨F1,e1,r1⟩:=qy s hr
     have e2:=Ext.lay (o:= .lst us) e1.fh hq
     exact WP.fin w (e1.trans e2) ⟨q,_,rfl,aE,DenL.mono e2.ff (qx r1 fun k hk=>hl k (eG.mp hk)),by rw[List.length_map,nO];unfold lim;omega⟩
    ·exact w.elim
   ·exact w.elim
  ·exact w.elim) hg hm hb ha (by decide) (by decide) he rfl
end
end L3
namespace L3
open PySem PySem.Spec L2
open PyProof.Rows hiding St
def orM{α:Type}(a b:M α):M α:=match a with
 |none=>b
 |some r=>some r
def AK(a b:DA):DA:=fun ρ=>orM (a ρ) (b ρ)
section
variable{X:Cx}{Xw:Nat→Hp→Prop}{e tg:Expr}{es:List Expr}{δ δ':DE}{δi δi' δs:DA}{τ:DT}
theorem yI(h:t5 X Xw tg e δi)(h':t5 X Xw tg e δi'):t5 X Xw tg e (AK δi δi'):=fun pins s σ H Q I ⟨F,ρ,S,w⟩=>by
 unfold AK orM at w
 cases q:δi ρ with
 |none=>rw[q] at w;exact h' pins s σ H Q I ⟨F,ρ,S,w⟩
 |some r=>rw[q] at w;exact h pins s σ H Q I ⟨F,ρ,S,by rw[q];exact w⟩
theorem ji{st:Stmt}:j3 X Xw st (fun _=>M.stuck):=fun F₀ H₀ pins s σ H D I ⟨F,ρ,S,w⟩=>w.elim
end
def fgt:List Nat→aW→aW
 |[],ρ=>ρ
 |i::is,ρ=>fgt is (ρ.set i none)
def Dm(f:aW→aW):Out→M Out
 | .nx ρ=>M.ret (.nx (f ρ))
 | .rt d=>M.ret (.rt d)
def c9(is:List Nat)(τ:DS):DS:=fun ρ=>τ ρ>>=Dm (fgt is)
theorem StOk.fgt1{K:W.Frag}{F₀ H₀ F H:Hp}{σ:St}{ρ:aW}(s:StOk K F₀ H₀ F H σ ρ)(i:Nat):StOk K F₀ H₀ F H σ (ρ.set i none):=by
 have get:∀(j:Nat) (sl:Sl),(ρ.set i none)[j]? =some (some sl)→ρ[j]? =some (some sl):=fun j sl e=>by
  by_cases hj:j=i
  ·subst hj
   by_cases hl:j<ρ.length
   ·rw[List.getElem?_set_self hl] at e;cases e
   ·rw[List.getElem?_eq_none (by simpa using hl)] at e;cases e
  ·rw[List.getElem?_set_ne (Ne.symm hj)] at e;exact e
 exact⟨s.ext,⟨s.st.fh,fun j sl e=>s.st.den j sl (get j sl e)⟩,by simp[s.len],fun j c a e e'=>s.own j c a (get j _ e) e',fun j k c c' a e1 e2 e3 e4=>s.sep j k c c' a (get j _ e1) (get k _ e2) e3 e4⟩
theorem StOk.fgt{K:W.Frag}{F₀ H₀ F H:Hp}{σ:St}:∀(is:List Nat) {ρ:aW},StOk K F₀ H₀ F H σ ρ→StOk K F₀ H₀ F H σ (L3.fgt is ρ)
 |[],_,s=>s
 |i::is,_,s=>StOk.fgt is (s.fgt1 i)
theorem WPS.fgt{K:W.Frag}{Xw:Nat→Hp→Prop}{F₀ H₀:Hp}{is:List Nat}{m:M Out}{Dn:Ends}(w:WPS K Xw F₀ H₀ (m>>=Dm (L3.fgt is)) Dn):WPS K Xw F₀ H₀ m Dn:=by
 match m,w with
 |none,w=>exact w
 |some (.ok (.nx ρ)),w=>exact fun σ F H s=>w σ F H (s.fgt is)
 |some (.ok (.rt d)),w=>exact w
 |some (.ex n),w=>exact w
section
variable{X:Cx}{Xw:Nat→Hp→Prop}{st:Stmt}{Ha:List Stmt}{τ:DS}{is:List Nat}
theorem cH(h:PSDs X Xw Ha τ):PSDs X Xw Ha (c9 is τ):=fun F₀ H₀=>PSs.weak (h F₀ H₀) fun D σ H ⟨F,ρ,s,w⟩=>⟨F,ρ,s,WPS.fgt w⟩
end
def Hw:Option Sl→Option Sl
 |some (.ow c)=>some (.fz c.d)
 |x=>x
def sY(ρ:aW):aW:=ρ.map Hw
def refA(h:Heap)(P:Addr→Prop)[DecidablePred P](H:Hp):Hp:=fun b=>if P b then(H b).map (j1 ((h.get? b).getD {cls:= .none,data:= .fields #[]})) else H b
theorem rq(ob:Obj)(o:HO):j1 ob o=o∨((∃k,o= .dT k)∨∃k,o= .dK k)∧j1 ob o= .frz ob o:=by
 cases o<;>first | exact .inl rfl | exact .inr ⟨.inl ⟨_,rfl⟩,rfl⟩ | exact .inr ⟨.inr ⟨_,rfl⟩,rfl⟩
section
variable{X:Cx}{pins:List (Addr×Obj)}{σ:St}{H:Hp}{s:Shared}{P:Addr→Prop}[DecidablePred P]
theorem eE{h:Heap}{b:Addr}(e:H b=none):refA h P H b=none:=by
 unfold refA;split
 ·rw[e];rfl
 ·exact e
theorem nG{h:Heap}{b:Addr}{o:HO}(e:H b=some o):refA h P H b=some o∨((∃k,o= .dT k)∨∃k,o= .dK k)∧P b∧refA h P H b=some (.frz ((h.get? b).getD {cls:= .none,data:= .fields #[]}) o):=by
 unfold refA;split
 ·rename_i hp
  rw[e]
  rcases rq ((h.get? b).getD {cls:= .none,data:= .fields #[]}) o with q | ⟨q1,q2⟩
  ·exact .inl (by show some _=_;rw[q])
  ·exact .inr ⟨q1,hp,by show some _=_;rw[q2]⟩
 ·exact .inl e
theorem eD{h:Heap}{b:Addr}{o:HO}(e:H b=some o)(n1:∀k,o≠ .dT k)(n2:∀k,o≠ .dK k):refA h P H b=some o:=by
 rcases nG (P:=P) (h:=h) e with q | ⟨⟨k,q⟩ | ⟨k,q⟩,_⟩
 ·exact q
 ·exact absurd q (n1 k)
 ·exact absurd q (n2 k)
theorem Inv.refA(I:Inv X pins σ H s):Inv X pins σ (L3.refA s.heap P H) s:=by
 have obj:∀b o,H b=some o→((∃k,o=HO.dT k)∨∃k,o= .dK k)→∃ob,s.heap.get? b=some ob:=fun b o e hu=>by
  have hk:=I.hok b o e
  rcases hu with⟨k,h1⟩ | ⟨k,h1⟩
  ·subst h1;obtain⟨_,_,_,_,ob,_,_,q,_⟩:=hk;exact⟨ob,q⟩
  ·subst h1;obtain⟨_,_,_,_,ob,_,_,q,_⟩:=hk;exact⟨ob,q⟩
 refine⟨I.ok,I.os,I.bare,⟨I.base.keep,I.base.slot,fun b q h1 h2 h3=>eE (I.base.free b q h1 h2 h3),I.base.there,fun b xs q=>eD (I.base.tups b xs q) (fun _ z=>nomatch z) (fun _ z=>nomatch z),
  fun b q1 v q=>eD (I.base.frzs b q1 v q) (fun _ z=>nomatch z) (fun _ z=>nomatch z),fun b ps q=>?_⟩,I.loc,I.cell,eE I.free,fun x c q=>eE (I.freeC x c q),fun p hp=>?_,fun b v q=>?_,I.len⟩
 ·obtain⟨m,this⟩:=I.base.tbls b ps q
  exact⟨m,eD this (fun _ z=>nomatch z) (fun _ z=>nomatch z)⟩
 ·obtain⟨h1,h2,h3⟩:=I.pin p hp
  exact⟨h1,eE h2,h3⟩
 ·have st:∀{c:Addr}{v:HO},ObjOk X.prog X.w H s.heap c v→ObjOk X.prog X.w (L3.refA s.heap P H) s.heap c v:=fun {c v} k=>k.stay (fun _ _ _ q=>q)
   (fun c' q=>eD q (fun _ z=>nomatch z) (fun _ z=>nomatch z)) fun c' xs q=>eD q (fun _ z=>nomatch z) (fun _ z=>nomatch z)
  cases e:H b with
  |none=>rw[eE e] at q;cases q
  |some o=>
   rcases nG (P:=P) (h:=s.heap) e with z | ⟨hu,hp,z⟩
   ·rw[z] at q;cases q;exact st (I.hok b _ e)
   ·rw[z] at q
    cases q
    obtain⟨ob,C0⟩:=obj b o e hu
    rw[C0]
    exact⟨C0,st (I.hok b o e)⟩
def unA(P:Addr→Prop)[DecidablePred P](H:Hp):Hp:=fun b=>if P b then(match H b with | some (.frz _ u)=>some u | x=>x) else H b
theorem Inv.unA(I:Inv X pins σ H s)(hP:∀b,P b→∀o u,X.H₀ b≠some (.frz o u))(hQ:∀b,P b→∀o u,H b=some (.frz o u)→(∃k,u= .dT k)∨∃k,u= .dK k):Inv X pins σ (L3.unA P H) s:=by
 have non:∀b,H b=none→L3.unA P H b=none:=fun b e=>by unfold L3.unA;rw[e];split<;>rfl
 have keep:∀b o,H b=some o→(∀q u,o≠ .frz q u)→L3.unA P H b=some o:=fun b o e n=>by
  unfold L3.unA;split
  ·rw[e];cases o<;>first | rfl | exact absurd rfl (n _ _)
  ·exact e
 refine⟨I.ok,I.os,I.bare,⟨I.base.keep,I.base.slot,fun b q h1 h2 h3=>non b (I.base.free b q h1 h2 h3),I.base.there,fun b xs q=>keep b _ (I.base.tups b xs q) (fun _ _ z=>nomatch z),
  fun b q1 v q=>?_,fun b ps q=>?_⟩,I.loc,I.cell,non _ I.free,fun x c q=>non _ (I.freeC x c q),fun p hp=>?_,fun b v q=>?_,I.len⟩
 ·have:=I.base.frzs b q1 v q
  unfold L3.unA
  rw[if_neg (fun hp=>hP b hp q1 v q)]
  exact this
 ·obtain⟨m,this⟩:=I.base.tbls b ps q
  exact⟨m,keep b _ this (fun _ _ z=>nomatch z)⟩
 ·obtain⟨h1,h2,h3⟩:=I.pin p hp
  exact⟨h1,non _ h2,h3⟩
 ·have st:∀{c:Addr}{v:HO},ObjOk X.prog X.w H s.heap c v→ObjOk X.prog X.w (L3.unA P H) s.heap c v:=fun {c v} k=>k.stay (fun _ _ _ q=>q)
   (fun c' q=>keep c' _ q (fun _ _ z=>nomatch z)) fun c' xs q=>keep c' _ q (fun _ _ z=>nomatch z)
  cases e:H b with
  |none=>rw[non b e] at q;cases q
  |some o=>
   have ko:=I.hok b o e
   by_cases hf:∃ob u,o= .frz ob u
   ·obtain⟨ob,u,rfl⟩:=hf
    unfold L3.unA at q
    split at q
    ·rw[e] at q
     cases q
     obtain⟨_,k2⟩:=ko
     exact st k2
    ·rw[e] at q;cases q;exact st ko
   ·rw[keep b o e (fun q u z=>hf ⟨q,u,z⟩)] at q
    cases q
    exact st ko
end
mutual
def pL:D→Bool
 | .non=>true
 | .bl _=>true
 | .int _=>true
 | .str _=>true
 | .tup ds=>sX ds
 | .raw _=>false
 | .exc _=>false
 | .scr _=>false
 | .lst _=>false
 | .dct _ _=>false
 | .dci _ _=>false
def sX:List D→Bool
 |[]=>true
 |d::ds=>pL d&&sX ds
end
def kA(d:D):M D:=if pL d then M.ret d else M.stuck
def OwnAt(σ:St)(ρ:aW)(b:Addr):Prop:=∃(i:Nat) (c:C),ρ[i]? =some (some (Sl.ow c))∧σ[i]? =some (some (V.ref b))
section
variable{K:W.Frag}{F H F' H':Hp}{σ:St}{ρ:aW}{h:Heap}{b:Addr}
theorem OwnAt.obj(S:StE K F H σ ρ)(p:OwnAt σ ρ b):F b=none∧∃o,H b=some o∧((∃x,o= .lst x)∨(∃x,o= .dT x)∨∃x,o= .dK x):=by
 obtain⟨i,c,h1,h2⟩:=p
 obtain⟨v,h3,a,o,rfl,h4,h5,h6⟩:=S.den i _ h1
 rw[h3] at h2
 cases h2
 refine⟨h5,o,h4,?_⟩
 cases c with
 |lst ds=>obtain⟨vs,rfl,_⟩:=h6;exact .inl ⟨_,rfl⟩
 |dct ks ds=>obtain⟨vs,rfl,_⟩:=h6;exact .inr (.inl ⟨_,rfl⟩)
 |dci ks ds=>obtain⟨vs,rfl,_⟩:=h6;exact .inr (.inr ⟨_,rfl⟩)
open Classical in
noncomputable def fA(σ:St)(ρ:aW)(H1 F:Hp):Hp:=fun b=>if OwnAt σ ρ b then H1 b else F b
open Classical in
theorem sW(S:StE K F H σ ρ){H1:Hp}:Same F (fA σ ρ H1 F):=fun b u e=>by
 unfold fA
 rw[if_neg (fun p=>by rw[(OwnAt.obj S p).1] at e;cases e)]
 exact e
open Classical in
theorem vM(S:StE K F H σ ρ):StE K (fA σ ρ (refA h (OwnAt σ ρ) H) F) (refA h (OwnAt σ ρ) H) σ (sY ρ):=by
 refine⟨fun b u e=>?_,fun j sl e=>?_⟩
 ·unfold fA at e
  split at e
  ·exact e
  ·rename_i hp
   unfold refA
   rw[if_neg hp]
   exact S.fh b u e
 ·unfold sY at e
  rw[List.getElem?_map] at e
  cases q:ρ[j]? with
  |none=>rw[q] at e;cases e
  |some x=>
   rw[q] at e
   cases x with
   |none=>cases e
   |some y=>
    cases y with
    |fz d=>
     cases e
     obtain⟨v,h1,h2⟩:=S.den j _ q
     exact⟨v,h1,Den.mono (sW S) h2⟩
    |ow c=>
     cases e
     obtain⟨v,h1,a,o,rfl,h4,h5,h6⟩:=S.den j _ q
     refine⟨_,h1,DenC.den (ob:=(h.get? a).getD {cls:= .none,data:= .fields #[]}) h6 (sW S) ?_⟩
     have hp:OwnAt σ ρ a:=⟨j,c,q,h1⟩
     unfold fA refA
     rw[if_pos hp,if_pos hp,h4]
     rfl
open Classical in
theorem pQ(S:StE K F H σ ρ)(E:Ext (fA σ ρ (refA h (OwnAt σ ρ) H) F) (refA h (OwnAt σ ρ) H) F' H'):
 Ext F H (fun b=>if OwnAt σ ρ b then none else F' b) (unA (OwnAt σ ρ) H')∧∀b,OwnAt σ ρ b→∀o u,H' b=some (.frz o u)→(∃k,u= .dT k)∨∃k,u= .dK k:=by
 have Gg:∀b,OwnAt σ ρ b→∃o,H b=some o∧H' b=some (j1 ((h.get? b).getD {cls:= .none,data:= .fields #[]}) o)∧((∃x,o= .lst x)∨(∃x,o= .dT x)∨∃x,o= .dK x):=fun b hp=>by
  obtain⟨_,o,h1,h2⟩:=OwnAt.obj S hp
  refine⟨o,h1,E.hh b _ ?_,h2⟩
  unfold refA
  rw[if_pos hp,h1]
  rfl
 refine⟨⟨fun b o e=>?_,fun b u e=>?_,fun b u e=>?_,fun b hb=>?_⟩,fun b hp o u e=>?_⟩
 ·unfold unA
  by_cases hp:OwnAt σ ρ b
  ·obtain⟨o',h1,h2,h3⟩:=Gg b hp
   rw[e] at h1
   cases h1
   rw[if_pos hp,h2]
   rcases h3 with⟨x,rfl⟩ | ⟨x,rfl⟩ | ⟨x,rfl⟩<;>rfl
  ·rw[if_neg hp]
   refine E.hh b o ?_
   unfold refA
   rw[if_neg hp]
   exact e
 ·have hp:¬OwnAt σ ρ b:=fun p=>by rw[(OwnAt.obj S p).1] at e;cases e
  show (if OwnAt σ ρ b then none else F' b)=_
  rw[if_neg hp]
  refine E.ff b u ?_
  unfold fA
  rw[if_neg hp]
  exact e
 ·have e:(if OwnAt σ ρ b then none else F' b)=some u:=e
  split at e
  ·cases e
  ·rename_i hp
   unfold unA
   rw[if_neg hp]
   exact E.fh b u e
 ·show (if OwnAt σ ρ b then none else F' b)=F b∨_
  by_cases hp:OwnAt σ ρ b
  ·rw[if_pos hp]
   exact .inl (OwnAt.obj S hp).1.symm
  ·rw[if_neg hp]
   have e1:refA h (OwnAt σ ρ) H b=H b:=by unfold refA;rw[if_neg hp]
   have e2:fA σ ρ (refA h (OwnAt σ ρ) H) F b=F b:=by unfold fA;rw[if_neg hp]
   rcases E.new b (by rw[e1];exact hb) with q | q
   ·exact .inl (q.trans e2)
   ·rw[e1] at q;exact .inr q
 ·obtain⟨o',h1,h2,h3⟩:=Gg b hp
  rw[e] at h2
  rcases h3 with⟨x,rfl⟩ | ⟨x,rfl⟩ | ⟨x,rfl⟩
  ·cases h2
  ·cases h2;exact .inl ⟨_,rfl⟩
  ·cases h2;exact .inr ⟨_,rfl⟩
open Classical in
mutual
theorem pN(S:StE K F H σ ρ)(E:Ext (fA σ ρ (refA h (OwnAt σ ρ) H) F) (refA h (OwnAt σ ρ) H) F' H'):∀{d:D}{v:V},pL d=true→Den K F' d v→Den K (fun b=>if OwnAt σ ρ b then none else F' b) d v
 | .non,_,_,q=>q
 | .bl _,_,_,q=>q
 | .int _,_,_,q=>q
 | .str _,_,_,q=>q
 | .tup ds,_,f,⟨a,vs,h1,h2,h3,h4⟩=>by
   refine⟨a,vs,h1,?_,mI S E ?_ h3,h4⟩
   ·show (if OwnAt σ ρ a then none else F' a)=_
    rw[if_neg,h2]
    intro hp
    obtain⟨_,o,k1,k2⟩:=OwnAt.obj S hp
    have k3:fA σ ρ (refA h (OwnAt σ ρ) H) F a=some (j1 ((h.get? a).getD {cls:= .none,data:= .fields #[]}) o):=by
     unfold fA refA
     rw[if_pos hp,if_pos hp,k1]
     rfl
    have k4:=E.ff a _ k3
    rw[h2] at k4
    rcases k2 with⟨x,rfl⟩ | ⟨x,rfl⟩ | ⟨x,rfl⟩<;>cases k4
   ·exact f
 | .raw _,_,f,_=>by cases f
 | .exc _,_,f,_=>by cases f
 | .scr _,_,f,_=>by cases f
 | .lst _,_,f,_=>by cases f
 | .dct _ _,_,f,_=>by cases f
 | .dci _ _,_,f,_=>by cases f
theorem mI(S:StE K F H σ ρ)(E:Ext (fA σ ρ (refA h (OwnAt σ ρ) H) F) (refA h (OwnAt σ ρ) H) F' H'):∀{ds:List D}{vs:List V},sX ds=true→DenL K F' ds vs→DenL K (fun b=>if OwnAt σ ρ b then none else F' b) ds vs
 |[],_,_,q=>q
 |d::ds,_,f,⟨v,r,h1,h2,h3⟩=>by
  unfold sX at f
  rw[Bool.and_eq_true] at f
  exact⟨v,r,h1,pN S E f.1 h2,mI S E f.2 h3⟩
end
end
section
variable{X:Cx}{Xw:Nat→Hp→Prop}{e:Expr}{δ:DE}{τ:DT}
theorem ny{pins:List (Addr×Obj)}{s:Shared}{F H:Hp}{σ:St}{ρ:aW}(I:Inv X pins σ H s)(S:StE X.K F H σ ρ)(b:Addr)(p:OwnAt σ ρ b)(o:Obj)(u:HO):X.H₀ b≠some (.frz o u):=fun z=>by
 obtain⟨_,o',k1,k2⟩:=OwnAt.obj S p
 have:=I.base.frzs b o u z
 rw[k1] at this
 rcases k2 with⟨x,rfl⟩ | ⟨x,rfl⟩ | ⟨x,rfl⟩<;>cases this
theorem kY{α:Type}(m:M α):noex m=M.stuck∨∃a,m=M.ret a∧noex m=M.ret a:=by
 rcases m.cs with h | ⟨n,h⟩ | ⟨a,h⟩
 ·subst h;exact .inl rfl
 ·subst h;exact .inl rfl
 ·subst h;exact .inr ⟨a,rfl,rfl⟩
theorem wH(h:lZ X Xw e τ):lZ X Xw e (fun ρ=>noex (τ (sY ρ))):=fun pins s σ H Q I ⟨F,ρ,S,w⟩=>by
 classical
 rcases kY (τ (sY ρ)) with q | ⟨b,q,q2⟩
 ·have w:WPB Xw F H (noex (τ (sY ρ))) Q:=w
  rw[q] at w
  exact w.elim
 ·have w:WPB Xw F H (noex (τ (sY ρ))) Q:=w
  rw[q2] at w
  refine bB (h pins s σ _ (fun b' H'=>Q b' (unA (OwnAt σ ρ) H')∧∀c,OwnAt σ ρ c→∀o u,H' c=some (.frz o u)→(∃k,u= .dT k)∨∃k,u= .dK k) (Inv.refA (P:=OwnAt σ ρ) I) ⟨_,_,vM (h:=s.heap) S,?_⟩) fun b' s' ⟨H',I',q1,q3⟩=>⟨_,Inv.unA I' (ny I S) q3,q1⟩
  rw[q]
  intro H' F' E
  obtain⟨E1,q3⟩:=pQ S E
  exact⟨w _ _ E1,q3⟩
theorem Dr(h:PD X Xw e δ):PD X Xw e (fun ρ=>noex (δ (sY ρ))>>=kA):=fun pins s σ H Q I ⟨F,ρ,S,w⟩=>by
 classical
 rcases kY (δ (sY ρ)) with q | ⟨d,q,q2⟩
 ·have w:WP X.K Xw F H (noex (δ (sY ρ))>>=kA) Q:=w
  rw[q] at w
  exact w.elim
 ·have w:WP X.K Xw F H (noex (δ (sY ρ))>>=kA) Q:=w
  rw[q2,ar] at w
  unfold kA at w
  split at w
  ·rename_i hf
   refine bB (h pins s σ _ (fun v H'=>Q v (unA (OwnAt σ ρ) H')∧∀c,OwnAt σ ρ c→∀o u,H' c=some (.frz o u)→(∃k,u= .dT k)∨∃k,u= .dK k) (Inv.refA (P:=OwnAt σ ρ) I) ⟨_,_,vM (h:=s.heap) S,?_⟩) fun b' s' ⟨v,H',I',rv,q1,q3⟩=>⟨v,_,Inv.unA I' (ny I S) q3,rv,q1⟩
   rw[q]
   intro v H' F' E dn
   obtain⟨E1,q3⟩:=pQ S E
   exact⟨w _ _ _ E1 (pN S E hf dn),q3⟩
  ·exact w.elim
end
abbrev DF:=aW→M C
def WPF(K:W.Frag)(Xw:Nat→Hp→Prop)(F H:Hp)(m:M C)(Q:VK):Prop:=
 match m with
 |none=>False
 |some (.ok c)=>∀a o H' F',Ext F H F' H'→H' a=some o→F' a=none→H a=none→DenC K F' c o→Q (.ref a) H'
 |some (.ex n)=>∀F' H',Ext F H F' H'→Xw n H'
def IM(K:W.Frag)(Xw:Nat→Hp→Prop)(δ:DF):TE:=fun σ H Q=>∃F ρ,StE K F H σ ρ∧WPF K Xw F H (δ ρ) Q
def Ex(X:Cx)(Xw:Nat→Hp→Prop)(e:Expr)(δ:DF):Prop:=PE X e (IM X.K Xw δ)
def qD(i:Nat)(δ:DF):DS:=fun ρ=>δ ρ>>=fun c=>M.ret (.nx (ρ.set i (some (.ow c))))
theorem StOk.setFresh{K:W.Frag}{F₀ H₀ F H F' H':Hp}{σ:St}{ρ:aW}(s:StOk K F₀ H₀ F H σ ρ){i:Nat}{a:Addr}{o:HO}{c₀:C}(E:Ext F H F' H')(ho:H' a=some o)(nF:F' a=none)(n:H a=none)(h:DenC K F' c₀ o):
 StOk K F₀ H₀ F' H' (σ.set i (some (.ref a))) (ρ.set i (some (.ow c₀))):=by
 have hle:=s.len
 have get:∀(j:Nat) (sl:Sl),(ρ.set i (some (.ow c₀)))[j]? =some (some sl)→(j=i∧i<ρ.length∧sl= .ow c₀)∨(j≠i∧ρ[j]? =some (some sl)):=fun j sl e=>by
  by_cases hj:j=i
  ·subst hj
   have hi:j<ρ.length:=by
    have:=(List.getElem?_eq_some_iff.mp e).1
    simpa using this
   rw[List.getElem?_set_self hi] at e
   cases e
   exact .inl ⟨rfl,hi,rfl⟩
  ·rw[List.getElem?_set_ne (Ne.symm hj)] at e
   exact .inr ⟨hj,e⟩
 have old:∀(j:Nat) (c:C) (b:Addr),ρ[j]? =some (some (.ow c))→σ[j]? =some (some (.ref b))→b≠a:=fun j c b e e' z=>by
  obtain⟨u,h1,b',o,h2,h3,_⟩:=s.st.den j _ e
  rw[h1] at e'
  cases e'
  cases h2
  rw[z,n] at h3
  cases h3
 refine⟨s.ext.trans E,⟨E.fh,fun j sl e=>?_⟩,by simp[hle],fun j c b e e'=>?_,fun j k c c' b e1 e2 e3 e4=>?_⟩
 ·rcases get j sl e with⟨rfl,hi,rfl⟩ | ⟨hj,e⟩
  ·exact⟨.ref a,by rw[List.getElem?_set_self (by omega)],a,_,rfl,ho,nF,h⟩
  ·obtain⟨u,h1,h2⟩:=s.st.den j sl e
   exact⟨u,by rw[List.getElem?_set_ne (Ne.symm hj)];exact h1,h2.ext E⟩
 ·rcases get j _ e with⟨rfl,hi,_⟩ | ⟨hj,e⟩
  ·rw[List.getElem?_set_self (by omega)] at e'
   cases e'
   exact Same.free s.ext.hh n
  ·rw[List.getElem?_set_ne (Ne.symm hj)] at e'
   exact s.own j c b e e'
 ·rcases get j _ e1 with⟨rfl,hi,_⟩ | ⟨hj,e1⟩
  ·rw[List.getElem?_set_self (by omega)] at e3
   cases e3
   rcases get k _ e2 with⟨rfl,_,_⟩ | ⟨hk,e2⟩
   ·rfl
   ·rw[List.getElem?_set_ne (Ne.symm hk)] at e4
    exact absurd rfl (old k c' a e2 e4)
  ·rcases get k _ e2 with⟨E4,hi,_⟩ | ⟨hk,e2⟩
   ·rw[E4,List.getElem?_set_self (by omega)] at e4
    cases e4
    rw[List.getElem?_set_ne (Ne.symm hj)] at e3
    exact absurd rfl (old j c a (by assumption) e3)
   ·rw[List.getElem?_set_ne (Ne.symm hj)] at e3
    rw[List.getElem?_set_ne (Ne.symm hk)] at e4
    exact s.sep j k c c' b e1 e2 e3 e4
theorem WPF.mono{K:W.Frag}{Xw:Nat→Hp→Prop}{F H:Hp}{m:M C}{Q Q':VK}(h:WPF K Xw F H m Q)(k:∀v H',Q v H'→Q' v H'):WPF K Xw F H m Q':=by
 match m,h with
 |none,h=>exact h
 |some (.ok d),h=>exact fun a o H' F' e h1 h2 h3 h4=>k _ _ (h a o H' F' e h1 h2 h3 h4)
 |some (.ex n),h=>exact h
theorem WPF.ext{K:W.Frag}{Xw:Nat→Hp→Prop}{F H F1 H1:Hp}{m:M C}{Q:VK}(e:Ext F H F1 H1)(h:WPF K Xw F H m Q):WPF K Xw F1 H1 m Q:=by
 match m,h with
 |none,h=>exact h
 |some (.ok d),h=>exact fun a o H' F' e' h1 h2 h3 h4=>h a o H' F' (e.trans e') h1 h2 (Same.free e.hh h3) h4
 |some (.ex n),h=>exact fun F2 H2 e2=>h F2 H2 (e.trans e2)
theorem WPF.bind{K:W.Frag}{Xw:Nat→Hp→Prop}{F H:Hp}{m:M D}{k:D→M C}{Q:VK}(h:WPF K Xw F H (m>>=k) Q):WP K Xw F H m fun v H1=>∃F1 d,Ext F H F1 H1∧Den K F1 d v∧WPF K Xw F1 H1 (k d) Q:=by
 match m,h with
 |none,h=>exact h
 |some (.ok d),h=>exact fun v H2 F2 e2 q=>⟨F2,d,e2,q,WPF.ext e2 (show WPF K Xw F H (k d) Q from h)⟩
 |some (.ex n),h=>exact h
theorem WPF.bindL{K:W.Frag}{Xw:Nat→Hp→Prop}{F H:Hp}{m:M (List D)}{k:List D→M C}{Q:VK}(h:WPF K Xw F H (m>>=k) Q):WPL K Xw F H m fun v H1=>∃F1 d,Ext F H F1 H1∧DenL K F1 d v∧WPF K Xw F1 H1 (k d) Q:=by
 match m,h with
 |none,h=>exact h
 |some (.ok d),h=>exact fun v H2 F2 e2 q=>⟨F2,d,e2,q,WPF.ext e2 (show WPF K Xw F H (k d) Q from h)⟩
 |some (.ex n),h=>exact h
def Ej(ds:List D):M C:=if ds.length≤lim then M.ret (.lst ds) else M.stuck
section
variable{X:Cx}{Xw:Nat→Hp→Prop}{e k v a b:Expr}{es:List Expr}{δ δ':DF}{δk δv δa δb:DE}{δs:DA}{pos pos' p:Pos}{x:Str}{i:Nat}
theorem qr(hN:X.N.Nodup)(hi:X.N[i]? =some x)(hx:Loc X.env.scope x)(he:Ex X Xw e δ)(hf:X.fn x=true∨X.env.scope.names.lookup x=some .local:=by first | exact .inl rfl | exact .inr rfl)
 (hs:swapsWithSole [.Name x pos'] e pos.line X.env=pure false:=by rfl):
 j3 X Xw (.Assign [.Name x pos'] e pos) (qD i δ):=fun F₀ H₀=>PS.weak (oJ he (cb hN hi hx hf) hs) fun D σ H ⟨F,ρ,s,w⟩=>by
 refine⟨F,ρ,s.st,?_⟩
 unfold qD at w
 match δ ρ,w with
 |none,w=>exact w
 |some (.ok c),w=>exact fun a o H' F' E h1 h2 h3 h4=>w _ F' H' (s.setFresh E h1 h2 h3 h4)
 |some (.ex n),w=>exact fun F' H' e'=>w F' H' (s.ext.trans e')
theorem Ext.fresh{F H:Hp}{p:Addr}{o:HO}(s:Same F H)(hp:H p=none):Ext F H F (upd H p o)∧F p=none:=⟨Ext.free s hp,Same.free s hp⟩
theorem yH(h:mr X Xw es δs):Ex X Xw (.List es pos) (fun ρ=>δs ρ>>=Ej):=PE.weak (r_ h) fun σ H Q ⟨F,ρ,s,w⟩=>by
 refine⟨F,ρ,s,WPL.mono (WPF.bindL w) fun vs H1 ⟨F1,ds,e1,q1,w1⟩=>?_⟩
 unfold Ej at w1
 split at w1
 ·rename_i hl
  have hv:=q1.len
  refine⟨by have:=c8;omega,fun p hp=>?_⟩
  obtain⟨E,nF⟩:=Ext.fresh (o:= .lst vs) e1.fh hp
  exact w1 p _ _ F1 E aE nF hp ⟨vs,rfl,q1,hl⟩
 ·exact w1.elim
theorem Cu{pins:List (Addr×Obj)}{σ:St}{H H':Hp}{s:Shared}{a:Addr}{y v:V}{u r:Value}{A:Around}{E:Value→Shared→Prop}{Q:Unit→Shared→Prop}(hu:A.units+1<cLine)(I:Inv X pins σ H s)(g:DPut H a y v H')(ry:RelV y u)(rv:RelV v r)(h:∀s',Inv X pins σ H' s'→Q () s'):
 wpAny (model X.prog X.w) A (dictSet a u r) Q E s:=by
 rcases g with⟨ax,k,e,ey,l,eH⟩ | ⟨ax,k,b,e,ey,eb,l,eH⟩
 ·subst ey eH
  obtain⟨z,hd,vs,rel,dd⟩:=zr I.hok e
  have hz:vs.length≤sizeLine:=by rw[←rel.length];exact z
  have hl:(putK ax k v).length≤sizeLine:=by have:=dU ax k v;omega
  refine wpAny_dictSet_pairs (hsz:=hz) (mX ry) dd fun h' xN hs=>h _ ?_
  have he:∃q,h'.get? a=some q:=let ⟨q,_,_,hq,_⟩:=xN;⟨q,hq⟩
  exact j5 I (by rw[e];exact True.intro) hs he (vG hl hd (rel.put k rv) xN)
 ·subst ey eH
  cases (show u=Value.ref b from ry)
  obtain⟨z,hd,xs,rel,dd⟩:=zt I.hok e
  have hz:xs.length≤sizeLine:=by rw[←Paired.length rel];exact z
  have hl:(putK ax k v).length≤sizeLine:=by have:=dU ax k v;omega
  refine wpAny_dictSet_heap (knd:=tupleKind (bz X.prog X.w)) (hsz:=hz) (by exact(show A.units<cLine by omega)) (ja I.hok eb) dd fun h' xN hs=>h _ ?_
  obtain⟨q,es,ep,hq,h2,h3,h4,_,h5⟩:=xN
  refine j5 I (by rw[e];exact True.intro) hs ⟨q,hq⟩ ⟨hl,hd,_,(rel.put k eb rv).keeps fun c ys ec=>?_,q,es,ep,hq,h2,h3,h4,h5⟩
  rw[av (zS ec e (fun z=>nomatch z))]
  exact ec
end
section
variable{X:Cx}{Xw:Nat→Hp→Prop}{e k v a b:Expr}{es:List Expr}{δk δv δa δb:DE}{δs:DA}{pos pos' p:Pos}{x:Str}{i:Nat}
theorem vF{o0:HO}{put:Hp→Addr→V→V→Hp→Prop}(hu:X.A.units+1<cLine)(h0:∀(H:Hp) (h:Heap),sysModules<h.objs.size→ObjOk X.prog X.w H (h.push {cls:= .type "dict",data:= .dict #[]}) h.objs.size o0){tk tv:TE}(hk:PE X k tk)(hv:PE X v tv):
 PE X (.Dict [some k] [v] pos) (fun σ H Q=>∀p,H p=none→tk σ (upd H p o0) fun y H1=>tv σ H1 fun z H2=>∃H3,DPut H2 p y z H3∧Q (.ref p) H3):=by
 intro pins s σ H Q I q
 have hn:=I.hok.fresh (Nat.le_refl s.heap.objs.size)
 have I1:=I.laid (a:=s.heap.objs.size) (o:=o0) (h':=s.heap.push {cls:= .type "dict",data:= .dict #[]}) (t':=s.toks) (fun _ _ q=>Heap.get?_push_of_some _ q) (Nat.le_refl _) (h0 _ s.heap I.big)
 refine wpAny_Dict_any rfl rfl (by simp) (by simp) (bB (wM hk hv yS pins _ σ _ (fun ps H2=>∃y z H3,ps=[(y,z)]∧DPut H2 s.heap.objs.size y z H3∧Q (.ref s.heap.objs.size) H3) I1 ?_) fun ws s2 ⟨ps,H2,I2,rel,y,z,H3,ep,g,q2⟩=>?_)
 ·refine ?_
  have:=q _ hn
  show tk σ _ fun y H1=>tv σ H1 fun z H2=>∃y' z' H3,[(y,z)]=[(y',z')]∧DPut H2 s.heap.objs.size y' z' H3∧Q (.ref s.heap.objs.size) H3
  have e:(fun (y:V) (H1:Hp)=>tv σ H1 fun z H2=>∃y' z' H3,[(y,z)]=[(y',z')]∧DPut H2 s.heap.objs.size y' z' H3∧Q (.ref s.heap.objs.size) H3)=(fun y H1=>tv σ H1 fun z H2=>∃H3,DPut H2 s.heap.objs.size y z H3∧Q (.ref s.heap.objs.size) H3):=by
   funext y H1
   congr 1
   funext z H2
   refine propext ⟨fun ⟨y',z',H3,ee,r⟩=>?_,fun⟨H3,r⟩=>⟨y,z,H3,rfl,r⟩⟩
   cases ee
   exact⟨H3,r⟩
  rw[e]
  exact this
 ·subst ep
  cases rel with
  | @cons a b as bs h t=>
    cases t
    obtain⟨r1,r2⟩:=h
    unfold storeAll
    rw[List.forIn_cons]
    refine wpAny_bind (wpAny_bind (Cu hu I2 g r1 r2 fun s3 I3=>?_))
    refine wpAny_pure ?_
    show wpAny _ _ (forIn ([]:List (Value×Value)) PUnit.unit _) _ _ _
    rw[List.forIn_nil]
    exact wpAny_pure ⟨V.ref s.heap.objs.size,_,I3,rfl,q2⟩
def mG(k v:D):M C:=match df k with
 |some kk=>M.ret (.dct [kk] [v])
 |none=>M.stuck
theorem uU(hu:X.A.units+64<cLine)(hk:PD X Xw k δk)(hv:PD X Xw v δv):Ex X Xw (.Dict [some k] [v] pos) (fun ρ=>δk ρ>>=fun x=>δv ρ>>=fun y=>mG x y):=
 PE.weak (vF (o0:= .dT []) (put:=DPut) (by omega) (fun H h hb=>pI h hb) hk hv) fun σ H Q ⟨F,ρ,s,w⟩ q hq=>by
  have e0:=Ext.free (o:= .dT []) s.fh hq
  refine⟨F,ρ,s.ext e0,?_⟩
  have w:WPF X.K Xw F H (δk ρ>>=fun x=>δv ρ>>=fun y=>mG x y) Q:=w
  match B8:δk ρ,w with
  |none,w=>exact w
  |some (.ex n),w=>exact fun F' H' e'=>w F' H' (e0.trans e')
  |some (.ok kd),w=>
   intro y H1 F1 e1 q1
   refine⟨F1,ρ,(s.ext e0).ext e1,?_⟩
   have w:WPF X.K Xw F H (δv ρ>>=fun y=>mG kd y) Q:=w
   match Jg:δv ρ,w with
   |none,w=>exact w
   |some (.ex n),w=>exact fun F' H' e'=>w F' H' (e0.trans (e1.trans e'))
   |some (.ok vd),w=>
    intro z H2 F2 e2 q2
    have w3:WPF X.K Xw F H (mG kd vd) Q:=w
    clear w
    unfold mG at w3
    cases zH:df kd with
    |none=>rw[zH] at w3;exact w3.elim
    |some kk=>
     rw[zH] at w3
     have E:=e1.trans e2
     have Fe:H2 q=some (.dT []):=E.hh _ _ aE
     have Gs:F2 q=none:=by
      have:=E.old (a:=q) (o:= .dT []) aE (fun _ z=>nomatch z)
      rw[this]
      exact Same.free s.fh hq
     unfold df at zH
     split at zH
     ·rename_i es
      obtain⟨b,ws,rfl,k2,k3,_⟩:=Den.mono e2.ff q1
      have e5:=fF zH k3
      subst e5
      refine⟨_,DPut.t (k:=kk) Fe (e2.fh _ _ k2) (by rw[sizeLine_eq];decide),?_⟩
      refine w3 q (.dT (putK [] kk z)) _ F2 ⟨fun c u hc=>?_,(e0.trans E).ff,fun c u hc=>?_,(e0.trans E).new⟩ aE Gs hq ⟨[z],rfl, .cons q2 .nil,rfl,show 1≤lim by decide⟩
      ·rw[av (fun zz=>by rw[zz,hq] at hc;cases hc)]
       exact(e0.trans E).hh c u hc
      ·rw[av (fun zz=>by rw[zz,Gs] at hc;cases hc)]
       exact e2.fh c u hc
     ·cases zH
theorem sN{K:W.Frag}{F H:Hp}{d k:D}{x y:V}{o:Option D}(s:Same F H)(hd:Den K F d x)(hk:Den K F k y)(e:xy d k=some o):
 ∃a ov,x= .ref a∧lY H a y ov∧ov.isSome=o.isSome∧∀d',o=some d'→∃v,ov=some v∧Den K F d' v:=by
 obtain⟨a,ov,h1,h2,h3,h4⟩:=sO (σ:=[some x]) (ρ:=[some (.fz d)]) (i:=0) (H:=H) ⟨s,fun i sl q=>by
  match i,q with
  |0,q=>cases q;exact⟨x,rfl,hd⟩
  |i+1,q=>simp at q⟩ rfl hk e
 cases h1
 exact⟨a,ov,rfl,h2,h3,h4⟩
def d8(neg:Bool)(k d:D):M D:=match xy d k with
 |some o=>M.ret (.bl (if neg then !o.isSome else o.isSome))
 |none=>M.stuck
def BF(neg:Bool):R2:=fun y x H Q=>∃a o,x= .ref a∧lY H a y o∧Q (.bl (if neg then !o.isSome else o.isSome)) H
theorem wy(hu:X.A.units+64<cLine):OpR X (compareOp .In) (BF false):=fun pins s σ H y x v u Q I ry rx ⟨a,o,ex,g,q⟩=>by
 subst ex
 obtain rfl:u=Value.ref a:=rx
 exact Ct (by omega) I g ry fun s' I'=>⟨.bl o.isSome,_,I',rfl,q⟩
theorem uP(hu:X.A.units+64<cLine):OpR X (compareOp .NotIn) (BF true):=fun pins s σ H y x v u Q I ry rx ⟨a,o,ex,g,q⟩=>by
 subst ex
 obtain rfl:u=Value.ref a:=rx
 exact xM (by omega) I g ry fun s' I'=>⟨.bl (!o.isSome),_,I',rfl,q⟩
theorem oF{K:W.Frag}{neg:Bool}:pe K (BF neg) (d8 neg):=fun Xw F H y x dk dd Q s hk hd w=>by
 unfold d8 at w
 cases he:xy dd dk with
 |none=>rw[he] at w;exact w.elim
 |some o=>
  rw[he] at w
  obtain⟨a,ov,h1,h2,h3,_⟩:=sN s hd hk he
  refine⟨a,ov,h1,h2,?_⟩
  rw[h3]
  exact WP.now w s rfl
theorem BB(hu:X.A.units+64<cLine)(ha:PD X Xw a δa)(hb:PD X Xw b δb)(hm:behindInMarks .In b=false:=by rfl):lZ X Xw (.Compare a [.In] [b] pos) (bN (d2 (d8 false) δa δb)):=gf (wy hu) oF ha hb hm
theorem wD(hu:X.A.units+64<cLine)(ha:PD X Xw a δa)(hb:PD X Xw b δb)(hm:behindInMarks .In b=false:=by rfl):PD X Xw (.Compare a [.In] [b] pos) (d2 (d8 false) δa δb):=ll (wy hu) oF ha hb hm
theorem jj(hu:X.A.units+64<cLine)(ha:PD X Xw a δa)(hb:PD X Xw b δb)(hm:behindInMarks .NotIn b=false:=by rfl):lZ X Xw (.Compare a [.NotIn] [b] pos) (bN (d2 (d8 true) δa δb)):=gf (uP hu) oF ha hb hm
def rz(d k:D):M D:=match xy d k with
 |some (some v)=>M.ret v
 |_=>M.stuck
theorem Bi(hu:X.A.units+64<cLine)(ha:PD X Xw a δa)(hb:PD X Xw b δb)(hs:z_ b:=by intro _ _;rfl):PD X Xw (.Subscript a b pos) (d2 rz δa δb):=
 PE.weak (yN (by omega) ha hb hs) fun σ H Q ⟨F,ρ,s,w⟩=>by
  refine⟨F,ρ,s,WP.mono (WP.bind w) fun x H1 ⟨F1,d,e1,q1,w1⟩=>?_⟩
  refine⟨F1,ρ,s.ext e1,WP.mono (WP.bind w1) fun y H2 ⟨F2,k,e2,q2,w2⟩=>?_⟩
  unfold rz at w2
  cases he:xy d k with
  |none=>rw[he] at w2;exact w2.elim
  |some o=>
   cases o with
   |none=>rw[he] at w2;exact w2.elim
   |some d'=>
    rw[he] at w2
    obtain⟨a,ov,h1,h2,h3,h4⟩:=sN e2.fh (Den.mono e2.ff q1) q2 he
    obtain⟨v,rfl,hd⟩:=h4 d' rfl
    exact⟨a,v,h1,h2,WP.now w2 e2.fh hd⟩
end
section
variable{X:Cx}{pins:List (Addr×Obj)}{σ:St}{H:Hp}{s:Shared}{h':Heap}
end
section
variable{X:Cx}{Xw:Nat→Hp→Prop}{tg e:Expr}{es:List Expr}{δ δi:DE}{δs:DA}{pos p tp:Pos}{x1:Nat}
end
def yh:Key→D
 | .inl i=> .int i
 | .inr x=> .str x
def zk(H:Hp)(d:Addr)(od:Obj)(i:Nat)(x:V):Prop:=
 (∃ax k b,H d=some (.frz od (.dT ax))∧(ax.map (·.1))[i]? =some k∧x= .ref b∧H b=some (.tup (k.map kV)))∨
 ∃ax k,H d=some (.frz od (.dK ax))∧(ax.map (·.1))[i]? =some k∧x=kV k
def Gb(d:Addr)(od:Obj):It:=
 ⟨fun i H=>(∃ax,H d=some (.frz od (.dT ax))∧i<ax.length)∨∃ax,H d=some (.frz od (.dK ax))∧i<ax.length,fun i H x H'=>H'=H∧zk H d od i x,
  fun i H=>(∃ax,H d=some (.frz od (.dT ax))∧ax.length≤i)∨∃ax,H d=some (.frz od (.dK ax))∧ax.length≤i⟩
theorem gQ{α β:Type}{R:α→β→Prop}:∀{l:List α}{m:List β}{i:Nat}{a:α},Paired R l m→l[i]? =some a→∃b,m[i]? =some b∧R a b
 |_,_,i,_, .nil,e=>by simp at e
 |_,_,0,_, .cons r t,e=>by simp at e;subst e;exact⟨_,rfl,r⟩
 |_,_,i+1,_, .cons r t,e=>by
  obtain⟨b,e1,e2⟩:=gQ (i:=i) t (by simpa using e)
  exact⟨b,by simpa using e1,e2⟩
theorem uS{prog:Program}{w:World}{κ:Type}[DecidableEq κ]{knd:KeyKind prog w κ}:∀{es:List DictEntry}{ax:List (κ×Value)}{i:Nat}{kv:κ×Value},Pairs knd es ax→ax[i]? =some kv→∃e,es[i]? =some e∧knd.is kv.1 e.key=true:=by
 intro es ax i kv h e
 induction h generalizing i with
 |nil=>simp at e
 | @cons en Jh B4 IJ h1 h2 h3 ih=>
   cases i with
   |zero=>simp at e;subst e;exact⟨en,rfl,h1⟩
   |succ i=>
    obtain⟨q,e1,e2⟩:=ih (i:=i) (by simpa using e)
    exact⟨q,by simpa using e1,e2⟩
theorem AZ{k:Key}{u:Value}(h:kN k u=true):RelV (kV k) u:=by
 rcases bg h with⟨i,t,rfl,rfl⟩ | ⟨x,t,rfl,rfl⟩
 ·exact⟨t,rfl⟩
 ·exact⟨t,rfl⟩
theorem ky{X:Cx}{pins:List (Addr×Obj)}{σ:St}{H:Hp}{s:Shared}{d:Addr}{od:Obj}{n:Nat}(I:Inv X pins σ H s)
 (h:(∃ax,H d=some (.frz od (.dT ax))∧n=ax.length)∨∃ax,H d=some (.frz od (.dK ax))∧n=ax.length):
 ∃es ep,(d==sysModules)=false∧s.heap.get? d=some od∧od.ExactDict∧od.data= .dict es ep∧es.size=n∧∀i,i<n→∃e x,es[i]? =some e∧RelV x e.key∧zk H d od i x:=by
 rcases h with⟨ax,e,rfl⟩ | ⟨ax,e,rfl⟩
 ·obtain⟨ho,z,lo,xs,rel,o,es,ep,h1,h2,h3,h4,h5⟩:=(show ObjOk X.prog X.w H s.heap d (.frz od (.dT ax)) from I.hok d _ e)
  rw[ho] at h1
  cases h1
  have hl:es.size=ax.length:=by
   rw[←Array.length_toList,h4,List.length_map]
   exact(Paired.length rel).symm
  refine⟨es,ep,lo,ho,h2,h3,hl,fun i hi=>?_⟩
  obtain⟨q,e1,e2,e3,e4⟩:=gQ rel (List.getElem?_eq_getElem hi)
  refine⟨entryOfKey (tupleKind (bz X.prog X.w)) q, .ref q.2.1,?_,rfl, .inl ⟨ax,ax[i].1,q.2.1,e,?_,rfl,e3⟩⟩
  ·rw[←Array.getElem?_toList,h4,List.getElem?_map,e1]
   rfl
  ·rw[List.getElem?_map,List.getElem?_eq_getElem hi]
   rfl
 ·obtain⟨ho,z,lo,vs,rel,o,es,ep,h1,h2,h3,h4,h5,h6⟩:=(show ObjOk X.prog X.w H s.heap d (.frz od (.dK ax)) from I.hok d _ e)
  rw[ho] at h1
  cases h1
  have hl:es.size=ax.length:=by
   rw[←Array.length_toList,h5.length]
   exact(Paired.length rel).symm
  refine⟨es,ep,lo,ho,h2,h3,hl,fun i hi=>?_⟩
  obtain⟨q,e1,e2,e3⟩:=gQ rel (List.getElem?_eq_getElem hi)
  obtain⟨en,e4,e5⟩:=uS h5 e1
  refine⟨en,kV ax[i].1,by rw[←Array.getElem?_toList];exact e4,?_, .inr ⟨ax,ax[i].1,e,by rw[List.getElem?_map,List.getElem?_eq_getElem hi];rfl,rfl⟩⟩
  rw[e2]
  exact AZ e5
theorem u5{P:Program}{w:World}{K:W.Frag}{tg:Expr}(d it:Addr)(od:Obj)(es:Array DictEntry)(ep:Nat)(pb:od.data= .dict es ep):
 Turn P w K tg (Gb d od) [it] it (fun i h=>h.IsKeyIter it d i es.size ep) where
 mem:=by simp
 obj:=fun i h st b hb=>by
  have e:b=it:=by simpa using hb
  subst e
  obtain⟨o,e,c,dd⟩:=st
  exact⟨o,e,fun v z=>by rw[dd] at z;cases z⟩
 keep:=fun i h h' st k=>st.at fun o e=>k it (by simp) o e
 item:=by
  intro X hP hw hK hc i pins s σ H E I hf st hg
  subst hP hw hK
  obtain⟨n,hn,hi⟩:∃n,((∃ax,H d=some (.frz od (.dT ax))∧n=ax.length)∨∃ax,H d=some (.frz od (.dK ax))∧n=ax.length)∧i<n:=by
   rcases hg with⟨ax,e,hi⟩ | ⟨ax,e,hi⟩
   ·exact⟨_, .inl ⟨ax,e,rfl⟩,hi⟩
   ·exact⟨_, .inr ⟨ax,e,rfl⟩,hi⟩
  obtain⟨B4,Cv,lo,ho,hx,vT,hsz,hk⟩:=ky I hn
  rw[pb] at vT
  cases vT
  obtain⟨en,x,e1,rx,ka⟩:=hk i hi
  obtain⟨f0,f1,f2,f3,f4,f5⟩:=hf it (by simp)
  refine p9 st ho pb e1 fun h' lR sb=>?_
  have I1:Inv X pins σ H {s with heap:=h'}:=I.turned (t':=s.toks) (fun b o hb e=>(sb.2 b hb).trans e) f0 f1 f3 f4 f5
  obtain⟨o,e2,c,dd⟩:=id lR
  exact⟨_,rfl,mM (s:={s with heap:=h'}) e2 c dd (by decide) ⟨x,H,I1,rx,⟨rfl,ka⟩,lR,fun b hb=>(hf b hb).1⟩⟩
 done:=by
  intro X hP hw hK hc i pins s σ H E I hf st hg
  subst hP hw hK
  obtain⟨n,hn,hi⟩:∃n,((∃ax,H d=some (.frz od (.dT ax))∧n=ax.length)∨∃ax,H d=some (.frz od (.dK ax))∧n=ax.length)∧n≤i:=by
   rcases hg with⟨ax,e,hi⟩ | ⟨ax,e,hi⟩
   ·exact⟨_, .inl ⟨ax,e,rfl⟩,hi⟩
   ·exact⟨_, .inr ⟨ax,e,rfl⟩,hi⟩
  obtain⟨B4,Cv,lo,ho,hx,vT,hsz,hk⟩:=ky I hn
  rw[pb] at vT
  cases vT
  obtain⟨f0,f1,f2,f3,f4,f5⟩:=hf it (by simp)
  exact mH (I.ok.hd hc) st (by omega) ho pb fun h' eb=>⟨rfl,I.turned (t':=s.toks) (fun b o hb e=>eb b o hb e) f0 f1 f3 f4 f5⟩
 self:=fun _ _ _ _ _ st h=>wpAny_pyIter_keyiter st h
def tupK(k:List Key):D:= .tup (k.map yh)
def nu:Key→Bool
 | .inl _=>true
 | .inr x=>decide (x.length≤lim)
def fG:D→M (List D)
 | .dct ks _=>if ks.all (fun k=>decide (k.length≤lim)&&k.all nu) then M.ret (ks.map tupK) else M.stuck
 | .dci ks _=>if ks.all nu then M.ret (ks.map yh) else M.stuck
 |_=>M.stuck
theorem pZ{K:W.Frag}{F:Hp}{k:Key}(h:nu k=true):Den K F (yh k) (kV k):=by
 cases k with
 |inl i=>exact rfl
 |inr x=>exact⟨rfl,of_decide_eq_true h⟩
theorem mY{K:W.Frag}{F:Hp}:∀{k:List Key},k.all nu=true→DenL K F (k.map yh) (k.map kV)
 |[],_=>rfl
 |x::k,h=>by
  rw[List.all_cons,Bool.and_eq_true] at h
  exact .cons (pZ h.1) (mY h.2)
theorem v9{K:W.Frag}{F:Hp}{a:Addr}{ob:Obj}{d:D}{ds:List D}(hd:Den K F d (.ref a))(hF:∃u,F a=some (.frz ob u))(e:fG d=M.ret ds):ItD K F (Gb a ob) ds:=fun F' H' i s1 s2=>by
 unfold fG at e
 split at e
 ·rename_i ks es
  split at e
  ·rename_i hok
   obtain rfl:=d4 e
   obtain⟨a',IK,vs,z,h2,h3,h4,h5⟩:=hd
   cases z
   obtain⟨u,hu⟩:=hF
   rw[h2] at hu
   cases hu
   have hh:=s2 _ _ (s1 _ _ h2)
   have hz:=kf (a:=ks) (b:=vs) (by rw[h4];exact h3.len)
   have hl:(ks.zip vs).length=ks.length:=by rw[←List.length_map (f:=(·.1)),hz]
   refine⟨fun d e=>?_,fun hle=> .inl ⟨_,hh,by rw[hl];simpa using hle⟩⟩
   rw[List.getElem?_map] at e
   cases q:ks[i]? with
   |none=>rw[q] at e;cases e
   |some k=>
    rw[q] at e
    cases e
    have hi:=(List.getElem?_eq_some_iff.mp q).1
    refine⟨.inl ⟨_,hh,by rw[hl];exact hi⟩,fun x H'' ⟨y1,y2⟩=>?_⟩
    subst y1
    have hk:=List.all_eq_true.mp hok k (List.mem_of_getElem? q)
    rw[Bool.and_eq_true] at hk
    rcases y2 with⟨ax,k',b,q1,q2,rfl,q3⟩ | ⟨ax,k',q1,q2,rfl⟩
    ·rw[hh] at q1
     cases q1
     rw[hz,q] at q2
     cases q2
     have E:=Ext.tup (F:=F') s2 q3
     exact⟨_,E,b,_,rfl,aE,mY hk.2,by rw[List.length_map];exact of_decide_eq_true hk.1⟩
    ·rw[hh] at q1;cases q1
  ·exact(fX e).elim
 ·rename_i ks es
  split at e
  ·rename_i hok
   obtain rfl:=d4 e
   obtain⟨a',IK,vs,z,h2,h3,h4,h5⟩:=hd
   cases z
   obtain⟨u,hu⟩:=hF
   rw[h2] at hu
   cases hu
   have hh:=s2 _ _ (s1 _ _ h2)
   have hz:=kf (a:=ks) (b:=vs) (by rw[h4];exact h3.len)
   have hl:(ks.zip vs).length=ks.length:=by rw[←List.length_map (f:=(·.1)),hz]
   refine⟨fun d e=>?_,fun hle=> .inr ⟨_,hh,by rw[hl];simpa using hle⟩⟩
   rw[List.getElem?_map] at e
   cases q:ks[i]? with
   |none=>rw[q] at e;cases e
   |some k=>
    rw[q] at e
    cases e
    have hi:=(List.getElem?_eq_some_iff.mp q).1
    refine⟨.inr ⟨_,hh,by rw[hl];exact hi⟩,fun x H'' ⟨y1,y2⟩=>?_⟩
    subst y1
    have hk:=List.all_eq_true.mp hok k (List.mem_of_getElem? q)
    rcases y2 with⟨ax,k',b,q1,q2,rfl,q3⟩ | ⟨ax,k',q1,q2,rfl⟩
    ·rw[hh] at q1;cases q1
    ·rw[hh] at q1
     cases q1
     rw[hz,q] at q2
     cases q2
     exact⟨F',Ext.refl s2,pZ hk⟩
  ·exact(fX e).elim
 ·exact(fX e).elim
section
variable{X:Cx}{Xw:Nat→Hp→Prop}{tg l:Expr}{δ:DE}
theorem qq(h:PD X Xw l δ):t5 X Xw tg l (fun ρ=>δ ρ>>=fG):=by
 intro pins s σ H R I ⟨F,ρ,S,w⟩
 refine bB (h pins s σ H (fun v H1=>∃F1 d,Ext F H F1 H1∧Den X.K F1 d v∧WPI X.K Xw F1 H1 (fG d) R) I ⟨F,ρ,S,WPI.bind w⟩) fun u s1 ⟨v,H1,I1,r1,F1,d,e1,q1,w1⟩=>?_
 rcases(fG d).cs with z | ⟨n,z⟩ | ⟨ds,z⟩
 ·rw[z] at w1;exact w1.elim
 ·exfalso
  unfold fG at z
  split at z
  ·split at z<;>cases z
  ·split at z<;>cases z
  ·cases z
 ·rw[z] at w1
  obtain⟨a,ob,u',rfl,hF,hn⟩:∃a ob u',v= .ref a∧F1 a=some (.frz ob u')∧∃n,((∃ax,H1 a=some (.frz ob (.dT ax))∧n=ax.length)∨∃ax,H1 a=some (.frz ob (.dK ax))∧n=ax.length):=by
   unfold fG at z
   split at z
   ·obtain⟨a,ob,vs,e,h2,_⟩:=q1;exact⟨a,ob,_,e,h2,_, .inl ⟨_,e1.fh _ _ h2,rfl⟩⟩
   ·obtain⟨a,ob,vs,e,h2,_⟩:=q1;exact⟨a,ob,_,e,h2,_, .inr ⟨_,e1.fh _ _ h2,rfl⟩⟩
   ·exact(fX z).elim
  obtain⟨n,hn⟩:=hn
  cases (show u=_ from r1)
  obtain⟨es,ep,lo,ho,hx,hd,hsz,hk⟩:=ky I1 hn
  refine mW lo ho hx hd ?_
  refine⟨s1.heap.objs.size,[s1.heap.objs.size],_,_,H1,rfl,I1.kept (t':=s1.toks) fun b o e=>Heap.get?_push_of_some _ e,u5 a _ ob es ep hd,⟨_,Heap.get?_push_size _ rfl,rfl,rfl⟩,fun b hb=>?_,w1 _ _ _ (Ext.refl e1.fh) (v9 q1 ⟨_,hF⟩ z)⟩
  have e:b=s1.heap.objs.size:=by simpa using hb
  subst e
  exact I1.fpOk (Nat.le_refl _) (I1.hok.fresh (Nat.le_refl _))
end
end L3
namespace L3
open PySem
section
variable{prog:Program}{w:World}{K:Type}[DecidableEq K]{knd:HeapKind prog w K}{A:Around}{E:Value→Shared→Prop}{s:Shared}
end
end L3
namespace L3
open PySem PySem.Spec L2
open PyProof.Rows hiding St
def mN(k:List Int):Int:=reduceHash (Builtin.Tuple.tupleHashOf (k.map hashInt))
section
variable{X:Cx}{pins:List (Addr×Obj)}{σ:St}{H:Hp}{s:Shared}{a b:Addr}{A:Around}{E:Value→Shared→Prop}
end
section
variable{X:Cx}{Xw:Nat→Hp→Prop}{o e f:Expr}{δ δo δe δf:DE}{pos p apos bo:Pos}{x:Str}{i:Nat}
end
section
variable{X:Cx}{Xw:Nat→Hp→Prop}{o e f:Expr}{δ δo δe δf:DE}{δs:DA}{pos p apos bo:Pos}{x:Str}{i:Nat}
end
section
variable{X:Cx}{Xw:Nat→Hp→Prop}{a b e B5:Expr}{δ δa δb δs:DE}{pos p2:Pos}
def pS(neg:Bool):D→D→M D
 | .raw _,_=>M.stuck
 | .non, .non=>M.ret (.bl (!neg))
 |_, .non=>M.ret (.bl neg)
 |_,_=>M.stuck
theorem yc{K:W.Frag}{neg:Bool}{g:V→Bool}(hg:∀v,g v=if neg then !decide (v= .non) else decide (v= .non)):pe K (fun x y H Q=>y= .non∧Q (.bl (g x)) H) (pS neg):=fun Xw F H x y dx dy Q s hx hy w=>by
 unfold pS at w
 split at w
 ·exact w.elim
 ·refine⟨hy,?_⟩
  cases (show x=_ from hx)
  rw[hg]
  cases neg<;>exact WP.now w s rfl
 ·rename_i h1 h2
  refine⟨hy,?_⟩
  have Fm:x≠ .non:=by
   rintro rfl
   cases dx with
   |raw v=>exact h1 v rfl
   |non=>exact h2 rfl
   |bl _=>cases (show _=_ from hx)
   |int _=>cases (show _=_ from hx)
   |str _=>cases (show _=_ from hx.1)
   |exc _=>obtain⟨_,z,_⟩:=hx;cases z
   |scr _=>obtain⟨_,z,_⟩:=hx;cases z
   |tup _=>obtain⟨_,_,z,_⟩:=hx;cases z
   |lst _=>obtain⟨_,_,z,_⟩:=hx;cases z
   |dct _ _=>obtain⟨_,_,_,z,_⟩:=hx;cases z
   |dci _ _=>obtain⟨_,_,_,z,_⟩:=hx;cases z
  rw[hg,decide_eq_false Fm]
  cases neg<;>exact WP.now w s rfl
 ·exact w.elim
theorem yE(ha:PD X Xw a δa)(hb:PD X Xw b δb):PD X Xw (.Compare a [.IsNot] [b] pos) (d2 (pS true) δa δb):=ll yr (yc fun _=>rfl) ha hb
theorem y6:Gf X (fun x H Q=>∃a xs,x= .ref a∧SqL X.K H a xs∧∀p,H p=none→Q (.ref p) (upd H p (.lst xs.reverse))):=by
 intro pins s σ H x v u sl Q I rx hs ⟨a,xs,ex,hx,q⟩
 subst ex
 cases rx
 obtain⟨aG,r,ht,hz⟩:=I.list hx
 have hlen:=r.length
 refine⟨"list",_,slot_list_getitem.lookup,ht.isList.typeIs,?_⟩
 refine wpAny_getItem_list_slice (st:=some (-1)) ht.isList hs .none .none (.int _ _) (by decide) ?_ (by rw[List.size_toArray]<;>omega)
 rw[PySem.W.krv_pick]
 refine⟨.ref s.heap.objs.size,_,I.laid (t':=s.toks) (o:= .lst xs.reverse) (fun b ob q=>Heap.get?_push_of_some _ q) (Nat.le_refl _) ?_,rfl,q _ (I.hok.fresh (Nat.le_refl _))⟩
 exact⟨by rw[List.length_reverse];exact hz,_,0,r.reverse,Heap.get?_push_size _ rfl⟩
def z3:D→M D
 | .lst ds=>M.ret (.lst ds.reverse)
 |_=>M.stuck
def hX(a st:DE):DE:=fun ρ=>a ρ>>=fun d=>st ρ>>=fun k=>match k with
 | .int i=>if i= -1 then z3 d else M.stuck
 |_=>M.stuck
theorem tL(he:PD X Xw e δ)(hs:PD X Xw B5 δs):PD X Xw (.Subscript e (.Slice none none (some B5) p2) pos) (hX δ δs):=
 PE.weak (Bt y6 he hs) fun σ H Q ⟨F,ρ,s,w⟩=>by
  refine⟨F,ρ,s,WP.mono (WP.bind w) fun v H1 ⟨F1,d,e1,q1,w1⟩=>?_⟩
  refine⟨F1,ρ,s.ext e1,WP.mono (WP.bind w1) fun y H2 ⟨F2,k,e2,q2,w2⟩=>?_⟩
  have q3:=Den.mono e2.ff q1
  cases k with
  |int i=>
   have w2:WP X.K Xw F2 H2 (if i= -1 then z3 d else M.stuck) Q:=w2
   split at w2
   ·rename_i hi
    subst hi
    refine⟨q2,?_⟩
    cases d with
    |lst ds=>
     obtain⟨a,vs,rfl,h2,h3,h4⟩:=q3
     exact⟨a,vs,rfl,SqL.of (e2.fh _ _ h2),fun p hp=>WP.fin w2 (Ext.lay e2.fh hp) ⟨p,_,rfl,aE,DenL.mono (Ext.lay e2.fh hp).ff h3.reverse,by rw[List.length_reverse];exact h4⟩⟩
    |_=>exact w2.elim
   ·exact w2.elim
  |_=>exact w2.elim
end
section
variable{prog:Program}{w:World}{A:Around}{E:Value→Shared→Prop}{s:Shared}
end
section
variable{prog:Program}{w:World}{A:Around}{E:Value→Shared→Prop}{s:Shared}
end
section
variable{prog:Program}{w:World}{A:Around}{E:Value→Shared→Prop}{s:Shared}
end
section
variable{X:Cx}{Xw:Nat→Hp→Prop}{a b e e2:Expr}{δa δb:DE}{δs:DA}{p pos:Pos}
end
mutual
def zq:D→Bool
 | .non=>true
 | .bl _=>true
 | .int _=>true
 | .str _=>true
 | .tup ds=>pE ds
 | .lst ds=>pE ds
 | .raw _=>false
 | .exc _=>false
 | .scr _=>false
 | .dct _ _=>false
 | .dci _ _=>false
def pE:List D→Bool
 |[]=>true
 |d::ds=>zq d&&pE ds
end
def ql(ρ:aW):Bool:=ρ.all fun x=>match x with
 |some (.ow (.lst _))=>false
 |_=>true
theorem wA{ρ:aW}{i:Nat}{ds:List D}(h:ql ρ=true)(e:ρ[i]? =some (some (.ow (.lst ds)))):False:=by
 have:=List.all_eq_true.mp h _ (List.mem_of_getElem? e)
 cases this
section
variable{K:W.Frag}{F H F' H':Hp}{σ:St}{ρ:aW}{h:Heap}{b:Addr}
theorem OwnAt.dict(S:StE K F H σ ρ)(hd:ql ρ=true)(p:OwnAt σ ρ b):∃o,H b=some o∧((∃x,o= .dT x)∨∃x,o= .dK x):=by
 obtain⟨i,c,h1,h2⟩:=p
 obtain⟨v,h3,a,o,rfl,h4,h5,h6⟩:=S.den i _ h1
 rw[h3] at h2
 cases h2
 refine⟨o,h4,?_⟩
 cases c with
 |lst ds=>exact(wA hd h1).elim
 |dct ks ds=>obtain⟨vs,rfl,_⟩:=h6;exact .inl ⟨_,rfl⟩
 |dci ks ds=>obtain⟨vs,rfl,_⟩:=h6;exact .inr ⟨_,rfl⟩
open Classical in
theorem tE(S:StE K F H σ ρ)(hd:ql ρ=true)(E:Ext (fA σ ρ (refA h (OwnAt σ ρ) H) F) (refA h (OwnAt σ ρ) H) F' H'){a:Addr}{o:HO}(e:F' a=some o)(l7:∀q u,o≠ .frz q u):(if OwnAt σ ρ a then none else F' a)=some o:=by
 rw[if_neg,e]
 intro hp
 obtain⟨o',k1,k2⟩:=OwnAt.dict S hd hp
 have k3:fA σ ρ (refA h (OwnAt σ ρ) H) F a=some (j1 ((h.get? a).getD {cls:= .none,data:= .fields #[]}) o'):=by
  unfold fA refA
  rw[if_pos hp,if_pos hp,k1]
  rfl
 have k4:=E.ff a _ k3
 rw[e] at k4
 rcases k2 with⟨x,rfl⟩ | ⟨x,rfl⟩<;>cases k4<;>exact l7 _ _ rfl
open Classical in
mutual
theorem vE(S:StE K F H σ ρ)(hd:ql ρ=true)(E:Ext (fA σ ρ (refA h (OwnAt σ ρ) H) F) (refA h (OwnAt σ ρ) H) F' H'):∀{d:D}{v:V},zq d=true→Den K F' d v→Den K (fun b=>if OwnAt σ ρ b then none else F' b) d v
 | .non,_,_,q=>q
 | .bl _,_,_,q=>q
 | .int _,_,_,q=>q
 | .str _,_,_,q=>q
 | .tup ds,_,f,⟨a,vs,h1,h2,h3,h4⟩=>⟨a,vs,h1,tE S hd E h2 (fun _ _ z=>nomatch z),i7 S hd E f h3,h4⟩
 | .lst ds,_,f,⟨a,vs,h1,h2,h3,h4⟩=>⟨a,vs,h1,tE S hd E h2 (fun _ _ z=>nomatch z),i7 S hd E f h3,h4⟩
 | .raw _,_,f,_=>by cases f
 | .exc _,_,f,_=>by cases f
 | .scr _,_,f,_=>by cases f
 | .dct _ _,_,f,_=>by cases f
 | .dci _ _,_,f,_=>by cases f
theorem i7(S:StE K F H σ ρ)(hd:ql ρ=true)(E:Ext (fA σ ρ (refA h (OwnAt σ ρ) H) F) (refA h (OwnAt σ ρ) H) F' H'):∀{ds:List D}{vs:List V},pE ds=true→DenL K F' ds vs→DenL K (fun b=>if OwnAt σ ρ b then none else F' b) ds vs
 |[],_,_,q=>q
 |d::ds,_,f,⟨v,r,h1,h2,h3⟩=>by
  unfold pE at f
  rw[Bool.and_eq_true] at f
  exact⟨v,r,h1,vE S hd E f.1 h2,i7 S hd E f.2 h3⟩
end
end
section
variable{X:Cx}{Xw:Nat→Hp→Prop}{e:Expr}{δ:DE}
end
def Ah(δ:DE):DE:=fun ρ=>noex (δ (sY ρ))>>=kA
def z8(τ:DT):DT:=fun ρ=>noex (τ (sY ρ))
section
variable{X:Cx}{Xw:Nat→Hp→Prop}{st:Stmt}{τ:DS}{is:List Nat}
end
section
variable{X:Cx}{Xw:Nat→Hp→Prop}{a b e o:Expr}{δ δa δb δo:DE}{δl:DA}{pos apos bo:Pos}
end
section
variable{X:Cx}{Xw:Nat→Hp→Prop}{e:Expr}{δs:DA}{pos p:Pos}
end
section
variable{X:Cx}{Xw:Nat→Hp→Prop}{a b e o k v k' v':Expr}{δ δa δb δo δk δv δk' δv':DE}{δl δs:DA}{pos apos bo p:Pos}
end
section
variable{X:Cx}{Xw:Nat→Hp→Prop}{a b e:Expr}{δ δa δb:DE}{δs:DA}{pos p:Pos}
end
end L3
namespace L3
open PySem PySem.SetTable
theorem nq{α:Type}[DecidableEq α]:∀{l U:List α},l.Nodup→(∀x∈l,x∈U)→l.length≤U.length
 |[],_,_,_=>Nat.zero_le _
 |a::l,U,hn,h=>by
  have ha:=h a (List.mem_cons_self ..)
  have AA:=List.nodup_cons.mp hn
  have:=nq (l:=l) (U:=U.erase a) AA.2 fun x hx=>(List.mem_erase_of_ne (fun e:x=a=>AA.1 (e▸hx))).mpr (h x (List.mem_cons_of_mem _ hx))
  rw[List.length_erase_of_mem ha] at this
  have:0<U.length:=List.length_pos_of_mem ha
  rw[List.length_cons]
  omega
def iK(m b:Nat):Nat→Nat×Nat
 |0=>(b % (m+1),b)
 |k+1=>leap m (iK m b k).1 (iK m b k).2
def Cc(m i:Nat):Nat:=(i*5+1) % (m+1)
def it(m:Nat):Nat→Nat→Nat
 |0,x=>x
 |n+1,x=>Cc m (it m n x)
theorem kL(m:Nat):∀a b x,it m (a+b) x=it m a (it m b x)
 |0,b,x=>by rw[Nat.zero_add];rfl
 |a+1,b,x=>by rw[Nat.add_right_comm];show Cc m _=Cc m _;rw[kL m a b x]
theorem C4(m b:Nat):∀k,(iK m b k).2=b / 32 ^ k
 |0=>by simp[iK]
 |k+1=>by
  show (iK m b k).2 / 32=_
  rw[C4 m b k,Nat.div_div_eq_div_mul,Nat.pow_succ]
theorem tf{m b:Nat}(hb:b<2 ^ 64):∀k,(iK m b (k+13)).1=it m k (iK m b 13).1
 |0=>by rw[Nat.zero_add];rfl
 |k+1=>by
  rw[Nat.add_right_comm]
  have hq:(iK m b (k+13)).2 / 32=0:=by
   rw[C4]
   refine Nat.div_eq_of_lt ?_
   refine Nat.lt_of_le_of_lt (m:=b / 32 ^ 13) ?_ ?_
   ·rw[Nat.pow_add,Nat.mul_comm,←Nat.div_div_eq_div_mul]
    exact Nat.div_le_self ..
   ·have:b / 32 ^ 13<1:=Nat.div_lt_of_lt_mul (by omega)
    omega
  show ((iK m b (k+13)).1*5+1+(iK m b (k+13)).2 / 32) % (m+1)=Cc m _
  rw[hq,tf hb k]
  rfl
def xu(m:Nat):Prop:=m=7∨m=31∨m=127
def FH(m:Nat):Nat→Nat→List Nat
 |0,_=>[]
 |n+1,x=>x::FH m n (Cc m x)
theorem rZ(m:Nat):∀(n x j:Nat),j∈FH m n x→∃a,a<n∧it m a x=j
 |0,x,j,h=>by cases h
 |n+1,x,j,h=>by
  rcases List.mem_cons.mp h with rfl | h
  ·exact⟨0,by omega,rfl⟩
  ·obtain⟨a,ha,e⟩:=rZ m n (Cc m x) j h
   exact⟨a+1,by omega,by rw[kL m a 1 x];exact e⟩
theorem yy{m:Nat}(hm:xu m):(∀j,j<m+1→j∈FH m (m+1) 0)∧it m (m+1) 0=0:=by
 rcases hm with rfl | rfl | rfl
 ·exact⟨by decide+kernel,by decide+kernel⟩
 ·exact⟨by decide+kernel,by decide+kernel⟩
 ·exact⟨by decide+kernel,by decide+kernel⟩
theorem Hl{m:Nat}(hm:xu m){i j:Nat}(hi:i<m+1)(hj:j<m+1):∃n,n≤m∧it m n i=j:=by
 obtain⟨h1,h2⟩:=yy hm
 obtain⟨a,ha,rfl⟩:=rZ m _ 0 i (h1 i hi)
 obtain⟨b,hb,rfl⟩:=rZ m _ 0 j (h1 j hj)
 by_cases h:a≤b
 ·exact⟨b - a,by omega,by rw[←kL,Nat.sub_add_cancel h]⟩
 ·refine⟨m+1 - a+b,by omega,?_⟩
  rw[←kL,show m+1 - a+b+a=b+(m+1) by omega,kL,h2]
theorem C3(m b k:Nat):(iK m b k).1<m+1:=by
 cases k with
 |zero=>exact Nat.mod_lt _ (by omega)
 |succ k=>exact Nat.mod_lt _ (by omega)
theorem reach{m b:Nat}(hm:xu m)(hb:b<2 ^ 64){j:Nat}(hj:j<m+1):∃k,k≤m+13∧(iK m b k).1=j:=by
 obtain⟨n,hn,e⟩:=Hl hm (C3 m b 13) hj
 exact⟨n+13,by omega,by rw[tf hb,e]⟩
theorem sR(h:Int):bits h<2 ^ 64:=by
 unfold bits
 have h1:=Int.emod_nonneg h (show (2 ^ 64:Int)≠0 by decide)
 have h2:=Int.emod_lt_of_pos h (show (0:Int)<2 ^ 64 by decide)
 omega
def xx(t:SetTable):Nat→Probe→Probe
 |0,p=>p
 |n+1,p=>xx t n (t.advance p)
theorem t6(t:SetTable)(p:Probe):(t.advance p).dummy=p.dummy:=by
 unfold advance
 split<;>rfl
theorem nX(t:SetTable):∀a b p,xx t (a+b) p=xx t b (xx t a p)
 |0,b,p=>by rw[Nat.zero_add];rfl
 |a+1,b,p=>by rw[Nat.add_right_comm];exact nX t a b _
def sK(m:Nat)(h:Int)(k:Nat):Probe:={j:=(iK m (bits h) k).1,more:=runEnd m (iK m (bits h) k).1 - (iK m (bits h) k).1,i:=(iK m (bits h) k).1,perturb:=(iK m (bits h) k).2,dummy:=none}
theorem BJ(m i:Nat):runEnd m i - i≤9:=by
 unfold runEnd
 split<;>omega
theorem vm(t:SetTable):∀(n:Nat) (p:Probe),n≤p.more→xx t n p={p with j:=p.j+n,more:=p.more - n}
 |0,p,_=>rfl
 |n+1,p,h=>by
  show xx t n (t.advance p)=_
  have e:t.advance p={p with j:=p.j+1,more:=p.more - 1}:=by unfold advance;rw[if_pos (by omega)]
  rw[e,vm t n _ (by show n≤p.more - 1;omega)]
  show ({j:=p.j+1+n,more:=p.more - 1 - n,i:=p.i,perturb:=p.perturb,dummy:=p.dummy}:Probe)=_
  rw[Nat.add_assoc,Nat.add_comm 1 n,Nat.sub_sub,Nat.add_comm 1 n]
theorem vn{t:SetTable}{h:Int}{k:Nat}:xx t ((sK t.mask h k).more+1) (sK t.mask h k)=sK t.mask h (k+1):=by
 rw[nX,vm t _ _ (Nat.le_refl _)]
 show t.advance _=_
 unfold advance
 rw[if_neg (show¬(sK t.mask h k).more - (sK t.mask h k).more>0 by rw[Nat.sub_self];exact Nat.lt_irrefl 0)]
 rfl
theorem vo{t:SetTable}{h:Int}:∀k,∃n,n≤10*k∧xx t n (t.probeStart h)=sK t.mask h k
 |0=>⟨0,Nat.zero_le _,rfl⟩
 |k+1=>by
  obtain⟨n,hn,e⟩:=vo (t:=t) (h:=h) k
  have:=BJ t.mask (iK t.mask (bits h) k).1
  refine⟨n+((sK t.mask h k).more+1),?_,by rw[nX,e,vn]⟩
  show n+(runEnd t.mask (iK t.mask (bits h) k).1 - (iK t.mask (bits h) k).1+1)≤_
  omega
theorem sZ{t:SetTable}{hashAt:Nat→Int}{h:Int}(hd:∀j,t.slot j≠ .dummy)(hh:∀j i,t.slot j= .live i→(hashAt i==h)=false):
 ∀(n fuel:Nat) (p:Probe),n<fuel→p.dummy=none→t.slot (xx t n p).j= .empty→∃j,probe.go t hashAt h fuel p=some (.empty j none)∧t.slot j= .empty
 |n,0,p,hn,_,_=>absurd hn (by omega)
 |n,fuel+1,p,hn,hp,he=>by
  unfold probe.go
  cases hs:t.slot p.j with
  |empty=>exact⟨p.j,by rw[hp],hs⟩
  |dummy=>exact absurd hs (hd _)
  |live i=>
   dsimp only
   rw[hh p.j i hs]
   cases n with
   |zero=>rw[show (xx t 0 p).j=p.j from rfl,hs] at he;cases he
   |succ n=>
    have:=sZ hd hh n fuel (t.advance p) (by omega) (by rw[t6];exact hp) he
    simpa using this
theorem nN{t:SetTable}{j i:Nat}(h:t.slot j= .live i):t.place[i]? =some j:=by
 unfold slot at h
 dsimp only at h
 split at h
 ·rename_i e
  cases h
  exact eq_of_beq e
 ·split at h<;>cases h
theorem iQ{t:SetTable}(hd:t.dummies= #[])(j:Nat):t.slot j≠ .dummy:=by
 unfold slot
 dsimp only
 split
 ·exact fun z=>by cases z
 ·split
  ·rename_i e
   rw[hd] at e
   unfold has at e
   simp at e
  ·exact fun z=>by cases z
theorem so{t:SetTable}(hd:t.dummies= #[])(hp:t.place.size≤t.mask):∃j,j<t.mask+1∧t.slot j= .empty:=by
 apply Classical.byContradiction
 intro uv
 have:∀j∈List.range (t.mask+1),j∈t.place.toList:=fun j hj=>by
  cases hs:t.slot j with
  |empty=>exact absurd ⟨j,List.mem_range.mp hj,hs⟩ uv
  |dummy=>exact absurd hs (iQ hd j)
  |live i=>exact List.mem_of_getElem? ((Array.getElem?_toList ..).trans (nN hs))
 have:=nq List.nodup_range this
 rw[List.length_range,Array.length_toList] at this
 omega
theorem sf{t:SetTable}{hashAt:Nat→Int}{h:Int}(hm:xu t.mask)(hd:t.dummies= #[])(hp:t.place.size≤t.mask)(hh:∀i,i<t.place.size→(hashAt i==h)=false):
 ∃j,t.probe hashAt h (t.probeStart h)=some (.empty j none)∧t.slot j= .empty:=by
 obtain⟨j,hj,he⟩:=so hd hp
 obtain⟨k,hk,e⟩:=reach hm (sR h) hj
 obtain⟨n,hn,ea⟩:=vo (t:=t) (h:=h) k
 refine sZ (iQ hd) (fun j i hs=>hh i ?_) n _ _ (by unfold turns;omega) rfl (by rw[ea];show t.slot (iK t.mask (bits h) k).1=_;rw[e];exact he)
 obtain⟨hi,_⟩:=Array.getElem?_eq_some_iff.mp (nN hs)
 exact hi
def vals(o:Array (Option Nat))(n:Nat):List Nat:=(List.range n).filterMap fun j=>o.getD j none
theorem vL{α β:Type}[DecidableEq α]{f g:α→Option β}{a:α}{b:β}(h0:f a=none)(h1:g a=some b):∀{l:List α},l.Nodup→a∈l→(∀x∈l,x≠a→g x=f x)→(l.filterMap g).Perm (b::l.filterMap f)
 |[],_,h,_=>by cases h
 |x::l,hn,h,hg=>by
  have AA:=List.nodup_cons.mp hn
  by_cases e:x=a
  ·subst e
   rw[List.filterMap_cons_some h1,List.filterMap_cons_none h0]
   have:l.filterMap g=l.filterMap f:=kB fun y hy=>hg y (List.mem_cons_of_mem _ hy) fun z=>AA.1 (z▸hy)
   rw[this]
  ·have ih:=vL h0 h1 AA.2 ((List.mem_cons.mp h).resolve_left fun z=>e z.symm) fun y hy=>hg y (List.mem_cons_of_mem _ hy)
   have hx:=hg x (List.mem_cons_self ..) e
   cases hf:f x with
   |none=>rw[List.filterMap_cons_none (hx.trans hf),List.filterMap_cons_none hf];exact ih
   |some y=>rw[List.filterMap_cons_some (hx.trans hf),List.filterMap_cons_some hf];exact(ih.cons y).trans (List.Perm.swap ..)
theorem mL{m:Nat}{o:Array (Option Nat)}{b:Nat}:∀(n fuel k:Nat),n<fuel→(o.getD (iK m b (k+n)).1 (some 0)).isNone=true→∃j,layClean.free m o fuel (iK m b k).1 (iK m b k).2=some j∧(o.getD j (some 0)).isNone=true
 |n,0,k,h,_=>absurd h (by omega)
 |n,fuel+1,k,h,he=>by
  unfold layClean.free
  cases hf:(List.range (runEnd m (iK m b k).1+1 - (iK m b k).1)).find? fun q=>(o.getD ((iK m b k).1+q) (some 0)).isNone with
  |some q=>exact⟨_,rfl,List.find?_some (p:=fun q=>(o.getD ((iK m b k).1+q) (some 0)).isNone) hf⟩
  |none=>
   cases n with
   |zero=>
    have:=List.find?_eq_none.mp hf 0 (List.mem_range.mpr (by unfold runEnd;split<;>omega))
    rw[Nat.add_zero] at this he
    exact absurd he this
   |succ n=>
    exact mL n fuel (k+1) (by omega) (by rw[Nat.add_right_comm];exact he)
theorem rE{o:Array (Option Nat)}{j:Nat}(h:(o.getD j (some 0)).isNone=true):j<o.size∧o[j]? =some none:=by
 rw[Array.getD_eq_getD_getElem?] at h
 cases e:o[j]? with
 |none=>rw[e] at h;cases h
 |some v=>
  rw[e] at h
  cases v with
  |none=>exact⟨(Array.getElem?_eq_some_iff.mp e).1,rfl⟩
  |some v=>cases h
theorem wd{m:Nat}(hm:xu m){o:Array (Option Nat)}{h:Int}{k:Nat}(hs:o.size=m+1)(hp:(vals o (m+1)).Perm (List.range k))(hk:k≤m):
 ∃j,layClean.free m o (turns m) (bits h % (m+1)) (bits h)=some j∧(o.setIfInBounds j (some k)).size=m+1∧(vals (o.setIfInBounds j (some k)) (m+1)).Perm (List.range (k+1)):=by
 obtain⟨j0,Ic,Ea⟩:∃j,j<m+1∧o.getD j none=none:=by
  apply Classical.byContradiction
  intro uv
  have all:∀l:List Nat,(∀j∈l,j<m+1)→(l.filterMap fun j=>o.getD j none).length=l.length:=by
   intro l
   induction l with
   |nil=>exact fun _=>rfl
   |cons a l ih=>
    intro h
    cases e:o.getD a none with
    |none=>exact absurd ⟨a,h a (List.mem_cons_self ..),e⟩ uv
    |some v=>rw[List.filterMap_cons_some (f:=fun j=>o.getD j none) e,List.length_cons,List.length_cons,ih fun j hj=>h j (List.mem_cons_of_mem _ hj)]
  have h1:=hp.length_eq
  rw[vals,all _ fun j hj=>List.mem_range.mp hj,List.length_range,List.length_range] at h1
  omega
 have HU:(o.getD j0 (some 0)).isNone=true:=by
  rw[Array.getD_eq_getD_getElem?] at Ea⊢
  rw[Array.getElem?_eq_getElem (by omega)] at Ea⊢
  rw[Option.getD_some] at Ea⊢
  rw[Ea]
  rfl
 obtain⟨q,hq,e⟩:=reach hm (sR h) Ic
 obtain⟨j,ej,hj⟩:=mL (m:=m) (o:=o) (b:=bits h) q (turns m) 0 (by unfold turns;omega) (by rw[Nat.zero_add,e];exact HU)
 obtain⟨gr,As⟩:=rE hj
 refine⟨j,ej,by rw[Array.size_setIfInBounds];exact hs,?_⟩
 have hP:=vL (f:=fun i=>o.getD i none) (g:=fun i=>(o.setIfInBounds j (some k)).getD i none) (a:=j) (b:=k) (by
  show o.getD j none=none
  rw[Array.getD_eq_getD_getElem?,As]
  rfl) (by
  show (o.setIfInBounds j (some k)).getD j none=some k
  rw[Array.getD_eq_getD_getElem?,Array.getElem?_setIfInBounds_self_of_lt gr]
  rfl) (l:=List.range (m+1)) List.nodup_range (List.mem_range.mpr (by omega)) fun x _ hx=>by
  show (o.setIfInBounds j (some k)).getD x none=o.getD x none
  rw[Array.getD_eq_getD_getElem?,Array.getD_eq_getD_getElem?,Array.getElem?_setIfInBounds_ne (fun z=>hx z.symm)]
 refine hP.trans ((hp.cons k).trans ?_)
 rw[List.range_succ (n:=k)]
 exact List.perm_append_comm (l₁:=[k])
theorem tu{m:Nat}(hm:xu m):∀(hs:List Int) (o:Array (Option Nat)) (k:Nat),o.size=m+1→(vals o (m+1)).Perm (List.range k)→k+hs.length≤m→
 ∃o',(hs.foldl (init:=some (o,k)) fun acc h=>do
  let (owner,k)←acc
  let j←layClean.free m owner (turns m) (bits h % (m+1)) (bits h)
  pure (owner.setIfInBounds j (some k),k+1))=some (o',k+hs.length)∧(vals o' (m+1)).Perm (List.range (k+hs.length))
 |[],o,k,h1,h2,h3=>⟨o,rfl,h2⟩
 |h::hs,o,k,h1,h2,h3=>by
  rw[List.length_cons] at h3
  obtain⟨j,ej,e1,e2⟩:=wd hm (h:=h) h1 h2 (by omega)
  obtain⟨o',e3,e4⟩:=tu hm hs _ (k+1) e1 e2 (by omega)
  rw[List.length_cons,show k+(hs.length+1)=k+1+hs.length by omega]
  refine⟨o',?_,e4⟩
  rw[List.foldl_cons,←e3]
  congr 1
  show (layClean.free m o (turns m) (bits h % (m+1)) (bits h)>>=_)=_
  rw[ej]
  rfl
theorem sA(m:Nat):vals (Array.replicate (m+1) none) (m+1)=[]:=by
 unfold vals
 refine List.filterMap_eq_nil_iff.mpr fun j hj=>?_
 rw[Array.getD_eq_getD_getElem?,Array.getElem?_replicate]
 split<;>rfl
theorem yj{m f mv:Nat}{led pl:Bool}(hm:xu m){hs:Array Int}(hl:hs.size≤m):
 ∃t order,laid m f mv led pl hs=some (t,order)∧t.mask=m∧t.dummies= #[]∧t.place.size=hs.size∧order.toList.Perm (List.range hs.size):=by
 obtain⟨o,e1,e2⟩:=tu hm hs.toList (Array.replicate (m+1) none) 0 (by simp) (by rw[sA];exact .refl _) (by rw[Nat.zero_add,Array.length_toList];exact hl)
 rw[Nat.zero_add,Array.length_toList] at e1 e2
 have e3:layClean m hs=some o:=by
  unfold layClean
  rw[←Array.foldl_toList,e1]
  rfl
 have e4:((List.range (m+1)).filterMap fun j=>(o.getD j none).map (j,·)).map (·.2)=vals o (m+1):=by
  unfold vals
  rw[List.map_filterMap]
  refine kB fun j _=>?_
  cases o.getD j none<;>rfl
 refine⟨_,_,by unfold laid;rw[e3];rfl,rfl,rfl,?_,?_⟩
 ·show ((((List.range (m+1)).filterMap fun j=>(o.getD j none).map (j,·)).map (·.1)).toArray).size=_
  rw[List.size_toArray,List.length_map,←List.length_map (f:=(·.2)),e4,e2.length_eq,List.length_range]
 ·show ((((List.range (m+1)).filterMap fun j=>(o.getD j none).map (j,·)).map (·.2)).toArray).toList.Perm _
  rw[e4]
  exact e2
def TabOk(t:SetTable)(n:Nat):Prop:=xu t.mask∧t.place.size=n∧t.dummies= #[]∧5*n<3*t.mask
theorem TabOk.fits{t:SetTable}{n:Nat}(h:TabOk t n):t.fits n=true:=by
 obtain⟨_,h2,h3,h4⟩:=h
 unfold SetTable.fits fill
 rw[h3,h2]
 simp
 omega
def SetH(h:Heap)(a:Addr)(xs:List (Int×Value)):Prop:=∃o es ep t,h.get? a=some o∧o.ExactSet∧o.data= .set es ep t∧es.toList.Perm xs∧TabOk t es.size
theorem gD{α:Type}(xs:Array α)(p:Nat)(x:α):(insertAt xs p x).size=xs.size+1:=by
 have:=(insertAt_perm xs p x).length_eq
 simpa using this
section
variable{prog:Program}{w:World}{A:Around}{E:Value→Shared→Prop}{s:Shared}
theorem ib{ks:List Int}{b:Addr}{Q:Bool→Shared→Prop}(hk:IsTupleKey (intKind prog w) s.heap ks b)(h:Q true s):wpAny (model prog w) A (hashByValue 8 (.ref b)) Q E s:=by
 have hT:=hk.typeIs
 obtain⟨o,items,n,ho,_,hd,hi⟩:=hk
 unfold hashByValue
 refine wpAny_bind (wpAny_specialOf hT F.slot_tuple_hash.lookup ?_)
 dsimp only
 refine wpAny_bind (wpAny_seqItems ho hd ?_)
 refine wpAny_bind ?_
 show wpAny _ _ (forIn items _ _) _ _ s
 rw[←Array.forIn_toList]
 refine wpAny_forIn_list _ (fun rest r s'=>r.1=none∧s'=s∧∃yi,ItemsAre (intKind prog w) yi rest) _ ?_ ?_ _ _ ⟨rfl,rfl,ks,hi⟩
 ·rintro v rest r s' ⟨hr,rfl,yi,hl⟩
  cases hl with
  | @cons k v II vs h1 h2=>
    have hv:hashByValue 7 v=pure true:=by
     cases v<;>first | rfl | (exact absurd h1 (by simp[intKind,Value.isInt]))
    rw[hv]
    refine wpAny_bind (wpAny_pure ?_)
    simp only[Bool.not_true,Bool.false_eq_true,if_false]
    exact wpAny_pure ⟨rfl,rfl,_,h2⟩
 ·rintro⟨r1,r2⟩ s' ⟨hr,rfl,_⟩
  simp only at hr
  subst hr
  exact wpAny_pure h
theorem mj{a b:Addr}{hk:Int}{o:Obj}{es:Array (Int×Value)}{ep:Nat}{t:SetTable}{Q:SetFound→Shared→Prop}(ho:s.heap.get? a=some o)(hd:o.data= .set es ep t)(ht:TabOk t es.size)(AB:∀e∈es.toList,e.1≠hk)
 (h:∀j,Q (.free j false) s):wpAny (model prog w) A (setSearch a (.ref b) hk true) Q E s:=by
 have hf:=ht.fits
 obtain⟨hm,oj,EV,h5⟩:=ht
 have H9:t.gaveWay=false:=by
  unfold SetTable.gaveWay
  rcases hm with e | e | e<;>rw[e]<;>rfl
 obtain⟨j,ej,hj⟩:=sf (t:=t) (hashAt:=fun i=>(es[i]?.map (·.1)).getD 0) (h:=hk) hm EV (by omega) fun i hi=>by
  rw[Array.getElem?_eq_getElem (by omega)]
  refine beq_eq_false_iff_ne.mpr fun z=>AB (es[i]'(by omega)) (by rw[←Array.getElem_toList];exact List.getElem_mem _) z
 unfold setSearch setSearchFrom
 refine wpAny_bind (wpAny_setState_of ho hd hf ?_)
 dsimp only
 rw[H9]
 simp only[Bool.false_eq_true,↓reduceIte]
 refine wpAny_bind (wpAny_pure ?_)
 split
 ·rename_i met heq
  have e:met= .empty j none:=Option.some.inj (heq.symm.trans ej)
  subst e
  exact wpAny_pure (h j)
 ·rename_i uv
  exact absurd ej (uv _)
theorem qJ{a:Addr}{o:Obj}{es:Array (Int×Value)}{ep n:Nat}{t:SetTable}{Q:Unit→Shared→Prop}(ho:s.heap.get? a=some o)(hex:o.ExactSet)(hd:o.data= .set es ep t)(hf:t.fits es.size=true)(hm:xu (sizeAbove n - 1))(h5:5*es.size<3*(sizeAbove n - 1))
 (h:∀h',Heap.SameBut a s.heap h'→SetH h' a es.toList→Q () {s with heap:=h'}):wpAny (model prog w) A (setRelay a n) Q E s:=by
 obtain⟨t',order,e1,e2,e3,e4,e5⟩:=yj (m:=sizeAbove n - 1) (f:=t.finger) (mv:=t.movedTo (sizeAbove n - 1)) (led:=t.led) (pl:=t.plain) hm (hs:=es.map (·.1)) (by rw[Array.size_map];omega)
 rw[Array.size_map] at e4 e5
 have s9:(order.filterMap (es[·]?)).toList.Perm es.toList:=by
  rw[Array.toList_filterMap]
  have:=e5.filterMap (fun i=>es[i]?)
  rwa [filterMap_getElem?_range] at this
 have hsz:(order.filterMap (es[·]?)).size=es.size:=by rw[←Array.length_toList,s9.length_eq,Array.length_toList]
 have HN:sizeAbove n≤128:=by rcases hm with e | e | e<;>omega
 unfold setRelay
 refine wpAny_bind (wpAny_setState_of ho hd hf ?_)
 dsimp only
 rw[if_neg (by rw[sizeLine_eq];omega)]
 have hr:t.relaid (es.map (·.1)) n=some (t',order):=e1
 rw[hr]
 refine wpAny_bind (wpAny_of_eq (a:=(order.filterMap (es[·]?),t')) ?_ ?_)
 ·show (if ((order.filterMap (es[·]?)).size !=es.size)=true then(do (unsupported "internal:set-table-lost-an-element":Sem PUnit);pure (order.filterMap (es[·]?),t')) else pure (order.filterMap (es[·]?),t'))=_
  rw[hsz,bne_self_eq_false]
  rfl
 ·dsimp only
  refine wpAny_storeSet_of ho hd (h _ (Heap.SameBut.update ..) ?_) (by rw[hsz,sizeLine_eq];rcases hm with e | e | e<;>omega)
  have hg:(s.heap.update a (Obj.putSet (order.filterMap (es[·]?)) t')).get? a=some {o with data:= .set (order.filterMap (es[·]?)) (ep+1) t'}:=by
   have:=Heap.get?_update_self (Obj.putSet (order.filterMap (es[·]?)) t') ho (by rw[putSet_of _ t' hd];rfl)
   rw[putSet_of _ t' hd] at this;exact this
  exact⟨_,_,ep+1,t',hg,hex,rfl,s9,by rw[e2];exact hm,by rw[hsz];exact e4,e3,by rw[hsz,e2];exact h5⟩
theorem xG:sizeAbove (grown 5)=32:=by decide
theorem vi:sizeAbove (grown 19)=128:=by decide
theorem iP{a b:Addr}{ks:List Int}{hk:Int}{xs:List (Int×Value)}{Q:Bool→Shared→Prop}(Au:IsTupleKey (intKind prog w) s.heap ks b)(hS:SetH s.heap a xs)(AB:hk∉xs.map (·.1))(hl:xs.length<64)
 (h:∀h',Heap.SameBut a s.heap h'→SetH h' a (xs++[(hk, .ref b)])→Q true {s with heap:=h'}):wpAny (model prog w) A (setAddHashed a (.ref b) hk) Q E s:=by
 obtain⟨o,es,ep,t,ho,hex,hd,hp,ht⟩:=hS
 have hf:=ht.fits
 have hsz:es.size=xs.length:=by rw[←Array.length_toList,hp.length_eq]
 unfold setAddHashed setAddHashedIn
 refine wpAny_holding (wpAny_bind (wpAny_setState_of ho hd hf ?_))
 dsimp only
 have HP:byScan (.ref b) es=false:=rfl
 rw[HP]
 simp only[Bool.false_eq_true,↓reduceIte]
 refine wpAny_bind (mj ho hd ht (fun e he z=>AB (List.mem_map.mpr ⟨e,hp.mem_iff.mp he,z⟩)) fun j=>?_)
 obtain⟨hm,oj,EV,h5⟩:=ht
 dsimp only
 refine wpAny_bind (wpAny_setState_of ho hd hf ?_)
 dsimp only
 have AH:∀p:Bool,({(t.put j).1 with plain:=p}:SetTable).mask=t.mask∧({(t.put j).1 with plain:=p}:SetTable).place.size=es.size+1∧({(t.put j).1 with plain:=p}:SetTable).dummies= #[]:=fun p=>by
  refine⟨rfl,?_,?_⟩
  ·show (insertAt t.place (below t.place j) j).size=_
   rw[gD,oj]
  ·show (if has t.dummies j then eraseAt t.dummies (below t.dummies j) else t.dummies)= #[]
   rw[EV]
   rfl
 have fin:∀p:Bool,wpAny (model prog w) A (do
  storeSet a (insertAt es (t.put j).2 (hk, .ref b)) {(t.put j).1 with plain:=p}
  if (!false&&({(t.put j).1 with plain:=p}:SetTable).tooFull)=true then do
      setRelay a (grown (es.size+1))
      pure true
   else pure true) Q E s:=fun p=>by
  obtain⟨q1,q2,q3⟩:=AH p
  generalize ({(t.put j).1 with plain:=p}:SetTable)=t1 at q1 q2 q3
  have C1:=gD es (t.put j).2 (hk,Value.ref b)
  have Fd:(insertAt es (t.put j).2 (hk,Value.ref b)).toList.Perm (xs++[(hk, .ref b)]):=by
   refine(insertAt_perm es _ _).trans ?_
   rw[Array.toList_push]
   exact hp.append_right _
  generalize insertAt es (t.put j).2 (hk,Value.ref b)=zw at C1 Fd
  have hg:(s.heap.update a (Obj.putSet zw t1)).get? a=some {o with data:= .set zw (ep+1) t1}:=by
   have:=Heap.get?_update_self (Obj.putSet zw t1) ho (by rw[putSet_of _ t1 hd];rfl)
   rw[putSet_of _ t1 hd] at this;exact this
  have xE:=Heap.SameBut.update s.heap a (Obj.putSet zw t1)
  have Je:t.mask≤127:=by rcases hm with e | e | e<;>omega
  refine wpAny_bind (wpAny_storeSet_of ho hd ?_ (by rw[sizeLine_eq];omega))
  have vV:t1.fill=es.size+1:=by unfold fill;rw[q2,q3];rfl
  by_cases fm:t1.tooFull=true
  ·rw[fm]
   simp only[Bool.not_false,Bool.and_self,↓reduceIte]
   unfold tooFull at fm
   rw[vV,q1] at fm
   have fm:t.mask*3≤(es.size+1)*5:=of_decide_eq_true fm
   have HW:t1.fits zw.size=true:=by
    unfold SetTable.fits
    rw[vV,q2,q1,C1]
    simp
    omega
   have hr:xu (sizeAbove (grown (es.size+1)) - 1)∧5*zw.size<3*(sizeAbove (grown (es.size+1)) - 1):=by
    rw[C1]
    rcases hm with e | e | e
    ·have:es.size=4:=by omega
     rw[this,xG]
     exact⟨.inr (.inl rfl),by decide⟩
    ·have:es.size=18:=by omega
     rw[this,vi]
     exact⟨.inr (.inr rfl),by decide⟩
    ·omega
   refine wpAny_bind (qJ (o:={o with data:= .set zw (ep+1) t1}) hg hex rfl HW hr.1 hr.2 fun h' Ed Ap=>wpAny_pure (h h' (xE.trans Ed) ?_))
   obtain⟨o2,Hq,Ho,t2,k1,k2,k3,k4,k5⟩:=Ap
   exact⟨o2,Hq,Ho,t2,k1,k2,k3,k4.trans Fd,k5⟩
  ·have fm:t1.tooFull=false:=by simpa using fm
   rw[fm]
   simp only[Bool.not_false,Bool.and_false,Bool.false_eq_true,↓reduceIte]
   unfold tooFull at fm
   rw[vV,q1] at fm
   have fm:¬t.mask*3≤(es.size+1)*5:=of_decide_eq_false fm
   exact wpAny_pure (h _ xE ⟨_,zw,ep+1,t1,hg,hex,rfl,Fd,by rw[q1];exact hm,by rw[q2,C1],q3,by rw[C1,q1];omega⟩)
 have f1:=fin (t.put j).1.plain
 split
 ·refine wpAny_bind (ib Au ?_)
  exact f1
 ·refine wpAny_bind (wpAny_pure ?_)
  exact f1
end
theorem SetH.at{h h':Heap}{a:Addr}{xs:List (Int×Value)}(x:SetH h a xs)(e:∀o,h.get? a=some o→h'.get? a=some o):SetH h' a xs:=
 let ⟨o,es,ep,t,ho,r⟩:=x
 ⟨o,es,ep,t,e o ho,r⟩
theorem jr{prog:Program}{w:World}{h h':Heap}{ks:List Int}{b:Addr}(x:IsTupleKey (intKind prog w) h ks b)(e:∀o,h.get? b=some o→h'.get? b=some o):IsTupleKey (intKind prog w) h' ks b:=
 let ⟨o,items,n,ho,r⟩:=x
 ⟨o,items,n,e o ho,r⟩
section
variable{prog:Program}{w:World}{A:Around}{R:Result→Shared→Prop}{I:Addr}{fp wr:List Addr}{G:Array GenState→Array GenState→Prop}{n:Nat}{P:Nat→Value→Prop}{St:Nat→Shared→Prop}
def wb(prog:Program)(w:World)(ks:Nat→List Int)(ad:Nat→Addr)(i:Nat):List (Int×Value):=(List.range i).map fun j=>(tupleKeyHash (intKind prog w) (ks j), .ref (ad j))
theorem xc(W:WalksS prog w A.in1 I fp wr G n P St)(S:Addr)(D8:S∉fp)(ks:Nat→List Int)(ad:Nat→Addr)(Fj:∀i v,P i v→v= .ref (ad i))(l7:∀i,i<n→ad i≠S∧ad i∉wr)(hu:A.in1.units<cLine)(hn:n≤64)
 (xW:((List.range n).map fun i=>tupleKeyHash (intKind prog w) (ks i)).Nodup):∀(k i:Nat) (s:Shared),n - i=k→i≤n→St i s→(∀j,j<n→IsTupleKey (intKind prog w) s.heap (ks j) (ad j))→SetH s.heap S (wb prog w ks ad i)→
  (∀s',Moved (S::wr) G s s'→SetH s'.heap S (wb prog w ks ad n)→R (.ok (.ret .none)) s')→codeAny (model prog w) A (.builtin "set.update.loop" ⟨[.ref S, .ref I],[]⟩) R s:=by
 have Gx:S∉wr:=fun h=>D8 (W.sub _ h)
 have v3:∀b∈wr,b∈S::wr:=fun b hb=>List.mem_cons_of_mem _ hb
 intro k
 induction k with
 |zero=>
  intro i s hk hi zK hT hS hR
  obtain rfl:i=n:=by omega
  refine codeAny_builtin PyProof.Rows.F.entry_set_update_loop ?_
  rw[Around.under_plainId PyProof.Rows.F.plain_set_update_loop _]
  show wpAny _ A.in1 (pyNext (.ref I)>>=_) _ _ s
  refine wpAny_bind (W.done s _ _ zK fun s' hm=>?_)
  show wpAny _ A.in1 (ret Value.none) _ _ s'
  exact wpAny_pure (hR s' (hm.mono v3) (hS.at fun o e=>hm.heap S o Gx e))
 |succ k ih=>
  intro i s hk hi zK hT hS hR
  have gr:i<n:=by omega
  refine codeAny_builtin PyProof.Rows.F.entry_set_update_loop ?_
  rw[Around.under_plainId PyProof.Rows.F.plain_set_update_loop _]
  show wpAny _ A.in1 (pyNext (.ref I)>>=_) _ _ s
  refine wpAny_bind (W.item i s _ _ gr zK fun v s' hP Fh hm=>?_)
  have ev:=Fj i v hP
  subst ev
  have Ap:SetH s'.heap S (wb prog w ks ad i):=hS.at fun o e=>hm.heap S o Gx e
  have EL:∀j,j<n→IsTupleKey (intKind prog w) s'.heap (ks j) (ad j):=fun j hj=>jr (hT j hj) fun o e=>hm.heap _ o (l7 j hj).2 e
  show wpAny _ A.in1 (holding [Value.ref (ad i)] (setAdd S (.ref (ad i)))>>=_) _ _ s'
  refine wpAny_bind (wpAny_holding ?_)
  unfold setAdd
  refine wpAny_holding (wpAny_bind (wpAny_pyHash_tuple hu (EL i gr) ?_))
  refine iP (s:={s' with toks:=s'.toks+((ks i).length+1)}) (EL i gr) Ap (fun CP=>?_) (by unfold wb;rw[List.length_map,List.length_range];omega) fun h' xE Gw=>?_
  ·unfold wb at CP
   rw[List.map_map] at CP
   obtain⟨j,hj,e⟩:=List.mem_map.mp CP
   have hj:=List.mem_range.mp hj
   have h1:((List.range n).map fun i=>tupleKeyHash (intKind prog w) (ks i))[j]? =some (tupleKeyHash (intKind prog w) (ks j)):=by rw[List.getElem?_map,List.getElem?_range (by omega)];rfl
   have h2:((List.range n).map fun i=>tupleKeyHash (intKind prog w) (ks i))[i]? =some (tupleKeyHash (intKind prog w) (ks j)):=by rw[List.getElem?_map,List.getElem?_range gr];exact congrArg some (show _=_ from e).symm
   have:=(List.getElem?_inj (i:=j) (j:=i) (by simp;omega) xW).mp (h1.trans h2.symm)
   omega
  have HH:SetH h' S (wb prog w ks ad (i+1)):=by
   unfold wb at Gw⊢
   rw[List.range_succ,List.map_append]
   exact Gw
  have FJ:∀b o,b≠S→s'.heap.get? b=some o→h'.get? b=some o:=fun b o hb e=>(xE.2 b hb).trans e
  refine wpAny_pure ⟨plainId_quiet PyProof.Rows.F.plain_set_update_loop _,ih (i+1) _ (by omega) gr (W.frame _ s' _ _ Fh (Nat.le_add_right ..) fun b hb o e=>FJ b o (fun z=>D8 (z▸hb)) e) (fun j hj=>jr (EL j hj) fun o e=>FJ _ o (l7 j hj).1 e) HH fun DK E5 EK=>?_⟩
  exact hR DK (Moved.trans W.gtrans ((hm.mono v3).then_heap (Nat.le_add_right ..) fun b o hb e=>FJ b o (fun z=>hb (z▸List.mem_cons_self ..)) e) E5) EK
end
section
variable{prog:Program}{w:World}{A:Around}{E:Value→Shared→Prop}{s:Shared}
set_option maxHeartbeats 3200000 in
theorem l5{l:Addr}{items:Array Value}{ks:Nat→List Int}{ad:Nat→Addr}{Q:Value→Shared→Prop}(hh:A.handled=none)(hu:A.units+8<cLine)(hl:s.heap.IsList l items)(hi:∀i,i<items.size→items[i]? =some (.ref (ad i)))
 (hT:∀j,j<items.size→IsTupleKey (intKind prog w) s.heap (ks j) (ad j))(hn:items.size≤64)(xW:((List.range items.size).map fun i=>tupleKeyHash (intKind prog w) (ks i)).Nodup)
 (h:∀(h':Heap) (tk:Nat),SetH h' s.heap.objs.size (wb prog w ks ad items.size)→(∀b o,b<s.heap.objs.size→s.heap.get? b=some o→h'.get? b=some o)→Q (.ref s.heap.objs.size) {s with heap:=h',toks:=tk}):
 wpAny (model prog w) A (call (.type "set") [.ref l]) Q E s:=by
 obtain⟨c,tl,Il⟩:=F.called_set.mro
 have GJ:=F.called_set.made
 have v3:=F.called_set.sub
 refine wpAny_call (codeAny_of_tree ?_)
 show wpAny _ _ (callAny (.type "set") _) _ _ _
 refine wpAny_pure ⟨Code.quiet_builtin _ (by decide+kernel),codeAny_builtin F.entry_type_call ?_⟩
 rw[Around.under_plain (weight_type_call_type "set" [.ref l] []) rfl]
 have h1:=F.called_set.notType
 have h2:=F.called_set.canCreate
 have Ja:=F.typeCall_set_1 (.ref l)
 repeat (any_goals (first | assumption | wp_step))
 refine codeAny_mono (code_set_new_1 (.ref l) (E:=E) (Q₁:=fun obj s₁=>∃led:Bool,obj= .ref s.heap.objs.size∧s₁={s with heap:=s.heap.push {cls:= .type "set",dict:=none,data:= .set #[] 0 (.fresh 0 0 led)} }) fun led=>⟨led,rfl,rfl⟩) fun r s₁ hr=>?_
 cases r with
 |error e=>exact hr
 |ok fl=>
  cases fl with
  |ret obj=>
   obtain⟨led,rfl,rfl⟩:=hr
   have hS:(s.heap.push {cls:= .type "set",dict:=none,data:= .set #[] 0 (.fresh 0 0 led)}).get? s.heap.objs.size=some {cls:= .type "set",dict:=none,data:= .set #[] 0 (.fresh 0 0 led)}:=Heap.get?_push_size _ rfl
   have HI:Shared.TypeIs {s with heap:=s.heap.push {cls:= .type "set",dict:=none,data:= .set #[] 0 (.fresh 0 0 led)} } (.ref s.heap.objs.size) "set":=⟨_,hS,rfl⟩
   have Jc:=F.called_set.init.lookup
   have Gy:=F.called_set.init.bind (.ref s.heap.objs.size)
   repeat (any_goals (first | assumption | wp_step))
   refine codeAny_mono (codeAny_call_builtin (R:=wants (fun r s₂=>r= .none∧∃h' tk,s₂={s with heap:=h',toks:=tk}∧SetH h' s.heap.objs.size (wb prog w ks ad items.size)∧(∀b o,b<s.heap.objs.size→s.heap.get? b=some o→h'.get? b=some o)) E) F.called_set.init.plain F.entry_set_init (check_set_init_1 HI ?_)) fun r₂ s₂ Fg=>?_
   ·obtain⟨ol,GO,CK,nl,Gz⟩:=hl
    obtain⟨IL,Dh,G6,Be⟩:=ol
    simp only at CK Gz
    subst CK;subst Gz
    have Fc:(s.heap.push {cls:= .type "set",dict:=none,data:= .set #[] 0 (.fresh 0 0 led)}).get? l=some {cls:= .type "list",dict:=Dh,data:= .seq items nl,slots:=Be}:=Heap.get?_push_of_some _ GO
    have Iv:=F.sub_list_set
    have Iu:=F.sub_list_frozenset
    have l7:(Value.type "list"==Value.type "dict")=false:=by decide
    have zI:(s.heap.push {cls:= .type "set",dict:=none,data:= .set #[] 0 (.fresh 0 0 led)}).IsList l items:=⟨_,Fc,rfl,nl,rfl⟩
    unfold Builtin.«set.__init__» noKeywords Builtin.Frozenset.updateFrom
    generalize HC:pyIter=PI
    wp_walk
    subst HC
    refine wpAny_pyIter_list zI (wpAny_bind (wpAny_runValue ?_))
    have GH:l<s.heap.objs.size:=Heap.lt_size GO
    have Ia:A.in1.in1.in1.handled=none:=by simp[hh]
    have E7:l≠(s.heap.push {cls:= .type "set",dict:=none,data:= .set #[] 0 (.fresh 0 0 led)}).objs.size:=by
     rw[Heap.size_push];exact Nat.ne_of_lt (Nat.lt_succ_of_lt GH)
    have D8:s.heap.objs.size∉[(s.heap.push {cls:= .type "set",dict:=none,data:= .set #[] 0 (.fresh 0 0 led)}).objs.size,l]:=by
     rw[Heap.size_push];simp only[List.mem_cons,List.mem_singleton,List.not_mem_nil,or_false,not_or]
     exact⟨Nat.ne_of_lt (Nat.lt_succ_self _),Nat.ne_of_gt GH⟩
    have EO:∀i,i<items.size→ad i<s.heap.objs.size:=fun i xD=>let ⟨o,_,_,ho,_⟩:=hT i xD;Heap.lt_size ho
    refine xc ((Walks.list Ia _ l E7 items).toS) s.heap.objs.size D8 ks ad (fun i v hv=>?_) (fun i xD=>?_) ?_ hn xW (items.size - 0) 0 _ (by omega) (Nat.zero_le _) ⟨⟨_,Heap.get?_push_size _ rfl,rfl,rfl⟩,(zI.push _)⟩ (fun j hj=>jr (hT j hj) fun o e=>Heap.get?_push_of_some _ (Heap.get?_push_of_some _ e)) ?hS0 ?hR
    case hS0=>exact⟨_,#[],0,_,Heap.get?_push_of_some _ hS,⟨rfl,rfl,rfl⟩,rfl, .refl _, .inl rfl,rfl,rfl,by show 5*0<3*7;decide⟩
    case hR=>
     intro s' hm Ap
     obtain⟨h',g',d',IW,FI⟩:=s'
     obtain rfl:g'=s.gens:=hm.gens
     obtain rfl:d'=s.drawn:=hm.drawn
     obtain rfl:FI=s.os:=hm.os
     show wpAny _ _ _ _ _ _
     refine wpAny_pure ?_
     show wpAny _ _ (ret Value.none) _ _ _
     refine wpAny_pure ⟨rfl,h',IW,rfl,Ap,fun b o hb e=>?_⟩
     have HK:b≠s.heap.objs.size:=Nat.ne_of_lt hb
     have CI:b≠(s.heap.push {cls:= .type "set",dict:=none,data:= .set #[] 0 (.fresh 0 0 led)}).objs.size:=by
      rw[Heap.size_push];exact Nat.ne_of_lt (Nat.lt_succ_of_lt hb)
     exact hm.heap b o (by simp only[List.mem_cons,List.mem_singleton,List.not_mem_nil,or_false,not_or];exact⟨HK,CI⟩) (Heap.get?_push_of_some _ (Heap.get?_push_of_some _ e))
    ·have gr:i<items.size:=(Array.getElem?_eq_some_iff.mp hv).1
     exact Option.some.inj ((show items[i]? =some v from hv).symm.trans (hi i gr))
    ·have:=EO i xD
     refine⟨Nat.ne_of_lt this,?_⟩
     rw[Heap.size_push]
     simp only[List.mem_cons,List.mem_singleton,List.not_mem_nil,or_false]
     exact Nat.ne_of_lt (Nat.lt_succ_of_lt this)
    ·show A.units+1+1+1<cLine
     omega
   ·cases r₂ with
    |error e=>exact Fg
    |ok Hu=>
     cases Hu with
     |ret r=>
      obtain⟨rfl,h',tk,rfl,Ap,B8⟩:=Fg
      repeat (any_goals (first | assumption | wp_step))
      exact h _ _ Ap B8
     |_=>exact Fg.elim
  |_=>exact hr.elim
end
end L3
namespace L3
open PySem PySem.Spec L2 HT
open PyProof.Rows hiding St
def ik:D→M D
 | .lst ds=>match gN ds with
   |some ks=>if ks.length≤64∧(ks.map mN).Nodup then M.ret (.int ds.length) else M.stuck
   |none=>M.stuck
 |_=>M.stuck
theorem items_int{P:Program}{w:World}:∀{us:List Value}{ns:List Int},IntsAre us ns→ItemsAre (intKind P w) ns us
 |_,_, .nil=> .nil
 |_,_, .cons n t h=> .cons (intKind_is _ _ _ _) (items_int h)
def D2:V→Addr
 | .ref a=>a
 |_=>0
theorem qz{X:Cx}{pins:List (Addr×Obj)}{σ:St}{H:Hp}{s:Shared}(I:Inv X pins σ H s){vs:List V}{aG:List Value}{ks:List (List Int)}(hr:b6 H vs ks)(rv:Vals vs aG){i:Nat}(hi:i<aG.toArray.size):
 aG.toArray[i]? =some (.ref (D2 (vs.getD i .non)))∧IsTupleKey (intKind X.prog X.w) s.heap (ks.getD i []) (D2 (vs.getD i .non)):=by
 have hl:=rv.length
 have xD:i<aG.length:=by simpa using hi
 obtain⟨a,e1,e2⟩:=lH hr (i:=i) (by omega)
 have r:=jt i rv (by omega)
 rw[e1] at r⊢
 have r:aG.getD i Value.none= .ref a:=r
 refine⟨?_,?_⟩
 ·rw[List.getD_eq_getElem?_getD,List.getElem?_eq_getElem xD,Option.getD_some] at r
  rw[List.getElem?_toArray,List.getElem?_eq_getElem xD,r]
  rfl
 ·obtain⟨us,ru,pt,_⟩:=I.tuple (SqT.of (K:=X.K) e2)
  obtain⟨o,q1,q2,m,q3⟩:=pt
  exact⟨o,us.toArray,m,q1,q2,q3,by simpa using items_int (intsAre_of ru)⟩
section
variable{X:Cx}{Xw:Nat→Hp→Prop}{e:Expr}{δ:DE}{pos se p p2:Pos}
theorem xf{pins:List (Addr×Obj)}{σ:St}{H:Hp}{s:Shared}{Q:Value→Shared→Prop}{E:Value→Shared→Prop}(I:Inv X pins σ H s)(hc:X.calm=true)(hu:X.A.units+64<cLine){a:Addr}{ws:List V}{ks:List (List Int)}(hl:SqL X.K H a ws)(hr:b6 H ws ks)(hn:ks.length≤64)(xW:(ks.map mN).Nodup)
 (h:∀h' tk,SetH h' s.heap.objs.size (wb X.prog X.w (fun i=>ks.getD i []) (fun i=>D2 (ws.getD i .non)) ks.length)→(∀b o,s.heap.get? b=some o→h'.get? b=some o)→Q (.ref s.heap.objs.size) {s with heap:=h',toks:=tk}):
 wpAny (model X.prog X.w) X.A (call (.type "set") [.ref a]) Q E s:=by
 obtain⟨aG,rv,pl,hz⟩:=I.list hl
 have h1:=iM hr
 have h2:=rv.length
 have hsz:aG.toArray.size=ks.length:=by rw[List.size_toArray];omega
 refine l5 (items:=aG.toArray) (ks:=fun i=>ks.getD i []) (ad:=fun i=>D2 (ws.getD i .non)) (I.ok.hd hc) (by omega) pl.isList (fun i hi=>(qz I hr rv hi).1) (fun i hi=>(qz I hr rv hi).2) (by omega) ?_ fun h' tk hS hk=>?_
 ·rw[hsz]
  have e:((List.range ks.length).map fun i=>tupleKeyHash (intKind X.prog X.w) (ks.getD i []))=ks.map mN:=by
   refine List.ext_getElem (by simp) fun i h1 h2=>?_
   have hi:i<ks.length:=by simpa using h1
   rw[List.getElem_map,List.getElem_map,List.getElem_range,List.getD_eq_getElem?_getD,List.getElem?_eq_getElem hi]
   rfl
  rw[e]
  exact xW
 ·rw[hsz] at hS
  exact h h' tk hS fun b o q=>hk b o (Heap.lt_size q) q
theorem uT(hc:X.calm=true)(hu:X.A.units+64<cLine)(hg:Gl X "len")(hm:X.mg "len"=none)(HZ:Gl X "set")(Ay:X.mg "set"=none)(hb:bootBuiltins "len"=some (.builtin "len"))(CI:bootBuiltins "set"=some (.type "set"))(ha:PD X Xw e δ)
 (GA:starEach [e] X.env=[(false,eval e X.env)]:=by rfl)(he:starEach [.Call (.Name "set" p2) [e] [] se] X.env=[(false,eval (.Call (.Name "set" p2) [e] [] se) X.env)]:=by rfl):
 PD X Xw (.Call (.Name "len" p) [.Call (.Name "set" p2) [e] [] se] [] pos) (d1 ik δ):=fun pins s σ H Q I ⟨F,ρ,S,w⟩=>by
 have w:WP X.K Xw F H (δ ρ>>=ik) Q:=w
 refine wpAny_Call_Name_kw (jc I hg hm hb ?_ (by decide) (by decide))
 refine PyProof.Rows.callWith_builtin1 ?_ he rfl
 rw[he]
 refine Calls.spliced_cons (wpAny_Call_Name_kw (jc I HZ Ay CI ?_ (by decide) (by decide)))
 refine PyProof.Rows.callWith_type1 ?_ GA rfl
 rw[GA]
 refine Calls.spliced_cons (bB (ha pins s σ H _ I ⟨F,ρ,S,WP.bind w⟩) fun u s1 ⟨v,H1,I1,r,F1,d,e1,q1,w1⟩=>Calls.spliced_nil ?_)
 unfold ik at w1
 split at w1
 ·rename_i ds
  split at w1
  ·rename_i ks B9
   split at w1
   ·rename_i hok
    obtain⟨a,ws,rfl,h2,h3,h4⟩:=q1
    cases (show u=_ from r)
    have hr:=(mS e1.fh B9 h3).1
    have hlen:ds.length=ks.length:=by rw[h3.len,iM hr]
    refine xf I1 hc hu (SqL.of (e1.fh _ _ h2)) hr hok.1 hok.2 fun h' tk hS hk=>Calls.spliced_nil ?_
    obtain⟨o,es,ep,t,ho,hex,hd,hp,ht⟩:=hS
    have hsz:es.size=ks.length:=by rw[←Array.length_toList,hp.length_eq];unfold wb;rw[List.length_map,List.length_range]
    refine call_len_set ho hex hd ht.fits (by rw[hsz];have:=hok.1;omega) ⟨.int es.size,H1,I1.kept hk,⟨_,rfl⟩,?_⟩
    rw[hsz,←hlen]
    exact WP.now w1 e1.fh rfl
   ·exact w1.elim
  ·exact w1.elim
 ·exact w1.elim
end
end L3
namespace L3
def FR(n:Nat)(δs:DA):DS:=fun _=>M.stuck
end L3
namespace K1
open PySem PySem.Spec L2 L3
open PyProof.Rows hiding St
def sH:DS:=(aO (cJ (dA eT (aC (dV 0) (aC (dC (.raw (.ty "int"))) aN))) (zp (dA eT (aC (dV 0) (aC (dC (.raw (.ty "bool"))) aN))))))
def a5:List D→M D:=bW 1 (sH)
def qT:DS:=(aO (cJ (dA eT (aC (dV 0) (aC (dC (.raw (.ty "str"))) aN))) (cJ (d2 gi (dA aU (aC (dV 0) aN)) (dC (.int 1))) (d2 (vO false) (dV 0) (dC (.str "abcdef"))))))
def bS:List D→M D:=bW 1 (qT)
def qW:DS:=(aO (d2 og (d2 bh (dV 0) (d2 bh (dV 1) (dC (.int 0)))) (d2 bh (dV 1) (dC (.int 1)))))
def bf:List D→M D:=bW 2 (qW)
def sF:DS:=(aA (bp 3 (dA vj (aC (d2 oh (d2 bh (dV 0) (dC (.int 0))) (d2 bh (dV 1) (dC (.int 0)))) aN))) (aA (bp 4 (dA vj (aC (d2 oh (d2 bh (dV 0) (dC (.int 1))) (d2 bh (dV 1) (dC (.int 1)))) aN))) (aA (cK (bN (d2 gi (dV 2) (dC (.int 4)))) (aO (d2 gi (d2 bF (dV 3) (dV 4)) (dC (.int 1)))) ba) (aO (d2 gi (dA rM (aC (dV 3) (aC (dV 4) aN))) (dC (.int 1)))))))
def bE:List D→M D:=bW 5 (sF)
def zj:DS:=(aA (z4 1) (aA (fun ρ=>noex ((e9 (putN 2) (AK (fq (dV 0)) (fun ρ=>(dV 0) ρ>>=fG)) (c9 [2] (nL 1 (dV 2) (dC (.bl true))))) ρ)) (y8 1 (aO (dV 1)))))
def j7:List D→M D:=bW 3 (zj)
def lX:DS:=(aA (cK (bN (d2 gi (dV 0) (dA dW aN))) (aO (d2 dP (dC (.int 7)) (dV 1))) ba) (aO (d2 bF (d2 vP (dV 0) (d2 gj (dV 1) (dA aU (aC (dV 0) aN)))) (d2 dP (dC (.int 6553)) (d2 l6 (dV 1) (dA aU (aC (dV 0) aN)))))))
def dz:List D→M D:=bW 2 (lX)
def qU:DS:=(aA (cK (gK (a9 (aR (dA eT (aC (dV 0) (aC (dC (.raw (.ty "str"))) aN))))) (a9 (bN (ri (fun i j=>decide (i≤j)) (fun i j=>decide (i≤j)) (dC (.int 1)) (dA aU (aC (dV 0) aN)) (dC (.int 8)))))) (aO (dC (.bl false))) ba) (aO (dA allM (aC (bb 0 (fun ρ=>(dV 0) ρ>>=BN) bP (ah 1 bS (aC (dV 0) aN))) aN))))
def dw:List D→M D:=bW 1 (qU)
def nV:DS:=(aA (cK (gK (a9 (aR (dA eT (aC (dV 1) (aC (dC (.raw (.ty "tuple"))) aN))))) (bN (d2 g9 (dA aU (aC (dV 1) aN)) (dC (.int 2))))) (aO (dC (.bl false))) ba) (aA (cK (gK (a9 (aR (ah 1 a5 (aC (d2 bh (dV 1) (dC (.int 0))) aN)))) (a9 (aR (ah 1 a5 (aC (d2 bh (dV 1) (dC (.int 1))) aN))))) (aO (dC (.bl false))) ba) (aO (cJ (ri (fun i j=>decide (i≤j)) (fun i j=>decide (i<j)) (dC (.int 0)) (d2 bh (dV 1) (dC (.int 0))) (dA aU (aC (dV 0) aN))) (ri (fun i j=>decide (i≤j)) (fun i j=>decide (i<j)) (dC (.int 0)) (d2 bh (dV 1) (dC (.int 1))) (dA aU (aC (d2 bh (dV 0) (dC (.int 0))) aN)))))))
def dj:List D→M D:=bW 2 (nV)
def qY:DS:=(cK (gK (a9 (aR (ah 1 a5 (aC (dV 0) aN)))) (bN (d2 (xT true) (dV 0) (dA dX (aC (dC (.int 4)) (aC (dC (.int 8)) aN)))))) (FR 1 (aC (dC (.str "ways are 4 or 8")) aN)) ba)
def cx:List D→M D:=bW 1 (qY)
def o9:DS:=(aA (y9 3) (aA (fun ρ=>noex ((e9 (putN 4) (fun ρ=>(aC (dA rM (aC (d2 oh (d2 bh (dV 1) (dC (.int 0))) (dC (.int 1))) (aC (dC (.int 0)) aN))) (aC (dA uJ (aC (d2 bF (d2 bh (dV 1) (dC (.int 0))) (dC (.int 2))) (aC (dA aU (aC (dV 0) aN)) aN))) aN)) ρ>>=lJ) (c9 [4,5] (e9 (putN 5) (fun ρ=>(aC (dA rM (aC (d2 oh (d2 bh (dV 1) (dC (.int 1))) (dC (.int 1))) (aC (dC (.int 0)) aN))) (aC (dA uJ (aC (d2 bF (d2 bh (dV 1) (dC (.int 1))) (dC (.int 2))) (aC (dA aU (aC (d2 bh (dV 0) (dC (.int 0))) aN)) aN))) aN)) ρ>>=lJ) (c9 [5] (cK (aR (ah 3 bE (aC (dV 1) (aC (dA dX (aC (dV 4) (aC (dV 5) aN))) (aC (dV 2) aN))))) (lK 3 (dA dX (aC (dV 4) (aC (dV 5) aN)))) ba))))) ρ)) (y8 3 (aO (dV 3)))))
def bZ:List D→M D:=bW 6 (o9)
def jW:DS:=(aA (bp 3 (d2 gj (d2 bF (d2 dP (d2 gj (ah 2 dz (aC (dV 0) (aC (dV 1) aN))) (dC (.int 2147483563))) (dC (.int 69069))) (d2 dP (dC (.int 104723)) (d2 bF (dV 1) (dC (.int 1))))) (dC (.int 2147483563)))) (aA (bp 3 (d2 gj (d2 bF (d2 dP (dV 3) (dV 3)) (d2 l6 (dV 3) (dC (.int 3)))) (dC (.int 2147483399)))) (aO (d2 gj (d2 l6 (d2 gj (d2 bF (d2 dP (dV 3) (dV 3)) (d2 l6 (dV 3) (dC (.int 7)))) (dC (.int 2147483647))) (dC (.int 11))) (dV 2)))))
def aw:List D→M D:=bW 4 (jW)
def lW:DS:=(aA (cK (gK (a9 (aR (dA eT (aC (dV 0) (aC (dC (.raw (.ty "tuple"))) aN))))) (a9 (bN (ri (fun i j=>decide (i≤j)) (fun i j=>decide (i≤j)) (dC (.int 1)) (dA aU (aC (dV 0) aN)) (dC (.int 8)))))) (aO (dC (.bl false))) ba) (aA (cK (a9 (aR (dA allM (aC (bb 0 (rl (dV 0)) bP (ah 1 dw (aC (dV 0) aN))) aN)))) (aO (dC (.bl false))) ba) (aO (dA allM (aC (bb 0 (rl (dV 0)) bP (d2 gi (dA aU (aC (dV 0) aN)) (dA aU (aC (d2 bh (dV 1) (dC (.int 0))) aN)))) aN)))))
def eR:List D→M D:=bW 1 (lW)
def g8:DS:=(aO (cJ (dA eT (aC (dV 1) (aC (dC (.raw (.ty "list"))) aN))) (dA allM (aC (bb 0 (fq (dV 1)) bP (ah 2 dj (aC (dV 1) (aC (dV 0) aN)))) aN))))
def aP:List D→M D:=bW 2 (g8)
def qX:DS:=(cK (a9 (aR (ah 2 dj (aC (dV 0) (aC (dV 1) aN))))) (FR 2 (aC (dC (.str "a tuple (row, column) on the board is asked for")) aN)) ba)
def bT:List D→M D:=bW 2 (qX)
def o7:DS:=(aA (bp 3 (ah 2 bf (aC (dV 0) (aC (dV 1) aN)))) (aO (bb 0 (fq (ah 3 bZ (aC (dV 0) (aC (dV 1) (aC (dV 2) aN))))) (bN (d2 gi (ah 2 bf (aC (dV 1) (aC (dV 0) aN))) (dV 4))) (dV 0))))
def aK:List D→M D:=bW 4 (o7)
def qV:DS:=(aA (bp 3 (d2 bF (dC (.int 1)) (ah 3 aw (aC (dV 0) (aC (dV 1) (aC (dV 2) aN)))))) (aA (bp 4 (d2 bF (dC (.int 1)) (ah 3 aw (aC (dV 0) (aC (d2 bF (dV 1) (dC (.int 1))) (aC (dV 2) aN)))))) (aA (bp 5 (d2 ck (dA dW (aC (dC (.str "ab")) (aC (dC (.str "abc")) (aC (dC (.str "aab")) (aC (dC (.str "fa")) aN))))) (ah 3 aw (aC (dV 0) (aC (d2 bF (dV 1) (dC (.int 2))) (aC (dC (.int 4)) aN)))))) (aA (bp 6 (dA dX aN)) (aA (fun ρ=>noex ((e9 (putN 7) (fun ρ=>(aC (dV 3) aN) ρ>>=jS) (c9 [7,8] (aA (bp 8 (bb 0 (fun ρ=>(aC (dV 4) aN) ρ>>=jS) bP (d2 og (dV 6) (ah 3 aw (aC (dV 1) (aC (d2 bF (d2 bF (d2 bF (dV 2) (dC (.int 3))) (d2 dP (dC (.int 7)) (dV 8))) (dV 0)) (aC (dA aU (aC (dV 6) aN)) aN))))))) (bp 6 (d2 pR (dV 6) (dA dX (aC (dM C8 joinM (dC (.str "")) (aC (dV 8) aN)) aN))))))) ρ)) (aO (dV 6)))))))
def cw:List D→M D:=bW 9 (qV)
def o8:DS:=(cK (a9 (aR (ah 1 eR (aC (dV 0) aN)))) (FR 0 (aC (dC (.str "a tuple of 1 to 8 texts of 1 to 8 letters, all as long, is asked for")) aN)) ba)
def bY:List D→M D:=bW 1 (o8)
def o_:DS:=(aA (qD 3 (fun ρ=>(dV 1) ρ>>=fun x=>(dC .non) ρ>>=fun y=>mG x y)) (aA (bp 4 (dA dW (aC (dV 1) aN))) (aA (fun ρ=>noex ((oR (aR (dV 4)) (c9 [5,6,7] (aA (y9 5) (aA (e9 (putN 6) (fq (dV 4)) (c9 [6,7] (e9 (putN 7) (fq (ah 3 aK (aC (dV 0) (aC (dV 6) (aC (dV 2) aN))))) (c9 [7] (cK (z8 (bN (d2 (d8 true) (dV 7) (dV 3)))) (aA (nL 3 (dV 7) (dV 6)) (lK 5 (dV 7))) ba))))) (y8 5 (bp 4 (dV 5))))))) ρ)) (y8 3 (aO (dV 3))))))
def aL:List D→M D:=bW 8 (o_)
def jv:DS:=(aA (gX (ah 1 bY (aC (dV 0) aN))) (aA (gX (ah 1 cx (aC (dV 1) aN))) (aA (gX (ah 2 bT (aC (dV 0) (aC (dV 2) aN)))) (gX (ah 2 bT (aC (dV 0) (aC (dV 3) aN)))))))
def aI:List D→M D:=bW 4 (jv)
def sI:DS:=(aA (gX (ah 1 bY (aC (dV 0) aN))) (aA (gX (ah 2 bT (aC (dV 0) (aC (dV 1) aN)))) (aA (gX (ah 1 cx (aC (dV 2) aN))) (aO (dA jU (aC (ah 3 aL (aC (dV 0) (aC (dV 1) (aC (dV 2) aN)))) aN))))))
def bU:List D→M D:=bW 3 (sI)
def va:DS:=(aA (gX (ah 4 aI (aC (dV 0) (aC (dV 1) (aC (dV 2) (aC (dV 3) aN)))))) (aO (d2 (d8 false) (dV 3) (ah 3 aL (aC (dV 0) (aC (dV 2) (aC (dV 1) aN)))))))
def di:List D→M D:=bW 4 (va)
def z9:DS:=(aA (gX (ah 4 aI (aC (dV 0) (aC (dV 1) (aC (dV 2) (aC (dV 3) aN)))))) (aA (bp 4 (ah 3 aL (aC (dV 0) (aC (dV 3) (aC (dV 1) aN))))) (aA (cK (bN (d2 (d8 true) (dV 2) (dV 4))) (aO (dC .non)) ba) (aA (qD 5 (fun ρ=>(aC (dV 2) aN) ρ>>=Ej)) (aA (fun ρ=>noex ((oR (z8 (bN (d2 g9 (d2 ck (dV 5) (d1 ft (dC (.int 1)))) (dV 3)))) (lK 5 (Ah (d2 rz (dV 4) (d2 ck (dV 5) (d1 ft (dC (.int 1)))))))) ρ)) (y8 5 (aO (dV 5))))))))
def fB:List D→M D:=bW 6 (z9)
def xt:DS:=(aA (gX (ah 4 aI (aC (dV 0) (aC (dV 1) (aC (dV 2) (aC (dV 3) aN)))))) (aA (cK (gK (a9 (aR (ah 2 aP (aC (dV 0) (aC (dV 4) aN))))) (bN (d2 gi (dA aU (aC (dV 4) aN)) (dC (.int 0))))) (aO (dC (.bl false))) ba) (aA (cK (gK (bN (d2 g9 (d2 ck (dV 4) (dC (.int 0))) (dV 2))) (bN (d2 g9 (d2 ck (dV 4) (d1 ft (dC (.int 1)))) (dV 3)))) (aO (dC (.bl false))) ba) (aA (bp 5 (ah 2 bf (aC (dV 0) (aC (dV 2) aN)))) (aA (cK (a9 (aR (dA allM (aC (bb 0 (fq (dV 4)) bP (d2 gi (ah 2 bf (aC (dV 1) (aC (dV 0) aN))) (dV 6))) aN)))) (aO (dC (.bl false))) ba) (aO (dA allM (aC (bb 0 (fun ρ=>(aC (dC (.int 1)) (aC (dA aU (aC (dV 4) aN)) aN)) ρ>>=lJ) bP (ah 3 bE (aC (d2 ck (dV 5) (d2 oh (dV 0) (dC (.int 1)))) (aC (d2 ck (dV 5) (dV 0)) (aC (dV 2) aN))))) aN))))))))
def bJ:List D→M D:=bW 6 (xt)
def sG:DS:=(aA (gX (ah 4 aI (aC (dV 0) (aC (dV 1) (aC (dV 2) (aC (dV 3) aN)))))) (aA (cK (a9 (aR (ah 2 aP (aC (dV 0) (aC (dV 4) aN))))) (aO (dC (.bl false))) ba) (aA (bp 5 (ah 1 j7 (aC (dV 4) aN))) (aA (cK (gK (bN (d2 (d8 true) (dV 2) (dV 5))) (bN (d2 (d8 false) (dV 3) (dV 5)))) (aO (dC (.bl false))) ba) (aA (fun ρ=>noex ((e9 (putN 6) (fun ρ=>(dV 5) ρ>>=fG) (c9 [6] (cK (a9 (aR (dA allM (aC (bb 0 (fq (ah 3 aK (aC (dV 0) (aC (dV 6) (aC (dV 1) aN))))) bP (d2 (d8 false) (dV 0) (dV 6))) aN)))) (aO (dC (.bl false))) ba))) ρ)) (aO (dC (.bl true))))))))
def aX:List D→M D:=bW 7 (sG)
def mn:DS:=(aO (dA dX (aC (ah 3 aw (aC (dV 0) (aC (dV 1) (aC (dA aU (aC (dV 2) aN)) aN)))) (aC (ah 3 aw (aC (dV 0) (aC (d2 bF (dV 1) (dC (.int 1))) (aC (dA aU (aC (d2 bh (dV 2) (dC (.int 0))) aN)) aN)))) aN))))
def bc:List D→M D:=bW 3 (mn)
def mq:DS:=(aA (cK (gK (a9 (aR (ah 5 bJ (aC (dV 0) (aC (dV 1) (aC (dV 2) (aC (dV 3) (aC (dV 4) aN)))))))) (a9 (aR (ah 5 bJ (aC (dV 0) (aC (dV 1) (aC (dV 3) (aC (dV 2) (aC (hX (dV 4) (d1 ft (dC (.int 1)))) aN))))))))) (aO (dC (.bl false))) ba) (aA (cK (gK (bN (d2 g9 (dA aU (aC (ah 4 fB (aC (dV 0) (aC (dV 1) (aC (dV 3) (aC (dV 2) aN))))) aN)) (dA aU (aC (dV 4) aN)))) (bN (d2 g9 (d1 ik (dV 4)) (dA aU (aC (dV 4) aN))))) (aO (dC (.bl false))) ba) (aO (ah 5 bJ (aC (dV 0) (aC (dV 1) (aC (dV 2) (aC (dV 3) (aC (d2 fk (d2 fk (dV 4) (rm (hX (dV 4) (d1 ft (dC (.int 1)))) (oS (dC (.int 1))) oN)) (rm (dV 4) (oS (dC (.int 1))) oN)) aN)))))))))
def bM:List D→M D:=bW 5 (mq)
def jX:DS:=(bp 1 (ah 3 cw (aC (dV 0) (aC (dC (.int 0)) (aC (dC (.int 5)) aN)))))
def jY:DS:=(fun ρ=>noex ((e9 (putN 2) (fun ρ=>(aC (dC (.int 5)) aN) ρ>>=jS) (c9 [2,3,4,5,6,7,8,9,10] (aA (bp 3 (d2 ck (dA dW (aC (dC (.int 4)) (aC (dC (.int 8)) aN))) (d2 gj (dV 2) (dC (.int 2))))) (aA (bp 4 (ah 3 bc (aC (dV 0) (aC (d2 bF (dC (.int 60)) (d2 dP (dC (.int 4)) (dV 2))) (aC (dV 1) aN))))) (aA (bp 5 (ah 3 bc (aC (dV 0) (aC (d2 bF (dC (.int 62)) (d2 dP (dC (.int 4)) (dV 2))) (aC (dV 1) aN))))) (aA (bp 6 (ah 3 bU (aC (dV 1) (aC (dV 4) (aC (dV 3) aN))))) (aA (cK (bN (d2 gi (ah 3 aw (aC (dV 0) (aC (d2 bF (dC (.int 90)) (dV 2)) (aC (dC (.int 2)) aN)))) (dC (.int 0)))) (bp 5 (d2 ck (dV 6) (ah 3 aw (aC (dV 0) (aC (d2 bF (dC (.int 100)) (dV 2)) (aC (dA aU (aC (dV 6) aN)) aN)))))) ba) (aA (bp 7 (ah 4 fB (aC (dV 1) (aC (dV 3) (aC (dV 4) (aC (dV 5) aN)))))) (aA (bp 8 (ah 4 di (aC (dV 1) (aC (dV 3) (aC (dV 4) (aC (dV 5) aN)))))) (aA (cK (gK (bN (d2 g9 (dV 8) (d2 (uq false) (dV 5) (dV 6)))) (bN (d2 g9 (dV 8) (d2 (pS true) (dV 7) (dC .non))))) (aO (dC (.bl false))) ba) (aA (cK (bN (d2 gi (ah 5 aX (aC (dV 1) (aC (dV 3) (aC (dV 4) (aC (dV 5) (aC (dV 6) aN)))))) (dV 8))) (aO (dC (.bl false))) ba) (cK (aR (dV 8)) (aA (cK (a9 (aR (ah 5 bM (aC (dV 1) (aC (dV 3) (aC (dV 4) (aC (dV 5) (aC (dV 7) aN)))))))) (aO (dC (.bl false))) ba) (aA (cK (i6 (bN (d2 zy (dA aU (aC (dV 7) aN)) (dC (.int 2)))) (i6 (aR (ah 5 bJ (aC (dV 1) (aC (dV 3) (aC (dV 4) (aC (dV 5) (aC (d2 fk (rm (dV 7) oN (oS (dC (.int 1)))) (rm (dV 7) (oS (dC (.int 2))) oN)) aN))))))) (bN (d2 gi (dV 3) (dC (.int 4)))))) (aO (dC (.bl false))) ba) (aA (bp 9 (bb 0 (fq (dV 6)) (bN (d2 g9 (dV 0) (dV 6))) (dV 0))) (cK (i6 (bN (d2 g9 (dV 4) (dV 5))) (aR (ah 5 aX (aC (dV 1) (aC (dV 3) (aC (dV 4) (aC (dV 5) (aC (dV 9) aN)))))))) (aO (dC (.bl false))) ba)))) (aA (bp 10 (ah 3 bU (aC (dV 1) (aC (dV 5) (aC (dV 3) aN))))) (aA (cK (a9 (aR (ah 5 aX (aC (dV 1) (aC (dV 3) (aC (dV 5) (aC (dV 4) (aC (dV 10) aN)))))))) (aO (dC (.bl false))) ba) (aA (cK (aR (ah 5 aX (aC (dV 1) (aC (dV 3) (aC (dV 4) (aC (dV 5) (aC (d2 fk (dV 6) (dV 10)) aN))))))) (aO (dC (.bl false))) ba) (cK (i6 (bN (d2 zy (dA aU (aC (dV 6) aN)) (dC (.int 1)))) (aR (ah 5 aX (aC (dV 1) (aC (dV 3) (aC (dV 4) (aC (dV 5) (aC (dA dW (aC (dV 4) aN)) aN)))))))) (aO (dC (.bl false))) ba)))))))))))))))) ρ))
def jZ:DS:=(aO (dC (.bl true)))
def ju:DS:=(aA jX (aA jY jZ))
def f9:List D→M D:=bW 11 ju
def top(i:Nat):Stmt:=PySem.Challenge.pw_cellpatches_k22_whole_fences.main.body.getD i (.Pass ⟨0,0,0,0⟩)
structure Bl (K:W.Frag) (mg:Str→Option Value) (base:Heap) (cv:Nat→Value) (cA:Nat→Addr) (Cp:Addr):Prop where
 len:mg "len"=none
 isinstance:mg "isinstance"=none
 all:mg "all"=none
 abs:mg "abs"=none
 max:mg "max"=none
 min:mg "min"=none
 range:mg "range"=none
 str:mg "str"=none
 int:mg "int"=none
 bool:mg "bool"=none
 tuple:mg "tuple"=none
 list:mg "list"=none
 set:mg "set"=none
 sorted:mg "sorted"=none
 LETTERS:∃t,mg "LETTERS"=some (.str "abcdef" t)
 MOST_ROWS:∃t,mg "MOST_ROWS"=some (.int 8 t)
 MOST_COLUMNS:∃t,mg "MOST_COLUMNS"=some (.int 8 t)
section
variable{P:Program}{w:World}{K:W.Frag}{mg:Str→Option Value}{base:Heap}{cv:Nat→Value}{cA:Nat→Addr}{Cp:Addr}{f:Addr}
abbrev gZ:Stmt:=top 9
def kT:List Str:=["thing"]
def lb:List Str:=["thing"]
theorem qG:FnScope kT lb (ag gZ):=⟨rfl,rfl,rfl,by decide+kernel,rfl,by decide+kernel,by decide+kernel⟩
theorem qi(B:Bl K mg base cv cA Cp)(T:bx K mg "is_whole" gZ f):aq P w K mg base cv 1 "is_whole" 1 (a5):=
 aD (N:=kT) (ps:=lb) T qG (fun _ _ _ _ _ _ us hl=>match us,hl with | [_],_=>rfl) fun b8 A outer s H E hr=>
  (ai (au (lj (gS rfl B.isinstance rfl (aa (ab (pv 0)) (aa (lz rfl B.int rfl) ae))) (oI (Bm (gS rfl B.isinstance rfl (aa (ab (pv 0)) (aa (lz rfl B.bool rfl) ae))))))))
abbrev fO:Stmt:=top 10
def jC:List Str:=["thing"]
def jL:List Str:=["thing"]
theorem oU:FnScope jC jL (ag fO):=⟨rfl,rfl,rfl,by decide+kernel,rfl,by decide+kernel,by decide+kernel⟩
theorem oy(B:Bl K mg base cv cA Cp)(T:bx K mg "is_letter" fO f):aq P w K mg base cv 1 "is_letter" 1 (bS):=
 aD (N:=jC) (ps:=jL) T oU (fun _ _ _ _ _ _ us hl=>match us,hl with | [_],_=>rfl) fun b8 A outer s H E hr=>
  (ai (au (lj (gS rfl B.isinstance rfl (aa (ab (pv 0)) (aa (lz rfl B.str rfl) ae))) (lj (qp hr.units (bj rfl B.len (aa (ab (pv 0)) ae)) aj) (oI (Bg (ab (pv 0)) (yG rfl B.LETTERS (by decide))))))))
abbrev fR:Stmt:=top 18
def jE:List Str:=["board","cell"]
def jO:List Str:=["board","cell"]
theorem oV:FnScope jE jO (ag fR):=⟨rfl,rfl,rfl,by decide+kernel,rfl,by decide+kernel,by decide+kernel⟩
theorem oB(B:Bl K mg base cv cA Cp)(T:bx K mg "letter_of" fR f):aq P w K mg base cv 1 "letter_of" 2 (bf):=
 aD (N:=jE) (ps:=jO) T oV (fun _ _ _ _ _ _ us hl=>match us,hl with | [_,_],_=>rfl) fun b8 A outer s H E hr=>
  (ai (au (wF (bH (ab (pv 0)) (bH (ab (pv 1)) aj)) (bH (ab (pv 1)) aj))))
abbrev gY:Stmt:=top 19
def kS:List Str:=["one","other","ways","down","along"]
def k9:List Str:=["one","other","ways"]
theorem fU:FnScope kS k9 (ag gY):=⟨rfl,rfl,rfl,by decide+kernel,rfl,by decide+kernel,by decide+kernel⟩
theorem qf(B:Bl K mg base cv cA Cp)(T:bx K mg "are_next" gY f):aq P w K mg base cv 1 "are_next" 3 (bE):=
 aD (N:=kS) (ps:=k9) T fU (fun _ _ _ _ _ _ us hl=>match us,hl with | [_,_,_],_=>rfl) fun b8 A outer s H E hr=>
  (af (aT fU.nd rfl (by first | exact .inl rfl | exact .inr rfl) (wB rfl B.abs (aa (ly (bH (ab (pv 0)) aj) (bH (ab (pv 1)) aj)) ae) rfl)) (af (aT fU.nd rfl (by first | exact .inl rfl | exact .inr rfl) (wB rfl B.abs (aa (ly (bH (ab (pv 0)) aj) (bH (ab (pv 1)) aj)) ae) rfl)) (af (aQ (lD hr.units (ab (pv 2)) aj) (ai (au (qp hr.units (bA (ab (pv 3)) (ab (pv 4))) aj))) aH) (ai (au (qp hr.units (r6 rfl rfl B.max rfl (aa (ab (pv 3)) (aa (ab (pv 4)) ae))) aj))))))
abbrev oT:Stmt:=top 21
def tB:List Str:=["things","found","thing"]
def tG:List Str:=["things"]
theorem lM:FnScope tB tG (ag oT):=⟨rfl,rfl,rfl,by decide+kernel,rfl,by decide+kernel,by decide+kernel⟩
theorem wt(B:Bl K mg base cv cA Cp)(T:bx K mg "keyed" oT f):aq P w K mg base cv 1 "keyed" 1 (j7):=
 aD (N:=tB) (ps:=tG) T lM (fun _ _ _ _ _ _ us hl=>match us,hl with | [_],_=>rfl) fun b8 A outer s H E hr=>
  (af (wO lM.nd rfl (by first | exact .inl rfl | exact .inr rfl)) (af (e8 (d3 PassesOwn.never rfl (yI (c0 (ab (pv 0))) (qq (ab (pv 0)))) (cb lM.nd rfl (by first | exact .inl rfl | exact .inr rfl)) c5 (cH (ai (qt hr.units (pv 1) (ab (pv 2)) bQ))))) (ai (iL (i:=1) (au (ab (pv 1)))))))
abbrev g0:Stmt:=top 32
def kU:List Str:=["_law_script","_law_k"]
def lg:List Str:=["_law_script","_law_k"]
theorem qH:FnScope kU lg (ag g0):=⟨rfl,rfl,rfl,by decide+kernel,rfl,by decide+kernel,by decide+kernel⟩
theorem qj(B:Bl K mg base cv cA Cp)(T:bx K mg "_law_cell" g0 f):aq P w K mg base cv 1 "_law_cell" 2 (dz):=
 aD (N:=kU) (ps:=lg) T qH (fun _ _ _ _ _ _ us hl=>match us,hl with | [_,_],_=>rfl) fun b8 A outer s H E hr=>
  (af (aQ (lD hr.units (ab (pv 0)) (lq ae)) (ai (au (e7 aj (ab (pv 1))))) aH) (ai (au (bA (Bj (ab (pv 0)) (gT (ab (pv 1)) (bj rfl B.len (aa (ab (pv 0)) ae)))) (e7 aj (oH (ab (pv 1)) (bj rfl B.len (aa (ab (pv 0)) ae))))))))
abbrev iN:Stmt:=top 11
def ip:List Str:=["thing"]
def qm:List Str:=["thing"]
theorem uY:FnScope ip qm (ag iN):=⟨rfl,rfl,rfl,by decide+kernel,rfl,by decide+kernel,by decide+kernel⟩
theorem uM(B:Bl K mg base cv cA Cp)(pw:aq P w K mg base cv 1 "is_letter" 1 bS)(T:bx K mg "is_row" iN f):aq P w K mg base cv 2 "is_row" 1 (dw):=
 aD (N:=ip) (ps:=qm) T uY (fun _ _ _ _ _ _ us hl=>match us,hl with | [_],_=>rfl) fun b8 A outer s H E hr=>
  (af (aQ (PDW.t (dI (a_ (aS (gS rfl B.isinstance rfl (aa (ab (pv 0)) (aa (lz rfl B.str rfl) ae))))) (cF (a_ (wR nv nv aj (bj rfl B.len (aa (ab (pv 0)) ae)) (tJ rfl B.MOST_COLUMNS)))))) (ai (au bQ)) aH) (ai (au (gR rfl rfl B.all rfl (aa (dZ (tn:=["sign"]) (n:=0) (bL (N:=ip) (osc:=(ag iN)) rfl rfl (by decide+kernel)) rfl rfl (yJ (ab (pv 0))) (fun _ _ _ _ _ _ _=>cW (show List.Nodup (((["sign"]:List Str))++cB ["sign"] ip) by decide+kernel) rfl rfl) (fun _ _ _ _ _ _=>c6) (fun _ _ _ _ _ _=>(aV pw (hr.mono (by decide)) rfl bK (aa (ab (pv 0)) ae) rfl))) ae)))))
abbrev jq:Stmt:=top 13
def ni:List Str:=["board","thing"]
def nA:List Str:=["board","thing"]
theorem sj:FnScope ni nA (ag jq):=⟨rfl,rfl,rfl,by decide+kernel,rfl,by decide+kernel,by decide+kernel⟩
theorem rW(B:Bl K mg base cv cA Cp)(eK:aq P w K mg base cv 1 "is_whole" 1 a5)(T:bx K mg "is_cell" jq f):aq P w K mg base cv 2 "is_cell" 2 (dj):=
 aD (N:=ni) (ps:=nA) T sj (fun _ _ _ _ _ _ us hl=>match us,hl with | [_,_],_=>rfl) fun b8 A outer s H E hr=>
  (af (aQ (PDW.t (dI (a_ (aS (gS rfl B.isinstance rfl (aa (ab (pv 1)) (aa (lz rfl B.tuple rfl) ae))))) (cF (gA hr.units (bj rfl B.len (aa (ab (pv 1)) ae)) aj)))) (ai (au bQ)) aH) (af (aQ (PDW.t (dI (a_ (aS (aV eK (hr.mono (by decide)) rfl a6 (aa (bH (ab (pv 1)) aj) ae) rfl))) (cF (a_ (aS (aV eK (hr.mono (by decide)) rfl a6 (aa (bH (ab (pv 1)) aj) ae) rfl)))))) (ai (au bQ)) aH) (ai (au (lj (wC nv zU aj (bH (ab (pv 1)) aj) (bj rfl B.len (aa (ab (pv 0)) ae))) (oI (wC nv zU aj (bH (ab (pv 1)) aj) (bj rfl B.len (aa (bH (ab (pv 0)) aj) ae)))))))))
abbrev fT:Stmt:=top 17
def jH:List Str:=["thing"]
def jQ:List Str:=["thing"]
theorem oX:FnScope jH jQ (ag fT):=⟨rfl,rfl,rfl,by decide+kernel,rfl,by decide+kernel,by decide+kernel⟩
theorem oD(B:Bl K mg base cv cA Cp)(eK:aq P w K mg base cv 1 "is_whole" 1 a5)(T:bx K mg "need_ways" fT f):aq P w K mg base cv 2 "need_ways" 1 (cx):=
 aD (N:=jH) (ps:=jQ) T oX (fun _ _ _ _ _ _ us hl=>match us,hl with | [_],_=>rfl) fun b8 A outer s H E hr=>
  (ai (aQ (PDW.t (dI (a_ (aS (aV eK (hr.mono (by decide)) rfl a6 (aa (ab (pv 0)) ae) rfl))) (cF (uX (ab (pv 0)) (jg (aa aj (aa aj ae))))))) (ai ji) aH))
abbrev fc:Stmt:=top 20
def ir:List Str:=["board","cell","ways","found","row","column"]
def iE:List Str:=["board","cell","ways"]
theorem cV:FnScope ir iE (ag fc):=⟨rfl,rfl,rfl,by decide+kernel,rfl,by decide+kernel,by decide+kernel⟩
theorem me(B:Bl K mg base cv cA Cp)(gG:aq P w K mg base cv 1 "are_next" 3 bE)(T:bx K mg "next_cells" fc f):aq P w K mg base cv 2 "next_cells" 3 (bZ):=
 aD (N:=ir) (ps:=iE) T cV (fun _ _ _ _ _ _ us hl=>match us,hl with | [_,_,_],_=>rfl) fun b8 A outer s H E hr=>
  (af (tP cV.nd rfl (by first | exact .inl rfl | exact .inr rfl)) (af (e8 (d3 PassesOwn.never rfl (gW rfl B.range (aa (r6 rfl rfl B.max rfl (aa (ly (bH (ab (pv 1)) aj) aj) (aa aj ae))) (aa (wG rfl rfl B.min rfl (aa (bA (bH (ab (pv 1)) aj) aj) (aa (bj rfl B.len (aa (ab (pv 0)) ae)) ae))) ae))) (cb cV.nd rfl (by first | exact .inl rfl | exact .inr rfl)) c5 (cH (ai (d3 PassesOwn.never rfl (gW rfl B.range (aa (r6 rfl rfl B.max rfl (aa (ly (bH (ab (pv 1)) aj) aj) (aa aj ae))) (aa (wG rfl rfl B.min rfl (aa (bA (bH (ab (pv 1)) aj) aj) (aa (bj rfl B.len (aa (bH (ab (pv 0)) aj) ae)) ae))) ae))) (cb cV.nd rfl (by first | exact .inl rfl | exact .inr rfl)) c5 (cH (ai (aQ (aS (aV gG (hr.mono (by decide)) rfl bK (aa (ab (pv 1)) (aa (jg (aa (ab (pv 4)) (aa (ab (pv 5)) ae))) (aa (ab (pv 2)) ae))) rfl)) (ai (oK (pv 3) (jg (aa (ab (pv 4)) (aa (ab (pv 5)) ae))))) aH)))))))) (ai (iL (i:=3) (au (ab (pv 3)))))))
abbrev fQ:Stmt:=top 33
def jD:List Str:=["_law_script","_law_k","_law_many","_law_cell_here"]
def jN:List Str:=["_law_script","_law_k","_law_many"]
theorem fg:FnScope jD jN (ag fQ):=⟨rfl,rfl,rfl,by decide+kernel,rfl,by decide+kernel,by decide+kernel⟩
theorem oA(B:Bl K mg base cv cA Cp)(rh:aq P w K mg base cv 1 "_law_cell" 2 dz)(T:bx K mg "_law_drawn" fQ f):aq P w K mg base cv 2 "_law_drawn" 3 (aw):=
 aD (N:=jD) (ps:=jN) T fg (fun _ _ _ _ _ _ us hl=>match us,hl with | [_,_,_],_=>rfl) fun b8 A outer s H E hr=>
  (af (aT fg.nd rfl (by first | exact .inl rfl | exact .inr rfl) (gT (bA (e7 (gT (aV rh (hr.mono (by decide)) rfl a6 (aa (ab (pv 0)) (aa (ab (pv 1)) ae)) rfl) aj) aj) (e7 aj (bA (ab (pv 1)) aj))) aj)) (af (aT fg.nd rfl (by first | exact .inl rfl | exact .inr rfl) (gT (bA (e7 (ab (pv 3)) (ab (pv 3))) (oH (ab (pv 3)) aj)) aj)) (ai (au (gT (oH (gT (bA (e7 (ab (pv 3)) (ab (pv 3))) (oH (ab (pv 3)) aj)) aj) aj) (ab (pv 2)))))))
abbrev dJ:Stmt:=top 12
def cQ:List Str:=["thing"]
def k_:List Str:=["thing"]
theorem qF:FnScope cQ k_ (ag dJ):=⟨rfl,rfl,rfl,by decide+kernel,rfl,by decide+kernel,by decide+kernel⟩
theorem qg(B:Bl K mg base cv cA Cp)(vw:aq P w K mg base cv 2 "is_row" 1 dw)(T:bx K mg "is_board" dJ f):aq P w K mg base cv 3 "is_board" 1 (eR):=
 aD (N:=cQ) (ps:=k_) T qF (fun _ _ _ _ _ _ us hl=>match us,hl with | [_],_=>rfl) fun b8 A outer s H E hr=>
  (af (aQ (PDW.t (dI (a_ (aS (gS rfl B.isinstance rfl (aa (ab (pv 0)) (aa (lz rfl B.tuple rfl) ae))))) (cF (a_ (wR nv nv aj (bj rfl B.len (aa (ab (pv 0)) ae)) (tJ rfl B.MOST_ROWS)))))) (ai (au bQ)) aH) (af (aQ (a_ (aS (gR rfl rfl B.all rfl (aa (dZ (tn:=["row"]) (n:=0) (bL (N:=cQ) (osc:=(ag dJ)) rfl rfl (by decide+kernel)) rfl rfl (tN (ab (pv 0))) (fun _ _ _ _ _ _ _=>cW (show List.Nodup (((["row"]:List Str))++cB ["row"] cQ) by decide+kernel) rfl rfl) (fun _ _ _ _ _ _=>c6) (fun _ _ _ _ _ _=>(aV vw (hr.mono (by decide)) rfl bK (aa (ab (pv 0)) ae) rfl))) ae)))) (ai (au bQ)) aH) (ai (au (gR rfl rfl B.all rfl (aa (dZ (tn:=["row"]) (n:=0) (bL (N:=cQ) (osc:=(ag dJ)) rfl rfl (by decide+kernel)) rfl rfl (tN (ab (pv 0))) (fun _ _ _ _ _ _ _=>cW (show List.Nodup (((["row"]:List Str))++cB ["row"] cQ) by decide+kernel) rfl rfl) (fun _ _ _ _ _ _=>c6) (fun _ _ _ _ _ _=>(qp hr.units (bj rfl B.len (aa (ab (pv 0)) ae)) (bj rfl B.len (aa (bH (ab (pv 1)) aj) ae))))) ae))))))
abbrev bI:Stmt:=top 14
def bG:List Str:=["board","thing"]
def dG:List Str:=["board","thing"]
theorem gp:FnScope bG dG (ag bI):=⟨rfl,rfl,rfl,by decide+kernel,rfl,by decide+kernel,by decide+kernel⟩
theorem gm(B:Bl K mg base cv cA Cp)(iZ:aq P w K mg base cv 2 "is_cell" 2 dj)(T:bx K mg "is_list_of_cells" bI f):aq P w K mg base cv 3 "is_list_of_cells" 2 (aP):=
 aD (N:=bG) (ps:=dG) T gp (fun _ _ _ _ _ _ us hl=>match us,hl with | [_,_],_=>rfl) fun b8 A outer s H E hr=>
  (ai (au (lj (gS rfl B.isinstance rfl (aa (ab (pv 1)) (aa (lz rfl B.list rfl) ae))) (oI (gR rfl rfl B.all rfl (aa (dZ (tn:=["part"]) (n:=0) (bL (N:=bG) (osc:=(ag bI)) rfl rfl (by decide+kernel)) rfl rfl (c0 (ab (pv 1))) (fun _ _ _ _ _ _ _=>cW (show List.Nodup (((["part"]:List Str))++cB ["part"] bG) by decide+kernel) rfl rfl) (fun _ _ _ _ _ _=>c6) (fun _ _ _ _ _ _=>(aV iZ (hr.mono (by decide)) rfl bK (aa (ab (pv 1)) (aa (ab (pv 0)) ae)) rfl))) ae))))))
abbrev fS:Stmt:=top 16
def jG:List Str:=["board","thing"]
def jP:List Str:=["board","thing"]
theorem oW:FnScope jG jP (ag fS):=⟨rfl,rfl,rfl,by decide+kernel,rfl,by decide+kernel,by decide+kernel⟩
theorem oC(B:Bl K mg base cv cA Cp)(iZ:aq P w K mg base cv 2 "is_cell" 2 dj)(T:bx K mg "need_cell" fS f):aq P w K mg base cv 3 "need_cell" 2 (bT):=
 aD (N:=jG) (ps:=jP) T oW (fun _ _ _ _ _ _ us hl=>match us,hl with | [_,_],_=>rfl) fun b8 A outer s H E hr=>
  (ai (aQ (a_ (aS (aV iZ (hr.mono (by decide)) rfl a6 (aa (ab (pv 0)) (aa (ab (pv 1)) ae)) rfl))) (ai ji) aH))
abbrev dh:Stmt:=top 24
def dg:List Str:=["board","cell","ways","letter"]
def iC:List Str:=["board","cell","ways"]
theorem gB:FnScope dg iC (ag dh):=⟨rfl,rfl,rfl,by decide+kernel,rfl,by decide+kernel,by decide+kernel⟩
theorem ma(B:Bl K mg base cv cA Cp)(cZ:aq P w K mg base cv 1 "letter_of" 2 bf)(n4:aq P w K mg base cv 2 "next_cells" 3 bZ)(T:bx K mg "like_cells" dh f):aq P w K mg base cv 3 "like_cells" 3 (aK):=
 aD (N:=dg) (ps:=iC) T gB (fun _ _ _ _ _ _ us hl=>match us,hl with | [_,_,_],_=>rfl) fun b8 A outer s H E hr=>
  (af (aT gB.nd rfl (by first | exact .inl rfl | exact .inr rfl) (aV cZ (hr.mono (by decide)) rfl a6 (aa (ab (pv 0)) (aa (ab (pv 1)) ae)) rfl)) (ai (au (dZ (tn:=["near"]) (n:=0) (bL (N:=dg) (osc:=(ag dh)) rfl rfl (by decide+kernel)) rfl rfl (c0 (aV n4 (hr.mono (by decide)) rfl a6 (aa (ab (pv 0)) (aa (ab (pv 1)) (aa (ab (pv 2)) ae))) rfl)) (fun _ _ _ _ _ _ _=>cW (show List.Nodup (((["near"]:List Str))++cB ["near"] dg) by decide+kernel) rfl rfl) (fun _ _ _ _ _ _=>(qN (lD hr.units (aV cZ (hr.mono (by decide)) rfl bK (aa (ab (pv 1)) (aa (ab (pv 0)) ae)) rfl) (ab (pv 4))))) (fun _ _ _ _ _ _=>(ab (pv 0)))))))
abbrev d5:Stmt:=top 34
def dY:List Str:=["_law_script","_law_at","_law_most","_law_rows","_law_wide","_law_alphabet","_law_found","_law_row","_law_signs"]
def jM:List Str:=["_law_script","_law_at","_law_most"]
theorem bt:FnScope dY jM (ag d5):=⟨rfl,rfl,rfl,by decide+kernel,rfl,by decide+kernel,by decide+kernel⟩
set_option maxHeartbeats 4000000 in
theorem oz(B:Bl K mg base cv cA Cp)(aY:aq P w K mg base cv 2 "_law_drawn" 3 aw)(T:bx K mg "_law_board" d5 f):aq P w K mg base cv 3 "_law_board" 3 (cw):=
 aD (N:=dY) (ps:=jM) T bt (fun _ _ _ _ _ _ us hl=>match us,hl with | [_,_,_],_=>rfl) fun b8 A outer s H E hr=>
  (af (aT bt.nd rfl (by first | exact .inl rfl | exact .inr rfl) (bA aj (aV aY (hr.mono (by decide)) rfl a6 (aa (ab (pv 0)) (aa (ab (pv 1)) (aa (ab (pv 2)) ae))) rfl))) (af (aT bt.nd rfl (by first | exact .inl rfl | exact .inr rfl) (bA aj (aV aY (hr.mono (by decide)) rfl a6 (aa (ab (pv 0)) (aa (bA (ab (pv 1)) aj) (aa (ab (pv 2)) ae))) rfl))) (af (aT bt.nd rfl (by first | exact .inl rfl | exact .inr rfl) (eZ (lq (aa lx (aa lx (aa lx (aa lx ae))))) (aV aY (hr.mono (by decide)) rfl a6 (aa (ab (pv 0)) (aa (bA (ab (pv 1)) aj) (aa aj ae))) rfl))) (af (aT bt.nd rfl (by first | exact .inl rfl | exact .inr rfl) (jg ae)) (af (e8 (d3 PassesOwn.never rfl (gU rfl B.range (aa (ab (pv 3)) ae)) (cb bt.nd rfl (by first | exact .inl rfl | exact .inr rfl)) c5 (cH (af (jR (tn:=["_law_k"]) (n:=0) bt.nd rfl (by first | exact .inl rfl | exact .inr rfl) (bL (N:=dY) (osc:=(ag d5)) rfl rfl (by decide+kernel)) rfl rfl (gU rfl B.range (aa (ab (pv 4)) ae)) (fun _ _ _ _ _ _ _=>cW (show List.Nodup (((["_law_k"]:List Str))++cB ["_law_k"] dY) by decide+kernel) rfl rfl) (fun _ _ _ _ _ _=>c6) (fun _ _ _ _ _ _=>(wF (ab (pv 6)) (aV aY (hr.mono (by decide)) rfl bK (aa (ab (pv 1)) (aa (bA (bA (bA (ab (pv 2)) aj) (e7 aj (ab (pv 8)))) (ab (pv 0))) (aa (bj rfl B.len (aa (ab (pv 6)) ae)) ae))) rfl)))) (ai (aT bt.nd rfl (by first | exact .inl rfl | exact .inr rfl) (yC (ab (pv 6)) (jg (aa (yD lx (aa (ab (pv 8)) ae)) ae))))))))) (ai (au (ab (pv 6)))))))))
abbrev d_:Stmt:=top 35
def gu:List Str:=["_law_script","_law_at","_law_board_here"]
def gy:List Str:=["_law_script","_law_at","_law_board_here"]
theorem lN:FnScope gu gy (ag d_):=⟨rfl,rfl,rfl,by decide+kernel,rfl,by decide+kernel,by decide+kernel⟩
theorem k7(B:Bl K mg base cv cA Cp)(aY:aq P w K mg base cv 2 "_law_drawn" 3 aw)(T:bx K mg "_law_cell_in" d_ f):aq P w K mg base cv 3 "_law_cell_in" 3 (bc):=
 aD (N:=gu) (ps:=gy) T lN (fun _ _ _ _ _ _ us hl=>match us,hl with | [_,_,_],_=>rfl) fun b8 A outer s H E hr=>
  (ai (au (jg (aa (aV aY (hr.mono (by decide)) rfl a6 (aa (ab (pv 0)) (aa (ab (pv 1)) (aa (bj rfl B.len (aa (ab (pv 2)) ae)) ae))) rfl) (aa (aV aY (hr.mono (by decide)) rfl a6 (aa (ab (pv 0)) (aa (bA (ab (pv 1)) aj) (aa (bj rfl B.len (aa (bH (ab (pv 2)) aj) ae)) ae))) rfl) ae)))))
abbrev fb:Stmt:=top 15
def iq:List Str:=["thing"]
def iD:List Str:=["thing"]
theorem mi:FnScope iq iD (ag fb):=⟨rfl,rfl,rfl,by decide+kernel,rfl,by decide+kernel,by decide+kernel⟩
theorem md(B:Bl K mg base cv cA Cp)(rf:aq P w K mg base cv 3 "is_board" 1 eR)(T:bx K mg "need_board" fb f):aq P w K mg base cv 4 "need_board" 1 (bY):=
 aD (N:=iq) (ps:=iD) T mi (fun _ _ _ _ _ _ us hl=>match us,hl with | [_],_=>rfl) fun b8 A outer s H E hr=>
  (ai (aQ (a_ (aS (aV rf (hr.mono (by decide)) rfl a6 (aa (ab (pv 0)) ae) rfl))) (ai ji) aH))
abbrev fe:Stmt:=top 25
def iu:List Str:=["board","start","ways","back","ring","further","cell","near"]
def iF:List Str:=["board","start","ways"]
theorem bw:FnScope iu iF (ag fe):=⟨rfl,rfl,rfl,by decide+kernel,rfl,by decide+kernel,by decide+kernel⟩
theorem mf(B:Bl K mg base cv cA Cp)(eL:aq P w K mg base cv 3 "like_cells" 3 aK)(T:bx K mg "steps_back" fe f):aq P w K mg base cv 4 "steps_back" 3 (aL):=
 aD (N:=iu) (ps:=iF) T bw (fun _ _ _ _ _ _ us hl=>match us,hl with | [_,_,_],_=>rfl) fun b8 A outer s H E hr=>
  (af (qr bw.nd rfl (by first | exact .inl rfl | exact .inr rfl) (uU hr.units (ab (pv 1)) r9)) (af (aT bw.nd rfl (by first | exact .inl rfl | exact .inr rfl) (lq (aa (ab (pv 1)) ae))) (af (e8 (nB PassesOwn.never (aS (ab (pv 4))) (cH (af (tP bw.nd rfl (by first | exact .inl rfl | exact .inr rfl)) (af (d3 PassesOwn.never rfl (c0 (ab (pv 4))) (cb bw.nd rfl (by first | exact .inl rfl | exact .inr rfl)) c5 (cH (ai (d3 PassesOwn.never rfl (c0 (aV eL (hr.mono (by decide)) rfl bK (aa (ab (pv 0)) (aa (ab (pv 6)) (aa (ab (pv 2)) ae))) rfl)) (cb bw.nd rfl (by first | exact .inl rfl | exact .inr rfl)) c5 (cH (ai (aQ (wH (jj hr.units (ab (pv 7)) (ab (pv 3)))) (af (qt hr.units (pv 3) (ab (pv 7)) (ab (pv 6))) (ai (oK (pv 5) (ab (pv 7))))) aH))))))) (ai (iL (i:=5) (aT bw.nd rfl (by first | exact .inl rfl | exact .inr rfl) (ab (pv 5)))))))))) (ai (iL (i:=3) (au (ab (pv 3))))))))
abbrev cR:Stmt:=top 23
def ez:List Str:=["board","ways","one","other"]
def eA:List Str:=["board","ways","one","other"]
theorem iO:FnScope ez eA (ag cR):=⟨rfl,rfl,rfl,by decide+kernel,rfl,by decide+kernel,by decide+kernel⟩
theorem iB(B:Bl K mg base cv cA Cp)(eM:aq P w K mg base cv 4 "need_board" 1 bY)(fw:aq P w K mg base cv 2 "need_ways" 1 cx)(dR:aq P w K mg base cv 3 "need_cell" 2 bT)(T:bx K mg "need_two_cells" cR f):aq P w K mg base cv 5 "need_two_cells" 4 (aI):=
 aD (N:=ez) (ps:=eA) T iO (fun _ _ _ _ _ _ us hl=>match us,hl with | [_,_,_,_],_=>rfl) fun b8 A outer s H E hr=>
  (af (cG (aV eM (hr.mono (by decide)) rfl a6 (aa (ab (pv 0)) ae) rfl)) (af (cG (aV fw (hr.mono (by decide)) rfl a6 (aa (ab (pv 1)) ae) rfl)) (af (cG (aV dR (hr.mono (by decide)) rfl a6 (aa (ab (pv 0)) (aa (ab (pv 2)) ae)) rfl)) (ai (cG (aV dR (hr.mono (by decide)) rfl a6 (aa (ab (pv 0)) (aa (ab (pv 3)) ae)) rfl))))))
abbrev g6:Stmt:=top 26
def kW:List Str:=["board","cell","ways"]
def lh:List Str:=["board","cell","ways"]
theorem qI:FnScope kW lh (ag g6):=⟨rfl,rfl,rfl,by decide+kernel,rfl,by decide+kernel,by decide+kernel⟩
theorem qk(B:Bl K mg base cv cA Cp)(eM:aq P w K mg base cv 4 "need_board" 1 bY)(dR:aq P w K mg base cv 3 "need_cell" 2 bT)(fw:aq P w K mg base cv 2 "need_ways" 1 cx)(cz:aq P w K mg base cv 4 "steps_back" 3 aL)(T:bx K mg "patch_of" g6 f):aq P w K mg base cv 5 "patch_of" 3 (bU):=
 aD (N:=kW) (ps:=lh) T qI (fun _ _ _ _ _ _ us hl=>match us,hl with | [_,_,_],_=>rfl) fun b8 A outer s H E hr=>
  (af (cG (aV eM (hr.mono (by decide)) rfl a6 (aa (ab (pv 0)) ae) rfl)) (af (cG (aV dR (hr.mono (by decide)) rfl a6 (aa (ab (pv 0)) (aa (ab (pv 1)) ae)) rfl)) (af (cG (aV fw (hr.mono (by decide)) rfl a6 (aa (ab (pv 2)) ae) rfl)) (ai (au (yF rfl rfl B.sorted rfl (aa (aV cz (hr.mono (by decide)) rfl a6 (aa (ab (pv 0)) (aa (ab (pv 1)) (aa (ab (pv 2)) ae))) rfl) ae)))))))
abbrev jo:Stmt:=top 27
def nh:List Str:=["board","ways","one","other"]
def nz:List Str:=["board","ways","one","other"]
theorem si:FnScope nh nz (ag jo):=⟨rfl,rfl,rfl,by decide+kernel,rfl,by decide+kernel,by decide+kernel⟩
theorem rV(B:Bl K mg base cv cA Cp)(aZ:aq P w K mg base cv 5 "need_two_cells" 4 aI)(cz:aq P w K mg base cv 4 "steps_back" 3 aL)(T:bx K mg "are_one" jo f):aq P w K mg base cv 6 "are_one" 4 (di):=
 aD (N:=nh) (ps:=nz) T si (fun _ _ _ _ _ _ us hl=>match us,hl with | [_,_,_,_],_=>rfl) fun b8 A outer s H E hr=>
  (af (cG (aV aZ (hr.mono (by decide)) rfl a6 (aa (ab (pv 0)) (aa (ab (pv 1)) (aa (ab (pv 2)) (aa (ab (pv 3)) ae)))) rfl)) (ai (au (wD hr.units (ab (pv 3)) (aV cz (hr.mono (by decide)) rfl a6 (aa (ab (pv 0)) (aa (ab (pv 2)) (aa (ab (pv 1)) ae))) rfl)))))
abbrev xb:Stmt:=top 28
def zO:List Str:=["board","ways","one","other","back","told"]
def zW:List Str:=["board","ways","one","other"]
theorem sk:FnScope zO zW (ag xb):=⟨rfl,rfl,rfl,by decide+kernel,rfl,by decide+kernel,by decide+kernel⟩
theorem A5(B:Bl K mg base cv cA Cp)(aZ:aq P w K mg base cv 5 "need_two_cells" 4 aI)(cz:aq P w K mg base cv 4 "steps_back" 3 aL)(T:bx K mg "way" xb f):aq P w K mg base cv 6 "way" 4 (fB):=
 aD (N:=zO) (ps:=zW) T sk (fun _ _ _ _ _ _ us hl=>match us,hl with | [_,_,_,_],_=>rfl) fun b8 A outer s H E hr=>
  (af (cG (aV aZ (hr.mono (by decide)) rfl a6 (aa (ab (pv 0)) (aa (ab (pv 1)) (aa (ab (pv 2)) (aa (ab (pv 3)) ae)))) rfl)) (af (aT sk.nd rfl (by first | exact .inl rfl | exact .inr rfl) (aV cz (hr.mono (by decide)) rfl a6 (aa (ab (pv 0)) (aa (ab (pv 3)) (aa (ab (pv 1)) ae))) rfl)) (af (aQ (jj hr.units (ab (pv 2)) (ab (pv 4))) (ai (au r9)) aH) (af (qr sk.nd rfl (by first | exact .inl rfl | exact .inr rfl) (yH (aa (ab (pv 2)) ae))) (af (e8 (nB PassesOwn.never (wH (gA hr.units (eZ (ab (pv 5)) (lr aj)) (ab (pv 3)))) (ai (oK (pv 5) (Dr (Bi hr.units (ab (pv 4)) (eZ (ab (pv 5)) (lr aj)))))))) (ai (iL (i:=5) (au (ab (pv 5))))))))))
abbrev fP:Stmt:=top 29
def eo:List Str:=["board","ways","one","other","thing","letter"]
def qo:List Str:=["board","ways","one","other","thing"]
theorem nM:FnScope eo qo (ag fP):=⟨rfl,rfl,rfl,by decide+kernel,rfl,by decide+kernel,by decide+kernel⟩
set_option maxHeartbeats 4000000 in
theorem uN(B:Bl K mg base cv cA Cp)(aZ:aq P w K mg base cv 5 "need_two_cells" 4 aI)(cZ:aq P w K mg base cv 1 "letter_of" 2 bf)(cg:aq P w K mg base cv 3 "is_list_of_cells" 2 aP)(gG:aq P w K mg base cv 1 "are_next" 3 bE)(T:bx K mg "is_way" fP f):aq P w K mg base cv 6 "is_way" 5 (bJ):=
 aD (N:=eo) (ps:=qo) T nM (fun _ _ _ _ _ _ us hl=>match us,hl with | [_,_,_,_,_],_=>rfl) fun b8 A outer s H E hr=>
  (af (cG (aV aZ (hr.mono (by decide)) rfl a6 (aa (ab (pv 0)) (aa (ab (pv 1)) (aa (ab (pv 2)) (aa (ab (pv 3)) ae)))) rfl)) (af (aQ (PDW.t (dI (a_ (aS (aV cg (hr.mono (by decide)) rfl a6 (aa (ab (pv 0)) (aa (ab (pv 4)) ae)) rfl))) (cF (lD hr.units (bj rfl B.len (aa (ab (pv 4)) ae)) aj)))) (ai (au bQ)) aH) (af (aQ (PDW.t (dI (gA hr.units (eZ (ab (pv 4)) aj) (ab (pv 2))) (cF (gA hr.units (eZ (ab (pv 4)) (lr aj)) (ab (pv 3)))))) (ai (au bQ)) aH) (af (aT nM.nd rfl (by first | exact .inl rfl | exact .inr rfl) (aV cZ (hr.mono (by decide)) rfl a6 (aa (ab (pv 0)) (aa (ab (pv 2)) ae)) rfl)) (af (aQ (a_ (aS (gR rfl rfl B.all rfl (aa (dZ (tn:=["cell"]) (n:=0) (bL (N:=eo) (osc:=(ag fP)) rfl rfl (by decide+kernel)) rfl rfl (c0 (ab (pv 4))) (fun _ _ _ _ _ _ _=>cW (show List.Nodup (((["cell"]:List Str))++cB ["cell"] eo) by decide+kernel) rfl rfl) (fun _ _ _ _ _ _=>c6) (fun _ _ _ _ _ _=>(qp hr.units (aV cZ (hr.mono (by decide)) rfl bK (aa (ab (pv 1)) (aa (ab (pv 0)) ae)) rfl) (ab (pv 6))))) ae)))) (ai (au bQ)) aH) (ai (au (gR rfl rfl B.all rfl (aa (dZ (tn:=["place"]) (n:=0) (bL (N:=eo) (osc:=(ag fP)) rfl rfl (by decide+kernel)) rfl rfl (gW rfl B.range (aa aj (aa (bj rfl B.len (aa (ab (pv 4)) ae)) ae))) (fun _ _ _ _ _ _ _=>cW (show List.Nodup (((["place"]:List Str))++cB ["place"] eo) by decide+kernel) rfl rfl) (fun _ _ _ _ _ _=>c6) (fun _ _ _ _ _ _=>(aV gG (hr.mono (by decide)) rfl bK (aa (eZ (ab (pv 5)) (ly (ab (pv 0)) aj)) (aa (eZ (ab (pv 5)) (ab (pv 0))) (aa (ab (pv 2)) ae))) rfl))) ae)))))))))
abbrev e_:Stmt:=top 30
def eX:List Str:=["board","ways","one","other","thing","inside","cell"]
def la:List Str:=["board","ways","one","other","thing"]
theorem fV:FnScope eX la (ag e_):=⟨rfl,rfl,rfl,by decide+kernel,rfl,by decide+kernel,by decide+kernel⟩
set_option maxHeartbeats 4000000 in
theorem qh(B:Bl K mg base cv cA Cp)(aZ:aq P w K mg base cv 5 "need_two_cells" 4 aI)(xI:aq P w K mg base cv 1 "keyed" 1 j7)(cg:aq P w K mg base cv 3 "is_list_of_cells" 2 aP)(eL:aq P w K mg base cv 3 "like_cells" 3 aK)(T:bx K mg "is_fence" e_ f):aq P w K mg base cv 6 "is_fence" 5 (aX):=
 aD (N:=eX) (ps:=la) T fV (fun _ _ _ _ _ _ us hl=>match us,hl with | [_,_,_,_,_],_=>rfl) fun b8 A outer s H E hr=>
  (af (cG (aV aZ (hr.mono (by decide)) rfl a6 (aa (ab (pv 0)) (aa (ab (pv 1)) (aa (ab (pv 2)) (aa (ab (pv 3)) ae)))) rfl)) (af (aQ (a_ (aS (aV cg (hr.mono (by decide)) rfl a6 (aa (ab (pv 0)) (aa (ab (pv 4)) ae)) rfl))) (ai (au bQ)) aH) (af (aT fV.nd rfl (by first | exact .inl rfl | exact .inr rfl) (aV xI (hr.mono (by decide)) rfl a6 (aa (ab (pv 4)) ae) rfl)) (af (aQ (PDW.t (dI (jj hr.units (ab (pv 2)) (ab (pv 5))) (cF (BB hr.units (ab (pv 3)) (ab (pv 5)))))) (ai (au bQ)) aH) (af (e8 (d3 PassesOwn.never rfl (qq (ab (pv 5))) (cb fV.nd rfl (by first | exact .inl rfl | exact .inr rfl)) c5 (cH (ai (aQ (a_ (aS (gR rfl rfl B.all rfl (aa (dZ (tn:=["near"]) (n:=0) (bL (N:=eX) (osc:=(ag e_)) rfl rfl (by decide+kernel)) rfl rfl (c0 (aV eL (hr.mono (by decide)) rfl bK (aa (ab (pv 0)) (aa (ab (pv 6)) (aa (ab (pv 1)) ae))) rfl)) (fun _ _ _ _ _ _ _=>cW (show List.Nodup (((["near"]:List Str))++cB ["near"] eX) by decide+kernel) rfl rfl) (fun _ _ _ _ _ _=>c6) (fun _ _ _ _ _ _=>(wD hr.units (ab (pv 0)) (ab (pv 6))))) ae)))) (ai (au bQ)) aH))))) (ai (au bQ)))))))
abbrev ef:Stmt:=top 36
def gw:List Str:=["_law_board_here","_law_ways","_law_one","_law_other","_law_row"]
def gz:List Str:=["_law_board_here","_law_ways","_law_one","_law_other","_law_row"]
theorem lO:FnScope gw gz (ag ef):=⟨rfl,rfl,rfl,by decide+kernel,rfl,by decide+kernel,by decide+kernel⟩
theorem k8(B:Bl K mg base cv cA Cp)(dr:aq P w K mg base cv 6 "is_way" 5 bJ)(pz:aq P w K mg base cv 6 "way" 4 fB)(T:bx K mg "_law_is_told" ef f):aq P w K mg base cv 7 "_law_is_told" 5 (bM):=
 aD (N:=gw) (ps:=gz) T lO (fun _ _ _ _ _ _ us hl=>match us,hl with | [_,_,_,_,_],_=>rfl) fun b8 A outer s H E hr=>
  (af (aQ (PDW.t (dI (a_ (aS (aV dr (hr.mono (by decide)) rfl a6 (aa (ab (pv 0)) (aa (ab (pv 1)) (aa (ab (pv 2)) (aa (ab (pv 3)) (aa (ab (pv 4)) ae))))) rfl))) (cF (a_ (aS (aV dr (hr.mono (by decide)) rfl a6 (aa (ab (pv 0)) (aa (ab (pv 1)) (aa (ab (pv 3)) (aa (ab (pv 2)) (aa (tL (ab (pv 4)) (lr aj)) ae))))) rfl)))))) (ai (au bQ)) aH) (af (aQ (PDW.t (dI (gA hr.units (bj rfl B.len (aa (aV pz (hr.mono (by decide)) rfl a6 (aa (ab (pv 0)) (aa (ab (pv 1)) (aa (ab (pv 3)) (aa (ab (pv 2)) ae)))) rfl) ae)) (bj rfl B.len (aa (ab (pv 4)) ae))) (cF (gA hr.units (uT rfl hr.units rfl B.len rfl B.set rfl rfl (ab (pv 4))) (bj rfl B.len (aa (ab (pv 4)) ae)))))) (ai (au bQ)) aH) (ai (au (aV dr (hr.mono (by decide)) rfl a6 (aa (ab (pv 0)) (aa (ab (pv 1)) (aa (ab (pv 2)) (aa (ab (pv 3)) (aa (j_ (j_ (ab (pv 4)) (tM (tL (ab (pv 4)) (lr aj)) (iJ aj) iI)) (tM (ab (pv 4)) (iJ aj) iI)) ae))))) rfl)))))
abbrev aJ:Stmt:=top 37
def cy:List Str:=["_law_script","_law_board_here","_law_k","_law_ways","_law_one","_law_other","_law_patch","_law_row","_law_joined","_law_rest","_law_more"]
def jf:List Str:=["_law_script"]
theorem a8:FnScope cy jf (ag aJ):=⟨rfl,rfl,rfl,by decide+kernel,rfl,by decide+kernel,by decide+kernel⟩
set_option maxHeartbeats 4000000 in
theorem oZ(B:Bl K mg base cv cA Cp)(fv:aq P w K mg base cv 3 "_law_board" 3 cw){b8:Value}{A:Around}{outer:List Env}{s:Shared}{H:Hp}{E:XK}(hr:Room 7 (A.deeper (envOfC "law" (ag aJ) s.heap.objs.size f b8))):
 Box (j3 (fo (nW P w cv) P w K mg base cy "law" (ag aJ) f b8 A outer s H E) (fun n H'=>E (cv n) none H') ((bD aJ).getD 0 (.Pass ⟨0,0,0,0⟩)) jX):=
 ⟨(aT a8.nd rfl (by first | exact .inl rfl | exact .inr rfl) (aV fv (hr.mono (by decide)) rfl a6 (aa (ab (pv 0)) (aa aj (aa aj ae))) rfl))⟩
set_option maxHeartbeats 4000000 in
theorem o3(B:Bl K mg base cv cA Cp)(cT:aq P w K mg base cv 3 "_law_cell_in" 3 bc)(eN:aq P w K mg base cv 5 "patch_of" 3 bU)(pz:aq P w K mg base cv 6 "way" 4 fB)(iY:aq P w K mg base cv 6 "are_one" 4 di)(aY:aq P w K mg base cv 2 "_law_drawn" 3 aw)(cf:aq P w K mg base cv 6 "is_fence" 5 aX)(d6:aq P w K mg base cv 7 "_law_is_told" 5 bM)(dr:aq P w K mg base cv 6 "is_way" 5 bJ){b8:Value}{A:Around}{outer:List Env}{s:Shared}{H:Hp}{E:XK}(hr:Room 7 (A.deeper (envOfC "law" (ag aJ) s.heap.objs.size f b8))):
 Box (j3 (fo (nW P w cv) P w K mg base cy "law" (ag aJ) f b8 A outer s H E) (fun n H'=>E (cv n) none H') ((bD aJ).getD 1 (.Pass ⟨0,0,0,0⟩)) jY):=
 ⟨(e8 (d3 PassesOwn.never rfl (gU rfl B.range (aa aj ae)) (cb a8.nd rfl (by first | exact .inl rfl | exact .inr rfl)) c5 (cH (af (aT a8.nd rfl (by first | exact .inl rfl | exact .inr rfl) (eZ (lq (aa aj (aa aj ae))) (gT (ab (pv 2)) aj))) (af (aT a8.nd rfl (by first | exact .inl rfl | exact .inr rfl) (aV cT (hr.mono (by decide)) rfl bK (aa (ab (pv 0)) (aa (bA aj (e7 aj (ab (pv 2)))) (aa (ab (pv 1)) ae))) rfl)) (af (aT a8.nd rfl (by first | exact .inl rfl | exact .inr rfl) (aV cT (hr.mono (by decide)) rfl bK (aa (ab (pv 0)) (aa (bA aj (e7 aj (ab (pv 2)))) (aa (ab (pv 1)) ae))) rfl)) (af (aT a8.nd rfl (by first | exact .inl rfl | exact .inr rfl) (aV eN (hr.mono (by decide)) rfl bK (aa (ab (pv 1)) (aa (ab (pv 4)) (aa (ab (pv 3)) ae))) rfl)) (af (aQ (lD hr.units (aV aY (hr.mono (by decide)) rfl bK (aa (ab (pv 0)) (aa (bA aj (ab (pv 2))) (aa aj ae))) rfl) aj) (ai (aT a8.nd rfl (by first | exact .inl rfl | exact .inr rfl) (eZ (ab (pv 6)) (aV aY (hr.mono (by decide)) rfl bK (aa (ab (pv 0)) (aa (bA aj (ab (pv 2))) (aa (bj rfl B.len (aa (ab (pv 6)) ae)) ae))) rfl)))) aH) (af (aT a8.nd rfl (by first | exact .inl rfl | exact .inr rfl) (aV pz (hr.mono (by decide)) rfl bK (aa (ab (pv 1)) (aa (ab (pv 3)) (aa (ab (pv 4)) (aa (ab (pv 5)) ae)))) rfl)) (af (aT a8.nd rfl (by first | exact .inl rfl | exact .inr rfl) (aV iY (hr.mono (by decide)) rfl bK (aa (ab (pv 1)) (aa (ab (pv 3)) (aa (ab (pv 4)) (aa (ab (pv 5)) ae)))) rfl)) (af (aQ (PDW.t (dI (gA hr.units (ab (pv 8)) (Bh hr.units (ab (pv 5)) (ab (pv 6)))) (cF (gA hr.units (ab (pv 8)) (yE (ab (pv 7)) r9))))) (ai (au bQ)) aH) (af (aQ (lD hr.units (aV cf (hr.mono (by decide)) rfl bK (aa (ab (pv 1)) (aa (ab (pv 3)) (aa (ab (pv 4)) (aa (ab (pv 5)) (aa (ab (pv 6)) ae))))) rfl) (ab (pv 8))) (ai (au bQ)) aH) (ai (aQ (aS (ab (pv 8))) (af (aQ (a_ (aS (aV d6 (hr.mono (by decide)) rfl bK (aa (ab (pv 1)) (aa (ab (pv 3)) (aa (ab (pv 4)) (aa (ab (pv 5)) (aa (ab (pv 7)) ae))))) rfl))) (ai (au bQ)) aH) (af (aQ (PDW.t (kc (zZ (bj rfl B.len (aa (ab (pv 7)) ae)) aj) (kc (aS (aV dr (hr.mono (by decide)) rfl bK (aa (ab (pv 1)) (aa (ab (pv 3)) (aa (ab (pv 4)) (aa (ab (pv 5)) (aa (j_ (tM (ab (pv 7)) iI (iJ aj)) (tM (ab (pv 7)) (iJ aj) iI)) ae))))) rfl)) (lA (lD hr.units (ab (pv 3)) aj))))) (ai (au bQ)) aH) (af (jR (tn:=["_law_cell_here"]) (n:=0) a8.nd rfl (by first | exact .inl rfl | exact .inr rfl) (bL (N:=cy) (osc:=(ag aJ)) rfl rfl (by decide+kernel)) rfl rfl (c0 (ab (pv 6))) (fun _ _ _ _ _ _ _=>cW (show List.Nodup (((["_law_cell_here"]:List Str))++cB ["_law_cell_here"] cy) by decide+kernel) rfl rfl) (fun _ _ _ _ _ _=>(qN (gA hr.units (ab (pv 0)) (ab (pv 6))))) (fun _ _ _ _ _ _=>(ab (pv 0)))) (ai (aQ (PDW.t (kc (gA hr.units (ab (pv 4)) (ab (pv 5))) (lA (aS (aV cf (hr.mono (by decide)) rfl bK (aa (ab (pv 1)) (aa (ab (pv 3)) (aa (ab (pv 4)) (aa (ab (pv 5)) (aa (ab (pv 9)) ae))))) rfl))))) (ai (au bQ)) aH))))) (af (aT a8.nd rfl (by first | exact .inl rfl | exact .inr rfl) (aV eN (hr.mono (by decide)) rfl bK (aa (ab (pv 1)) (aa (ab (pv 5)) (aa (ab (pv 3)) ae))) rfl)) (af (aQ (a_ (aS (aV cf (hr.mono (by decide)) rfl bK (aa (ab (pv 1)) (aa (ab (pv 3)) (aa (ab (pv 5)) (aa (ab (pv 4)) (aa (ab (pv 10)) ae))))) rfl))) (ai (au bQ)) aH) (af (aQ (aS (aV cf (hr.mono (by decide)) rfl bK (aa (ab (pv 1)) (aa (ab (pv 3)) (aa (ab (pv 4)) (aa (ab (pv 5)) (aa (j_ (ab (pv 6)) (ab (pv 10))) ae))))) rfl)) (ai (au bQ)) aH) (ai (aQ (PDW.t (kc (zZ (bj rfl B.len (aa (ab (pv 6)) ae)) aj) (lA (aS (aV cf (hr.mono (by decide)) rfl bK (aa (ab (pv 1)) (aa (ab (pv 3)) (aa (ab (pv 4)) (aa (ab (pv 5)) (aa (lq (aa (ab (pv 4)) ae)) ae))))) rfl))))) (ai (au bQ)) aH)))))))))))))))))))⟩
set_option maxHeartbeats 4000000 in
theorem o4(B:Bl K mg base cv cA Cp){b8:Value}{A:Around}{outer:List Env}{s:Shared}{H:Hp}{E:XK}(hr:Room 7 (A.deeper (envOfC "law" (ag aJ) s.heap.objs.size f b8))):
 Box (j3 (fo (nW P w cv) P w K mg base cy "law" (ag aJ) f b8 A outer s H E) (fun n H'=>E (cv n) none H') ((bD aJ).getD 2 (.Pass ⟨0,0,0,0⟩)) jZ):=
 ⟨(au bQ)⟩
set_option maxHeartbeats 4000000 in
theorem qe{fd:FuncData}(B:Bl K mg base cv cA Cp)(fv:aq P w K mg base cv 3 "_law_board" 3 cw)(cT:aq P w K mg base cv 3 "_law_cell_in" 3 bc)(eN:aq P w K mg base cv 5 "patch_of" 3 bU)(pz:aq P w K mg base cv 6 "way" 4 fB)(iY:aq P w K mg base cv 6 "are_one" 4 di)(aY:aq P w K mg base cv 2 "_law_drawn" 3 aw)(cf:aq P w K mg base cv 6 "is_fence" 5 aX)(d6:aq P w K mg base cv 7 "_law_is_told" 5 bM)(dr:aq P w K mg base cv 6 "is_way" 5 bJ)(Fn:Fun K "law" "law" aJ f fd):FnOk P w K mg base (nW P w cv) 8 f fd jf (Ca K cv 1 f9):=
 CA (N:=cy) (ps:=jf) (τ:=ju) Fn a8 fun b8 A outer s H E hr=>by
  obtain⟨I_⟩:Box (PSDs (fo (nW P w cv) P w K mg base cy "law" (ag aJ) f b8 A outer s H E) (fun n H'=>E (cv n) none H') (bD aJ) ju):=(vv (oZ B fv hr) (vv (o3 B cT eN pz iY aY cf d6 dr hr) (Ag (o4 B hr))))
  assumption
end
end K1
namespace K1
open PySem L2 L3
theorem we{ds:List D}(h:ds.length≤lim):dW ds=M.ret (.lst ds):=if_pos h
theorem ei:lim=4096:=rfl
theorem eg{α:Type}{xs:List α}{i:Nat}{x:α}(h:xs[i]? =some x):L2.atI xs (i:Int)=some x:=by
 obtain⟨hi,e⟩:=List.getElem?_eq_some_iff.mp h
 unfold L2.atI xF
 rw[if_pos (Int.natCast_nonneg i),if_pos (by exact Int.ofNat_lt.mpr hi)]
 exact h
theorem ak{m:Nat}{g:List D→M D}{δs:DA}{ρ:aW}{ds:List D}(h:δs ρ=M.ret ds)(hl:ds.length=m):ah m g δs ρ=g ds:=by
 unfold ah
 rw[h]
 exact if_pos hl
theorem ay{a:DE}{r:DA}{ρ:aW}{x:D}{xs:List D}(h1:a ρ=M.ret x)(h2:r ρ=M.ret xs):aC a r ρ=M.ret (x::xs):=by
 unfold aC
 rw[h1,ar,h2]
 rfl
theorem aB{g:D→D→M D}{a b:DE}{ρ:aW}{x y:D}(h1:a ρ=M.ret x)(h2:b ρ=M.ret y):d2 g a b ρ=g x y:=by
 unfold d2
 rw[h1,ar,h2]
 rfl
theorem cj{g:List D→M D}{a:DA}{ρ:aW}{xs:List D}(h:a ρ=M.ret xs):dA g a ρ=g xs:=by
 unfold dA
 rw[h]
 rfl
theorem dB{i j:Int}(h:0<j):gj (.int i) (.int j)=M.ret (.int (i % j)):=by
 show (if decide (0<j)=true then _ else _)=_
 rw[if_pos (decide_eq_true h)]
theorem h9{i j:Int}(h:0<j)(h2:j<1073741824):l6 (.int i) (.int j)=M.ret (.int (i / j)):=by
 show (if decide (0<j∧j<1073741824)=true then _ else _)=_
 rw[if_pos (decide_eq_true ⟨h,h2⟩)]
theorem dD{i j:Int}(h:(-(2 ^ 64)<i∧i<2 ^ 64)∨(-(2 ^ 64)<j∧j<2 ^ 64)):dP (.int i) (.int j)=M.ret (.int (i*j)):=by
 show (if decide _=true then _ else _)=_
 rw[if_pos (decide_eq_true h)]
theorem fE{i j:Int}:bF (.int i) (.int j)=M.ret (.int (i+j)):=rfl
theorem vz(ns:List Int)(hl:ns.length≤63)(k:Nat):∃v,dz [.scr ns, .int (k:Int)]=M.ret (.int v):=by
 cases ns with
 |nil=>
  refine⟨7*(k:Int),?_⟩
  rfl
 |cons n r=>
  have hp:0<(n::r).length:=Nat.succ_pos _
  generalize e:(n::r)=ns at*
  have he:iV 6 (.scr ns) (.lst [])=some false:=by subst e;rfl
  obtain⟨y,hy⟩:∃y,ns[k % ns.length]? =some y:=⟨_,List.getElem?_eq_getElem (Nat.mod_lt _ hp)⟩
  have GP:(0:Int)<(ns.length:Int):=by omega
  have h1:gj (.int (k:Int)) (.int (ns.length:Int))=M.ret (.int ((k % ns.length:Nat):Int)):=dB GP
  have h2:l6 (.int (k:Int)) (.int (ns.length:Int))=M.ret (.int ((k:Int) / (ns.length:Int))):=h9 GP (by omega)
  have h3:vP (.scr ns) (.int ((k % ns.length:Nat):Int))=M.ret (.int y):=by
   show (match L2.atI ns ((k % ns.length:Nat):Int) with | some n=>M.ret (D.int n) | none=>M.stuck)=_
   rw[eg hy]
  have h4:dP (.int 6553) (.int ((k:Int) / (ns.length:Int)))=M.ret (.int (6553*((k:Int) / (ns.length:Int)))):=dD (.inl ⟨by decide,by decide⟩)
  refine⟨y+6553*((k:Int) / (ns.length:Int)),?_⟩
  simp only[dz,lX,bW,aA,cK,aO,ba,bN,d2,dV,dC,dA,aC,aN,dW,aU,vb,gi,he,ar,h1,h2,h3,h4,List.map_cons,List.map_nil,List.cons_append,List.nil_append,List.length_cons,List.length_nil,List.getElem?_cons_zero,List.getElem?_cons_succ,ei,Nat.reduceAdd,Nat.zero_le,if_true,Bool.false_eq_true,if_false,bF,gI]
theorem cu(ns:List Int)(hl:ns.length≤63)(k m:Nat)(hm:0<m):∃v:Nat,v<m∧aw [.scr ns, .int (k:Int), .int (m:Int)]=M.ret (.int (v:Int)):=by
 obtain⟨c,hc⟩:=vz ns hl k
 have b1:=Int.emod_nonneg (c % 2147483563*69069+104723*((k:Int)+1)) (b:=2147483563) (by decide)
 have b2:=Int.emod_lt_of_pos (c % 2147483563*69069+104723*((k:Int)+1)) (b:=2147483563) (by decide)
 generalize hx:(c % 2147483563*69069+104723*((k:Int)+1)) % 2147483563=x at b1 b2
 have b3:=Int.emod_nonneg (x*x+x / 3) (b:=2147483399) (by decide)
 have b4:=Int.emod_lt_of_pos (x*x+x / 3) (b:=2147483399) (by decide)
 generalize hy:(x*x+x / 3) % 2147483399=y at b3 b4
 have m1:dP (.int (c % 2147483563)) (.int 69069)=_:=dD (.inr ⟨by decide,by decide⟩)
 have m2:dP (.int 104723) (.int ((k:Int)+1))=_:=dD (.inl ⟨by decide,by decide⟩)
 have m3:dP (.int x) (.int x)=_:=dD (.inl ⟨by omega,by omega⟩)
 have m4:dP (.int y) (.int y)=_:=dD (.inl ⟨by omega,by omega⟩)
 have hM:(0:Int)<(m:Int):=Int.ofNat_lt.mpr hm
 have n1:=Int.emod_nonneg ((y*y+y / 7) % 2147483647 / 11) (b:=(m:Int)) (by omega)
 have n2:=Int.emod_lt_of_pos ((y*y+y / 7) % 2147483647 / 11) hM
 have q1:gj (.int c) (.int 2147483563)=_:=dB (by decide)
 have q2:gj (.int (c % 2147483563*69069+104723*((k:Int)+1))) (.int 2147483563)=_:=dB (by decide)
 have q3:l6 (.int x) (.int 3)=_:=h9 (by decide) (by decide)
 have q4:gj (.int (x*x+x / 3)) (.int 2147483399)=_:=dB (by decide)
 have q5:l6 (.int y) (.int 7)=_:=h9 (by decide) (by decide)
 have q6:gj (.int (y*y+y / 7)) (.int 2147483647)=_:=dB (by decide)
 have q7:l6 (.int ((y*y+y / 7) % 2147483647)) (.int 11)=_:=h9 (by decide) (by decide)
 have q8:gj (.int ((y*y+y / 7) % 2147483647 / 11)) (.int (m:Int))=_:=dB hM
 refine⟨((y*y+y / 7) % 2147483647 / 11 % (m:Int)).toNat,by omega,?_⟩
 rw[Int.toNat_of_nonneg n1]
 rw[hx] at q2
 rw[hy] at q4
 simp only[aw,jW,bW,aA,bp,aO,ah,d2,dV,dC,dA,aC,aN,ar,hc,List.map_cons,List.map_nil,List.cons_append,List.nil_append,List.length_cons,List.length_nil,List.getElem?_cons_zero,List.getElem?_cons_succ,List.replicate,List.set_cons_zero,List.set_cons_succ,Nat.reduceAdd,Nat.reduceSub,if_true,fE,m1,m2,m3,m4,q1,q2,q3,q4,q5,q6,q7,q8]
theorem wk{α:Type}(a:α):noex (M.ret a)=M.ret a:=rfl
theorem pP{put:D→aW→Option aW}{body:DS}{I:Nat→aW→Prop}:∀(ds:List D) (i:Nat) (ρ:aW),I i ρ→
 (∀j d,ds[j]? =some d→∀ρ,I (i+j) ρ→∃ρ1 ρ2,put d ρ=some ρ1∧body ρ1=M.ret (.nx ρ2)∧I (i+j+1) ρ2)→∃ρ',forL put body ds ρ=M.ret (.nx ρ')∧I (i+ds.length) ρ'
 |[],i,ρ,h,_=>⟨ρ,rfl,h⟩
 |d::ds,i,ρ,h,step=>by
  obtain⟨ρ1,ρ2,e1,e2,h2⟩:=step 0 d rfl ρ h
  obtain⟨ρ',e3,h3⟩:=pP (I:=I) ds (i+1) ρ2 h2 fun j d' hd ρ hI=>by
   have:=step (j+1) d' hd ρ (by rw[show i+(j+1)=i+1+j by omega];exact hI)
   rw[show i+(j+1)+1=i+1+j+1 by omega] at this
   exact this
  refine⟨ρ',?_,?_⟩
  ·show (match put d ρ with | none=>M.stuck | some ρ1=>body ρ1>>=fun o=>match o with | .nx ρ2=>forL put body ds ρ2 | .rt v=>M.ret (.rt v))=_
   rw[e1]
   show (body ρ1>>=fun o=>match o with | .nx ρ2=>forL put body ds ρ2 | .rt v=>M.ret (.rt v))=_
   rw[e2]
   exact e3
  ·rw[show i+(d::ds).length=i+1+ds.length by simp;omega]
   exact h3
theorem mE{f:D→M (Option D)}{Pr:D→Prop}:∀(ds:List D),(∀d∈ds,∃y,f d=M.ret (some y)∧Pr y)→∃ys,cq f ds=M.ret ys∧ys.length=ds.length∧∀y∈ys,Pr y
 |[],_=>⟨[],rfl,rfl,fun _ h=>by cases h⟩
 |d::ds,h=>by
  obtain⟨y,e,hy⟩:=h d (List.mem_cons_self ..)
  obtain⟨ys,e2,hl,hp⟩:=mE ds fun d' hd=>h d' (List.mem_cons_of_mem _ hd)
  refine⟨y::ys,?_,by simp[hl],fun z hz=>?_⟩
  ·rw[du,e,ar,e2]
   rfl
  ·cases hz with
   |head=>exact hy
   |tail _ hz=>exact hp z hz
theorem f7{f:D→M (Option D)}{g:D→D}:∀(ds:List D),(∀d∈ds,f d=M.ret (some (g d)))→cq f ds=M.ret (ds.map g)
 |[],_=>rfl
 |d::ds,h=>by
  rw[du,h d (List.mem_cons_self ..),ar,f7 ds fun d' hd=>h d' (List.mem_cons_of_mem _ hd)]
  rfl
def v5(x:Str):Bool:=!(Builtin.Str.occurrences ("abcdef":Str) x 0 ("abcdef":Str).length 1).isEmpty
structure Row (W:Nat) (r:Str):Prop where
 len:r.length=W
 let':∀c∈r.cps.toList,v5 ⟨#[c]⟩=true
structure Good (bd:List Str) (W:Nat):Prop where
 r1:1≤bd.length
 r5:bd.length≤5
 w1:1≤W
 w5:W≤5
 rows:∀r∈bd,Row W r
theorem qP:∀(ys:List D),(∀y∈ys,∃c,y= .str ⟨#[c]⟩∧v5 ⟨#[c]⟩=true)→∃xs,o6 ys=some xs∧xs.length=ys.length∧(xs.map (·.length)).sum=ys.length∧Row ys.length (da xs)
 |[],_=>⟨[],rfl,rfl,rfl,rfl,fun c h=>by cases h⟩
 |y::ys,h=>by
  obtain⟨c,e,hc⟩:=h y (List.mem_cons_self ..)
  obtain⟨xs,e1,e2,e3,e4⟩:=qP ys fun z hz=>h z (List.mem_cons_of_mem _ hz)
  subst e
  refine⟨⟨#[c]⟩::xs,?_,by simp[e2],?_,?_,fun z hz=>?_⟩
  ·show (o6 ys).map _=_
   rw[e1]
   rfl
  ·rw[List.map_cons,List.sum_cons,e3]
   show 1+ys.length=_
   simp
   omega
  ·show ((⟨#[c]⟩:Str)++da xs).length=_
   rw[fW,e4.len]
   show 1+ys.length=_
   simp
   omega
  ·have hz:z∈((⟨#[c]⟩:Str)++da xs).cps.toList:=hz
   have:((⟨#[c]⟩:Str)++da xs).cps= #[c]++(da xs).cps:=rfl
   rw[this] at hz
   have hz:z∈c::(da xs).cps.toList:=by simpa using hz
   cases hz with
   |head=>exact hc
   |tail _ hz=>exact e4.let' z hz
theorem w_{lo:Int}{n:Nat}{d:D}(h:d∈eF lo n):∃i:Nat,i<n∧d= .int (lo+(i:Int)):=by
 unfold eF at h
 obtain⟨i,hi,e⟩:=List.mem_map.mp h
 exact⟨i,List.mem_range.mp hi,e.symm⟩
theorem y0{lo:Int}{n j:Nat}{d:D}(h:(eF lo n)[j]? =some d):j<n∧d= .int (lo+(j:Int)):=by
 unfold eF at h
 rw[List.getElem?_map] at h
 by_cases hj:j<n
 ·rw[List.getElem?_range hj] at h
  cases h
  exact⟨hj,rfl⟩
 ·rw[List.getElem?_eq_none (by simpa using hj)] at h
  cases h
theorem fN(lo:Int)(n:Nat):(eF lo n).length=n:=by simp[eF]
abbrev fz(d:D):Option Sl:=some (.fz d)
theorem kq{δe:DE}{ρ:aW}{d:D}:fj 0 bP δe ρ d=(δe (fz d::ρ)>>=fun y=>M.ret (some y)):=rfl
theorem vC{δt:DT}{δe:DE}{ρ:aW}{d:D}:fj 0 δt δe ρ d=(δt (fz d::ρ)>>=fun b=>if b then δe (fz d::ρ)>>=fun y=>M.ret (some y) else M.ret none):=rfl
theorem ao{a b:DS}{ρ ρ':aW}{o:M Out}(h:a ρ=M.ret (.nx ρ'))(h2:b ρ'=o):aA a b ρ=o:=by
 unfold aA
 rw[h]
 exact h2
theorem br{a b:DS}{ρ:aW}{d:D}(h:a ρ=M.ret (.rt d)):aA a b ρ=M.ret (.rt d):=by
 unfold aA
 rw[h]
 rfl
theorem aM{i:Nat}{δ:DE}{ρ:aW}{d:D}(h:δ ρ=M.ret d):bp i δ ρ=M.ret (.nx (ρ.set i (fz d))):=by
 unfold bp
 rw[h]
 rfl
theorem b_{c:DT}{a b:DS}{ρ:aW}{o:M Out}(h:c ρ=M.ret true)(h2:a ρ=o):cK c a b ρ=o:=by
 unfold cK
 rw[h]
 exact h2
theorem bq{c:DT}{a b:DS}{ρ:aW}{o:M Out}(h:c ρ=M.ret false)(h2:b ρ=o):cK c a b ρ=o:=by
 unfold cK
 rw[h]
 exact h2
theorem az{δ:DE}{ρ:aW}{d:D}(h:δ ρ=M.ret d):aO δ ρ=M.ret (.rt d):=by
 unfold aO
 rw[h]
 rfl
theorem bX{δ:DE}{ρ:aW}{d:D}(h:δ ρ=M.ret d):gX δ ρ=M.ret (.nx ρ):=by
 unfold gX
 rw[h]
 rfl
theorem a7{n:Nat}{τ:DS}{ds:List D}{d:D}(h:τ (ds.map (fun d=>some (Sl.fz d))++List.replicate (n - ds.length) none)=M.ret (.rt d)):bW n τ ds=M.ret d:=by
 unfold bW
 rw[h]
 rfl
theorem oQ{n:Nat}{τ:DS}{ds:List D}{ρ:aW}(h:τ (ds.map (fun d=>some (Sl.fz d))++List.replicate (n - ds.length) none)=M.ret (.nx ρ)):bW n τ ds=M.ret .non:=by
 unfold bW
 rw[h]
 rfl
theorem xa{put:D→aW→Option aW}{δi:DA}{b:DS}{ρ:aW}{ds:List D}{o:Out}(h:δi ρ=M.ret ds)(h2:forL put b ds ρ=M.ret o):noex (e9 put δi b ρ)=M.ret o:=by
 unfold e9
 rw[h,ar,h2]
 rfl
theorem cI{is:List Nat}{τ:DS}{ρ ρ':aW}(h:τ ρ=M.ret (.nx ρ')):c9 is τ ρ=M.ret (.nx (fgt is ρ')):=by
 unfold c9
 rw[h]
 rfl
theorem y7{is:List Nat}{τ:DS}{ρ:aW}{d:D}(h:τ ρ=M.ret (.rt d)):c9 is τ ρ=M.ret (.rt d):=by
 unfold c9
 rw[h]
 rfl
theorem cN{n:Nat}{δi:DA}{δt:DT}{δe:DE}{ρ:aW}{ds ys:List D}(h:δi ρ=M.ret ds)(h2:cq (fj n δt δe ρ) ds=M.ret ys)(h3:ys.length≤lim):bb n δi δt δe ρ=M.ret (.lst ys):=by
 unfold bb
 rw[h,ar,h2,wk,ar,we h3]
theorem jm{n:Nat}(h:n≤4096):jS [.int (n:Int)]=M.ret (eF 0 n):=by
 show (if -4096≤(n:Int)∧(n:Int)≤4096 then M.ret (eF 0 (n:Int).toNat) else M.stuck)=_
 rw[if_pos ⟨by omega,by omega⟩]
 rfl
structure Alpha (al:Str):Prop where
 pos:0<al.length
 ok:∀c∈al.cps.toList,v5 ⟨#[c]⟩=true
theorem Ab:Alpha "ab"∧Alpha "abc"∧Alpha "aab"∧Alpha "fa":=by
 refine⟨⟨by decide+kernel,?_⟩,⟨by decide+kernel,?_⟩,⟨by decide+kernel,?_⟩,⟨by decide+kernel,?_⟩⟩<;>decide+kernel
theorem vQ{x:Str}{i:Nat}(h:i<x.length):∃c,c∈x.cps.toList∧x.cps.toList[i]? =some c∧og (.str x) (.int (i:Int))=M.ret (.str ⟨#[c]⟩):=by
 have h:i<x.cps.toList.length:=by rw[Array.length_toList];exact h
 refine⟨x.cps.toList[i],List.getElem_mem h,List.getElem?_eq_getElem h,?_⟩
 show (match L2.atI x.cps.toList (i:Int) with | some c=>M.ret (D.str ⟨#[c]⟩) | none=>M.stuck)=_
 rw[eg (List.getElem?_eq_getElem h)]
abbrev brd(bd:List Str):D:= .tup (bd.map D.str)
abbrev sgn(at' mo:Nat)(ns:List Int)(W:Nat)(al:Str)(bd:List Str)(R:Nat)(x7 x8:Option Sl):aW:=[fz (.scr ns),fz (.int (at':Int)),fz (.int (mo:Int)),fz (.int (R:Int)),fz (.int (W:Int)),fz (.str al),fz (brd bd),x7,x8]
def Hh:DE:=bb 0 (fun ρ=>(aC (dV 4) aN) ρ>>=jS) bP (d2 og (dV 6) (ah 3 aw (aC (dV 1) (aC (d2 bF (d2 bF (d2 bF (dV 2) (dC (.int 3))) (d2 dP (dC (.int 7)) (dV 8))) (dV 0)) (aC (dA aU (aC (dV 6) aN)) aN)))))
theorem uZ(at' mo:Nat)(ns:List Int)(hl:ns.length≤63)(al:Str)(ha:Alpha al)(j W R:Nat)(hW:W≤5)(bd:List Str)(x8:Option Sl):
 ∃ys,Hh (sgn at' mo ns W al bd R (fz (.int (0+(j:Int)))) x8)=M.ret (.lst ys)∧ys.length=W∧∀y∈ys,∃c,y= .str ⟨#[c]⟩∧v5 ⟨#[c]⟩=true:=by
 obtain⟨ys,e,GG,hp⟩:=mE (f:=fj 0 bP (d2 og (dV 6) (ah 3 aw (aC (dV 1) (aC (d2 bF (d2 bF (d2 bF (dV 2) (dC (.int 3))) (d2 dP (dC (.int 7)) (dV 8))) (dV 0)) (aC (dA aU (aC (dV 6) aN)) aN)))))
  (sgn at' mo ns W al bd R (fz (.int (0+(j:Int)))) x8)) (Pr:=fun y=>∃c,y= .str ⟨#[c]⟩∧v5 ⟨#[c]⟩=true) (eF 0 W) fun d hd=>by
  obtain⟨i,hi,rfl⟩:=w_ hd
  obtain⟨v,hv,e⟩:=cu ns hl (at'+3+7*j+i) al.length ha.pos
  obtain⟨c,hc,_,e2⟩:=vQ hv
  refine⟨.str ⟨#[c]⟩,?_,c,rfl,ha.ok c hc⟩
  rw[kq]
  have k:(at':Int)+3+7*(0+(j:Int))+(0+(i:Int))=((at'+3+7*j+i:Nat):Int):=by omega
  have m1:dP (.int 7) (.int (0+(j:Int)))=M.ret (.int (7*(0+(j:Int)))):=dD (.inl ⟨by decide,by decide⟩)
  simp only[ah,d2,dV,dC,dA,aC,aN,ar,List.length_cons,List.length_nil,List.getElem?_cons_zero,List.getElem?_cons_succ,Nat.reduceAdd,if_true,fE,m1,k,aU,e,e2]
 refine⟨ys,cN (jm (n:=W) (by omega)) e (by rw[GG,fN,ei];omega),by rw[GG,fN],hp⟩
def Hi:DS:=bp 6 (d2 pR (dV 6) (dA dX (aC (dM C8 joinM (dC (.str "")) (aC (dV 8) aN)) aN)))
theorem xJ(at' mo:Nat)(ns:List Int)(W:Nat)(al:Str)(bd:List Str)(R:Nat)(x7:Option Sl)(ys:List D)(hb:bd.length≤5)(hy:ys.length≤5)(s3:∀y∈ys,∃c,y= .str ⟨#[c]⟩∧v5 ⟨#[c]⟩=true):
 ∃r,Row ys.length r∧Hi (sgn at' mo ns W al bd R x7 (fz (.lst ys)))=M.ret (.nx (sgn at' mo ns W al (bd++[r]) R x7 (fz (.lst ys)))):=by
 obtain⟨xs,t1,t2,t3,t4⟩:=qP ys s3
 refine⟨da xs,t4,?_⟩
 have jn:joinM (.str "") [.lst ys]=M.ret (.str (da xs)):=by
  show (match o6 ys with | some (xs:List Str)=>if ("":Str).length=0∧(xs.map (fun x:Str=>x.length)).sum≤lim then M.ret (D.str (da xs)) else M.stuck | none=>M.stuck)=_
  rw[t1]
  show (if ("":Str).length=0∧(xs.map (fun x:Str=>x.length)).sum≤lim then M.ret (D.str (da xs)) else M.stuck)=_
  rw[if_pos ⟨rfl,by rw[t3,ei];omega⟩]
 have ct:pR (brd bd) (.tup [.str (da xs)])=M.ret (brd (bd++[da xs])):=by
  show (if (bd.map D.str).length+1≤lim then M.ret (D.tup (bd.map D.str++[.str (da xs)])) else M.stuck)=_
  rw[if_pos (by rw[List.length_map,ei];omega)]
  simp[brd]
 refine(aM (d:=brd (bd++[da xs])) ?_).trans rfl
 simp only[d2,dV,dC,dA,aC,aN,dM,C8,ar,List.getElem?_cons_zero,List.getElem?_cons_succ,if_true,jn,dX,List.length_cons,List.length_nil,ei,Nat.reduceAdd,Nat.reduceLeDiff,ct]
theorem rb(ns:List Int)(hl:ns.length≤63)(at' mo:Nat)(m0:0<mo)(m5:mo≤5):∃bd W,Good bd W∧bd.length≤mo∧W≤mo∧cw [.scr ns, .int (at':Int), .int (mo:Int)]=M.ret (brd bd):=by
 obtain⟨r,hr,e1⟩:=cu ns hl at' mo m0
 obtain⟨c,hc,e2⟩:=cu ns hl (at'+1) mo m0
 obtain⟨a,ha,e3⟩:=cu ns hl (at'+2) 4 (by decide)
 obtain⟨al,CG,e4⟩:∃al,Alpha al∧ck (.lst [.str "ab", .str "abc", .str "aab", .str "fa"]) (.int (a:Int))=M.ret (.str al):=by
  obtain⟨a1,a2,a3,a4⟩:=Ab
  match a,ha with
  |0,_=>exact⟨_,a1,rfl⟩
  |1,_=>exact⟨_,a2,rfl⟩
  |2,_=>exact⟨_,a3,rfl⟩
  |3,_=>exact⟨_,a4,rfl⟩
 have k1:(1:Int)+(r:Int)=((r+1:Nat):Int):=by omega
 have k2:(1:Int)+(c:Int)=((c+1:Nat):Int):=by omega
 have vc:aw [.scr ns, .int (at':Int), .int (mo:Int)]=M.ret (.int (r:Int)):=e1
 have B3:aw [.scr ns, .int ((at':Int)+1), .int (mo:Int)]=M.ret (.int (c:Int)):=e2
 have D4:aw [.scr ns, .int ((at':Int)+2), .int 4]=M.ret (.int (a:Int)):=e3
 obtain⟨ρ',f1,bd,f2,f3,f4⟩:=pP (put:=putN 7) (body:=c9 [7,8] (aA (bp 8 Hh) Hi))
  (I:=fun i ρ=>∃bd,ρ=sgn at' mo ns (c+1) al bd (r+1) none none∧bd.length=i∧∀z∈bd,Row (c+1) z)
  (eF 0 (r+1)) 0 (sgn at' mo ns (c+1) al [] (r+1) none none) ⟨[],rfl,rfl,fun _ h=>by cases h⟩ fun j d hd ρ ⟨bd,hρ,hb,hw⟩=>by
   obtain⟨hj,rfl⟩:=y0 hd
   subst hρ
   obtain⟨ys,s1,s2,s3⟩:=uZ at' mo ns hl al CG j (c+1) (r+1) (by omega) bd none
   obtain⟨vf,t1,t2⟩:=xJ at' mo ns (c+1) al bd (r+1) (fz (.int (0+(j:Int)))) ys (by omega) (by omega) s3
   refine⟨_,_,rfl,cI (ao (aM s1) t2),bd++[vf],rfl,by simp[hb],fun z hz=>?_⟩
   rcases List.mem_append.mp hz with h | h
   ·exact hw z h
   ·have h:z=vf:=by simpa using h
    subst h
    rw[s2] at t1
    exact t1
 refine⟨bd,c+1,⟨by rw[f3,fN];omega,by rw[f3,fN];omega,by omega,by omega,f4⟩,by rw[f3,fN];omega,by omega,?_⟩
 subst f2
 refine a7 ?_
 refine ao (aM (d:= .int ((r+1:Nat):Int)) ?_) ?_
 ·simp only[ah,d2,dV,dC,aC,aN,ar,List.map_cons,List.map_nil,List.cons_append,List.nil_append,List.length_cons,List.length_nil,List.getElem?_cons_zero,List.getElem?_cons_succ,Nat.reduceAdd,if_true,fE,vc,k1]
 refine ao (aM (d:= .int ((c+1:Nat):Int)) ?_) ?_
 ·simp only[ah,d2,dV,dC,aC,aN,ar,List.map_cons,List.map_nil,List.cons_append,List.nil_append,List.length_cons,List.length_nil,List.replicate,List.set_cons_zero,List.set_cons_succ,Nat.reduceSub,List.getElem?_cons_zero,List.getElem?_cons_succ,Nat.reduceAdd,if_true,fE,B3,k2]
 refine ao (aM (d:= .str al) ?_) ?_
 ·simp only[ah,d2,dV,dC,dA,aC,aN,ar,List.map_cons,List.map_nil,List.cons_append,List.nil_append,List.length_cons,List.length_nil,List.replicate,List.set_cons_zero,List.set_cons_succ,Nat.reduceSub,List.getElem?_cons_zero,List.getElem?_cons_succ,Nat.reduceAdd,if_true,fE,D4,dW,ei,Nat.reduceLeDiff,e4]
 refine ao (aM (d:= .tup []) rfl) ?_
 refine ao (xa (jm (n:=r+1) (by omega)) f1) ?_
 exact az rfl
theorem t9(ns:List Int)(hl:ns.length≤63)(at' mo:Nat)(m0:0<mo)(m5:mo≤5):∃bd W,Good bd W∧cw [.scr ns, .int (at':Int), .int (mo:Int)]=M.ret (brd bd):=by
 obtain⟨bd,W,h1,_,_,h2⟩:=rb ns hl at' mo m0 m5
 exact⟨bd,W,h1,h2⟩
def Plain:D→Prop
 | .non | .bl _ | .int _ | .str _ | .tup _ | .lst _=>True
 |_=>False
def isStr:D→Bool
 | .str _=>true
 |_=>false
def isTup:D→Bool
 | .tup _=>true
 |_=>false
theorem dS{d:D}(h:Plain d):eT [d, .raw (.ty "str")]=M.ret (.bl (isStr d)):=by
 cases d<;>first | rfl | exact h.elim
theorem j9{d:D}(h:Plain d):eT [d, .raw (.ty "tuple")]=M.ret (.bl (isTup d)):=by
 cases d<;>first | rfl | exact h.elim
def oq:D→Bool
 | .str x=>(x.length==1)&&v5 x
 |_=>false
theorem n_{ρ:aW}{i:Nat}{d:D}(h:ρ[i]? =some (fz d)):dV i ρ=M.ret d:=by
 unfold dV
 rw[h]
theorem eq_int(i j:Int):gi (.int i) (.int j)=M.ret (.bl (i==j)):=rfl
theorem ne_int(i j:Int):g9 (.int i) (.int j)=M.ret (.bl (!(i==j))):=rfl
theorem len_str(x:Str):aU [.str x]=M.ret (.int (x.length:Int)):=rfl
theorem in_str(x:Str):vO false (.str x) (.str "abcdef")=M.ret (.bl (v5 x)):=rfl
theorem gx(a b:Nat):((a:Int)==(b:Int))=(a==b):=by
 by_cases h:a=b
 ·subst h;simp
 ·have h2:¬(a:Int)=(b:Int):=by omega
  rw[beq_eq_false_iff_ne.mpr h,beq_eq_false_iff_ne.mpr h2]
theorem yl{d:D}(h:Plain d){i:Nat}{ρ:aW}(hρ:ρ[i]? =some (fz d)):
 cJ (dA eT (aC (dV i) (aC (dC (.raw (.ty "str"))) aN))) (cJ (d2 gi (dA aU (aC (dV i) aN)) (dC (.int 1))) (d2 (vO false) (dV i) (dC (.str "abcdef")))) ρ=M.ret (.bl (oq d)):=by
 have hv:=n_ hρ
 have e1:=gx
 cases d with
 |str x=>
  have k:((x.length:Int)==1)=(x.length==1):=gx x.length 1
  simp only[cJ,dA,aC,aN,dC,d2,hv,ar,dS h,isStr,vb,if_true,len_str,eq_int,k,in_str,oq]
  cases x.length==1<;>rfl
 |non=>simp only[cJ,dA,aC,aN,dC,d2,hv,ar,dS h,isStr,vb,if_false,Bool.false_eq_true,oq]
 |bl b=>simp only[cJ,dA,aC,aN,dC,d2,hv,ar,dS h,isStr,vb,if_false,Bool.false_eq_true,oq]
 |int b=>simp only[cJ,dA,aC,aN,dC,d2,hv,ar,dS h,isStr,vb,if_false,Bool.false_eq_true,oq]
 |tup b=>simp only[cJ,dA,aC,aN,dC,d2,hv,ar,dS h,isStr,vb,if_false,Bool.false_eq_true,oq]
 |lst b=>simp only[cJ,dA,aC,aN,dC,d2,hv,ar,dS h,isStr,vb,if_false,Bool.false_eq_true,oq]
 |raw _=>exact h.elim
 |exc _=>exact h.elim
 |scr _=>exact h.elim
 |dct _ _=>exact h.elim
 |dci _ _=>exact h.elim
theorem l8{d:D}(h:Plain d):bS [d]=M.ret (.bl (oq d)):=a7 (az (yl h rfl))
def gb(x:Str):Bool:=x.cps.toList.all fun c=>v5 ⟨#[c]⟩
def j2:D→Bool
 | .str x=>(decide (1≤x.length)&&decide (x.length≤8))&&gb x
 |_=>false
theorem t_(l:List Bool):bools (l.map D.bl)=some l:=by
 induction l with
 |nil=>rfl
 |cons b r ih=>show (bools (r.map D.bl)).map _=_;rw[ih];rfl
theorem all_map(l:List Bool):allM [.lst (l.map D.bl)]=M.ret (.bl (l.all id)):=by
 show (match bools (l.map D.bl) with | some bs=>M.ret (D.bl (bs.all id)) | none=>M.stuck)=_
 rw[t_]
theorem vA{δ:DE}{ρ:aW}{n:Nat}(h:δ ρ=M.ret (.int (n:Int))):
 bN (ri (fun i j=>decide (i≤j)) (fun i j=>decide (i≤j)) (dC (.int 1)) δ (dC (.int 8))) ρ=M.ret (decide (1≤n)&&decide (n≤8)):=by
 have k1:decide ((1:Int)≤(n:Int))=decide (1≤n):=by by_cases h:1≤n<;>simp[h]<;>omega
 have k2:decide ((n:Int)≤8)=decide (n≤8):=by by_cases h:n≤8<;>simp[h]<;>omega
 simp only[bN,ri,dC,h,ar,k1,k2,gI,vb]
 cases decide (1≤n)<;>rfl
theorem rF{d:D}(h:Plain d):dw [d]=M.ret (.bl (j2 d)):=by
 refine a7 ?_
 have hρ:([d].map (fun d=>some (Sl.fz d))++List.replicate (1 - [d].length) none)=[fz d]:=rfl
 rw[hρ]
 have hv:dV 0 [fz d]=M.ret d:=rfl
 have no:isStr d=false→qU [fz d]=M.ret (.rt (.bl false)):=fun hs=>by
  refine br (b_ ?_ (az rfl))
  simp only[gK,a9,aR,dA,aC,aN,dC,hv,ar,dS h,hs,qO,Bool.not_false,if_true]
 cases d with
 |str x=>
  have hi:aR (dA eT (aC (dV 0) (aC (dC (.raw (.ty "str"))) aN))) [fz (.str x)]=M.ret true:=by
   simp only[aR,dA,aC,aN,dC,hv,ar,dS h,isStr,qO]
  have hl:dA aU (aC (dV 0) aN) [fz (.str x)]=M.ret (.int (x.length:Int)):=rfl
  have hc:=vA hl
  by_cases hr:(decide (1≤x.length)&&decide (x.length≤8))=true
  ·rw[hr] at hc
   refine ao (bq ?_ (ρ:=[fz (.str x)]) rfl) (az ?_)
   ·unfold gK a9
    rw[hi,ar,ar,hc]
    rfl
   ·have hb:x.length≤8:=by simp only[Bool.and_eq_true,decide_eq_true_eq] at hr;exact hr.2
    have cm:bb 0 (fun ρ=>(dV 0) ρ>>=BN) bP (ah 1 bS (aC (dV 0) aN)) [fz (.str x)]=M.ret (.lst ((x.cps.toList.map fun c=>v5 ⟨#[c]⟩).map D.bl)):=by
     refine cN (ds:=signs x) rfl ?_ ?_
     ·have:=f7 (f:=fj 0 bP (ah 1 bS (aC (dV 0) aN)) [fz (.str x)]) (g:=fun d=>D.bl (oq d)) (signs x) fun d hd=>by
       rw[kq]
       obtain⟨c,_,rfl⟩:=List.mem_map.mp hd
       show (bS [.str ⟨#[c]⟩]>>=fun y=>M.ret (some y))=_
       rw[l8 (d:= .str ⟨#[c]⟩) trivial]
       rfl
      rw[this]
      unfold signs
      rw[List.map_map,List.map_map]
      congr 1
     ·rw[List.length_map,List.length_map,Array.length_toList,ei]
      exact Nat.le_trans hb (by decide)
    rw[cj (ay cm rfl),all_map]
    show M.ret (D.bl ((x.cps.toList.map fun c=>v5 ⟨#[c]⟩).all id))=M.ret (D.bl ((decide (1≤x.length)&&decide (x.length≤8))&&gb x))
    rw[hr]
    unfold gb
    rw[List.all_map]
    rfl
  ·have hr:(decide (1≤x.length)&&decide (x.length≤8))=false:=by simpa using hr
   rw[hr] at hc
   have:j2 (.str x)=false:=by
    show ((decide (1≤x.length)&&decide (x.length≤8))&&gb x)=false
    rw[hr];rfl
   rw[this]
   refine br (b_ ?_ (az rfl))
   unfold gK a9
   rw[hi,ar,ar,hc]
   rfl
 |non=>exact no rfl
 |bl b=>exact no rfl
 |int b=>exact no rfl
 |tup b=>exact no rfl
 |lst b=>exact no rfl
 |raw _=>exact h.elim
 |exc _=>exact h.elim
 |scr _=>exact h.elim
 |dct _ _=>exact h.elim
 |dci _ _=>exact h.elim
def gO:D→Nat
 | .str x=>x.length
 |_=>0
def kj:D→Bool
 | .tup ds=>(decide (1≤ds.length)&&decide (ds.length≤8))&&(ds.all j2&&ds.all fun d=>gO d==gO (ds.headD .non))
 |_=>false
def Plain2:D→Prop
 | .tup ds=>∀d∈ds,Plain d
 |d=>Plain d
theorem Plain2.plain{d:D}(h:Plain2 d):Plain d:=by
 cases d<;>first | exact h | exact trivial
theorem yk{ds:List D}:aU [.tup ds]=M.ret (.int (ds.length:Int)):=rfl
theorem Fz{ds:List D}{d:D}{r:List D}(h:ds=d::r):bh (.tup ds) (.int 0)=M.ret d:=by
 subst h
 show (match L2.atI (d::r) ((0:Nat):Int) with | some d=>M.ret d | none=>M.stuck)=_
 rw[eg (x:=d) rfl]
theorem y4{d:D}(h:j2 d=true):∃x,d= .str x:=by
 cases d<;>first | exact⟨_,rfl⟩ | cases h
theorem uo{d:D}(h:Plain d):gK (a9 (aR (dA eT (aC (dV 0) (aC (dC (.raw (.ty "tuple"))) aN))))) (a9 (bN (ri (fun i j=>decide (i≤j)) (fun i j=>decide (i≤j)) (dC (.int 1)) (dA aU (aC (dV 0) aN)) (dC (.int 8))))) [fz d]=
 M.ret (match d with | .tup ds=>!(decide (1≤ds.length)&&decide (ds.length≤8)) | _=>true):=by
 have hv:dV 0 [fz d]=M.ret d:=rfl
 have no:isTup d=false→gK (a9 (aR (dA eT (aC (dV 0) (aC (dC (.raw (.ty "tuple"))) aN))))) (a9 (bN (ri (fun i j=>decide (i≤j)) (fun i j=>decide (i≤j)) (dC (.int 1)) (dA aU (aC (dV 0) aN)) (dC (.int 8))))) [fz d]=M.ret true:=fun hs=>by
  simp only[gK,a9,aR,dA,aC,aN,dC,hv,ar,j9 h,hs,qO,Bool.not_false,if_true]
 cases d with
 |tup ds=>
  have hi:aR (dA eT (aC (dV 0) (aC (dC (.raw (.ty "tuple"))) aN))) [fz (.tup ds)]=M.ret true:=by
   simp only[aR,dA,aC,aN,dC,hv,ar,j9 h,isTup,qO]
  have hl:dA aU (aC (dV 0) aN) [fz (.tup ds)]=M.ret (.int (ds.length:Int)):=rfl
  unfold gK a9
  rw[hi,ar,ar,vA hl]
  rfl
 |non=>exact no rfl
 |bl b=>exact no rfl
 |int b=>exact no rfl
 |str b=>exact no rfl
 |lst b=>exact no rfl
 |raw _=>exact h.elim
 |exc _=>exact h.elim
 |scr _=>exact h.elim
 |dct _ _=>exact h.elim
 |dci _ _=>exact h.elim
theorem all_rows{ds:List D}(h:∀d∈ds,Plain d)(hl:ds.length≤8):dA allM (aC (bb 0 (rl (dV 0)) bP (ah 1 dw (aC (dV 0) aN))) aN) [fz (.tup ds)]=M.ret (.bl (ds.all j2)):=by
 have cm:bb 0 (rl (dV 0)) bP (ah 1 dw (aC (dV 0) aN)) [fz (.tup ds)]=M.ret (.lst ((ds.map j2).map D.bl)):=by
  refine cN (ds:=ds) rfl ?_ (by rw[List.length_map,List.length_map,ei];omega)
  rw[List.map_map]
  refine f7 (g:=D.bl∘j2) ds fun d hd=>?_
  rw[kq]
  show (dw [d]>>=fun y=>M.ret (some y))=_
  rw[rF (h d hd)]
  rfl
 rw[cj (ay cm rfl),all_map,List.all_map]
 rfl
theorem all_lens{ds:List D}(hs:∀d∈ds,∃x,d= .str x)(h0:1≤ds.length)(hl:ds.length≤8):
 dA allM (aC (bb 0 (rl (dV 0)) bP (d2 gi (dA aU (aC (dV 0) aN)) (dA aU (aC (d2 bh (dV 1) (dC (.int 0))) aN)))) aN) [fz (.tup ds)]=M.ret (.bl (ds.all fun d=>gO d==gO (ds.headD .non))):=by
 obtain⟨d0,r,e0⟩:∃d0 r,ds=d0::r:=by
  cases ds with
  |nil=>simp at h0
  |cons a r=>exact⟨a,r,rfl⟩
 have hh:ds.headD .non=d0:=by rw[e0];rfl
 obtain⟨x0,GX⟩:=hs d0 (by rw[e0];exact List.mem_cons_self ..)
 have cm:bb 0 (rl (dV 0)) bP (d2 gi (dA aU (aC (dV 0) aN)) (dA aU (aC (d2 bh (dV 1) (dC (.int 0))) aN))) [fz (.tup ds)]=M.ret (.lst ((ds.map fun d=>gO d==gO (ds.headD .non)).map D.bl)):=by
  refine cN (ds:=ds) rfl ?_ (by rw[List.length_map,List.length_map,ei];omega)
  rw[List.map_map]
  refine f7 (g:=D.bl∘fun d=>gO d==gO (ds.headD .non)) ds fun d hd=>?_
  rw[kq]
  obtain⟨x,rfl⟩:=hs d hd
  have k:((x.length:Int)==(x0.length:Int))=(x.length==x0.length):=gx _ _
  have i0:bh (.tup ds) (.int 0)=M.ret (.str x0):=by rw[Fz e0,GX]
  have H_:ds.headD .non= .str x0:=by rw[hh,GX]
  simp only[d2,dA,aC,aN,dC,dV,ar,List.getElem?_cons_zero,List.getElem?_cons_succ,len_str,i0,eq_int,k,Function.comp,gO,H_]
 rw[cj (ay cm rfl),all_map,List.all_map]
 rfl
theorem om{d:D}(h:Plain2 d):eR [d]=M.ret (.bl (kj d)):=by
 refine a7 ?_
 have hρ:([d].map (fun d=>some (Sl.fz d))++List.replicate (1 - [d].length) none)=[fz d]:=rfl
 rw[hρ]
 have hf:=uo h.plain
 have no:(∀ds,d≠ .tup ds)→lW [fz d]=M.ret (.rt (.bl (kj d))):=fun hn=>by
  cases d<;>first | exact absurd rfl (hn _) | exact br (b_ hf (az rfl))
 cases d with
 |tup ds=>
  have hf:_=M.ret (!(decide (1≤ds.length)&&decide (ds.length≤8))):=hf
  by_cases hr:(decide (1≤ds.length)&&decide (ds.length≤8))=true
  ·rw[hr] at hf
   have hb:=hr
   simp only[Bool.and_eq_true,decide_eq_true_eq] at hb
   have e:kj (.tup ds)=(ds.all j2&&ds.all fun d=>gO d==gO (ds.headD .non)):=by
    show ((decide (1≤ds.length)&&decide (ds.length≤8))&&_)=_
    rw[hr,Bool.true_and]
   rw[e]
   have a1:=all_rows h hb.2
   refine ao (bq hf rfl) ?_
   cases hc:ds.all j2 with
   |false=>
    rw[hc] at a1
    refine br (b_ ?_ (az rfl))
    unfold a9 aR
    rw[a1]
    rfl
   |true=>
    rw[hc] at a1
    refine ao (bq ?_ rfl) (az ?_)
    ·unfold a9 aR
     rw[a1]
     rfl
    ·rw[Bool.true_and]
     exact all_lens (fun d hd=>y4 (List.all_eq_true.mp hc d hd)) hb.1 hb.2
  ·have hr:(decide (1≤ds.length)&&decide (ds.length≤8))=false:=by simpa using hr
   rw[hr] at hf
   have e:kj (.tup ds)=false:=by
    show ((decide (1≤ds.length)&&decide (ds.length≤8))&&_)=_
    rw[hr];rfl
   rw[e]
   exact br (b_ hf (az rfl))
 |non=>exact no fun _ z=>by cases z
 |bl b=>exact no fun _ z=>by cases z
 |int b=>exact no fun _ z=>by cases z
 |str b=>exact no fun _ z=>by cases z
 |lst b=>exact no fun _ z=>by cases z
 |raw _=>exact h.elim
 |exc _=>exact h.elim
 |scr _=>exact h.elim
 |dct _ _=>exact h.elim
 |dci _ _=>exact h.elim
structure Brd (ob:List Str) (V:Nat):Prop where
 r1:1≤ob.length
 r8:ob.length≤8
 w1:1≤V
 w8:V≤8
 rows:∀r∈ob,Row V r
theorem Good.brd{bd:List Str}{W:Nat}(hg:Good bd W):Brd bd W:=⟨hg.r1,by have:=hg.r5;omega,hg.w1,by have:=hg.w5;omega,hg.rows⟩
theorem Brd.board{ob:List Str}{V:Nat}(h:Brd ob V):kj (brd ob)=true:=by
 have Ff:∀r∈ob,j2 (.str r)=true:=fun r hr=>by
  have q:=h.rows r hr
  show ((decide (1≤r.length)&&decide (r.length≤8))&&gb r)=true
  rw[q.len]
  have a:decide (1≤V)=true:=decide_eq_true h.w1
  have b:decide (V≤8)=true:=decide_eq_true h.w8
  rw[a,b]
  show gb r=true
  exact List.all_eq_true.mpr fun c hc=>q.let' c hc
 have h0:gO ((ob.map D.str).headD .non)=V:=by
  have:=h.r1
  have hr:=h.rows
  cases ob with
  |nil=>simp at this
  |cons x l=>exact(hr x (List.mem_cons_self ..)).len
 show ((decide (1≤(ob.map D.str).length)&&decide ((ob.map D.str).length≤8))&&((ob.map D.str).all j2&&(ob.map D.str).all fun d=>gO d==gO ((ob.map D.str).headD .non)))=true
 rw[h0,List.length_map,decide_eq_true h.r1,decide_eq_true h.r8]
 have a:(ob.map D.str).all j2=true:=List.all_eq_true.mpr fun d hd=>by
  obtain⟨r,hr,rfl⟩:=List.mem_map.mp hd
  exact Ff r hr
 have b:((ob.map D.str).all fun d=>gO d==V)=true:=List.all_eq_true.mpr fun d hd=>by
  obtain⟨r,hr,rfl⟩:=List.mem_map.mp hd
  show (r.length==V)=true
  rw[(h.rows r hr).len]
  simp
 rw[a,b]
 rfl
theorem ua{bd:List Str}:Plain2 (brd bd):=fun d hd=>by
 obtain⟨r,_,rfl⟩:=List.mem_map.mp hd
 trivial
theorem bR{δ:DE}{ρ:aW}{b:Bool}(h:δ ρ=M.ret (.bl b)):aR δ ρ=M.ret b:=by
 unfold aR
 rw[h]
 rfl
theorem dQ{δ:DE}{ρ:aW}{b:Bool}(h:δ ρ=M.ret (.bl b)):bN δ ρ=M.ret b:=by
 unfold bN
 rw[h]
 rfl
theorem d7{τ:DT}{ρ:aW}{b:Bool}(h:τ ρ=M.ret b):a9 τ ρ=M.ret (!b):=by
 unfold a9
 rw[h]
 rfl
theorem mF{a c:DT}{ρ:aW}{p q:Bool}(h1:a ρ=M.ret p)(h2:c ρ=M.ret q):gK a c ρ=M.ret (p||q):=by
 unfold gK
 rw[h1,ar]
 cases p
 ·exact h2
 ·rfl
theorem rk{a c:DT}{ρ:aW}{p q:Bool}(h1:a ρ=M.ret p)(h2:c ρ=M.ret q):i6 a c ρ=M.ret (p&&q):=by
 unfold i6
 rw[h1,ar]
 cases p
 ·rfl
 ·exact h2
theorem n9{a c:DT}{ρ:aW}(h1:a ρ=M.ret false):i6 a c ρ=M.ret false:=by
 unfold i6
 rw[h1]
 rfl
theorem xK{a c:DE}{ρ:aW}{p q:Bool}(h1:a ρ=M.ret (.bl p))(h2:c ρ=M.ret (.bl q)):cJ a c ρ=M.ret (.bl (p&&q)):=by
 unfold cJ
 rw[h1,ar]
 cases p
 ·rfl
 ·exact h2
theorem Brd.nb{ob:List Str}{V:Nat}(h:Brd ob V):bY [brd ob]=M.ret .non:=by
 refine oQ (ρ:=[fz (brd ob)]) (bq (d7 (bR (b:=true) ?_)) rfl)
 refine(ak (ds:=[brd ob]) rfl rfl).trans ?_
 rw[om ua,h.board]
theorem Brd.len0{ob:List Str}{V:Nat}(h:Brd ob V){i:Nat}{ρ:aW}(hρ:ρ[i]? =some (fz (brd ob))):dA aU (aC (d2 bh (dV i) (dC (.int 0))) aN) ρ=M.ret (.int (V:Int)):=by
 have h1:=h.r1
 have hr:=h.rows
 obtain⟨x,l,e⟩:∃x l,ob=x::l:=by
  cases ob with
  |nil=>simp at h1
  |cons x l=>exact⟨x,l,rfl⟩
 have hx:x.length=V:=(hr x (by rw[e];exact List.mem_cons_self ..)).len
 have i0:bh (brd ob) (.int 0)=M.ret (.str x):=Fz (show ob.map D.str=D.str x::l.map D.str by rw[e];rfl)
 have k:=aB (g:=bh) (n_ hρ) (show dC (.int 0) ρ=M.ret (.int 0) from rfl)
 rw[i0] at k
 rw[cj (ay (xs:=[]) k rfl)]
 show M.ret (D.int (x.length:Int))=_
 rw[hx]
theorem Dc{bd:List Str}{i:Nat}{ρ:aW}(hρ:ρ[i]? =some (fz (brd bd))):dA aU (aC (dV i) aN) ρ=M.ret (.int (bd.length:Int)):=by
 have:aU [brd bd]=M.ret (.int (bd.length:Int)):=by
  show M.ret (D.int ((bd.map D.str).length:Int))=_
  rw[List.length_map]
 simp only[dA,aC,aN,n_ hρ,ar,this]
def fi:D→Bool
 | .int _=>true
 |_=>false
theorem nU{d:D}(h:Plain d):a5 [d]=M.ret (.bl (fi d)):=by
 cases d<;>first | rfl | exact h.elim
def Cm(R W:Nat):D→D→Bool
 | .int a, .int b=>(decide (0≤a)&&decide (a<(R:Int)))&&(decide (0≤b)&&decide (b<(W:Int)))
 |_,_=>false
def zo(R W:Nat):D→Bool
 | .tup [u,v]=>Cm R W u v
 |_=>false
theorem Cq{δ ε:DE}{ρ:aW}{i n:Int}(h:δ ρ=M.ret (.int i))(h2:ε ρ=M.ret (.int n)):
 ri (fun i j=>decide (i≤j)) (fun i j=>decide (i<j)) (dC (.int 0)) δ ε ρ=M.ret (.bl (decide (0≤i)&&decide (i<n))):=by
 simp only[ri,dC,h,h2,ar,gI]
 cases decide (0≤i)<;>rfl
theorem jA{bd:List Str}{W:Nat}(hg:Brd bd W){d:D}(h:Plain2 d):dj [brd bd,d]=M.ret (.bl (zo bd.length W d)):=by
 refine a7 ?_
 have hρ:([brd bd,d].map (fun d=>some (Sl.fz d))++List.replicate (2 - [brd bd,d].length) none)=[fz (brd bd),fz d]:=rfl
 rw[hρ]
 have hv:dV 1 [fz (brd bd),fz d]=M.ret d:=rfl
 have no:isTup d=false→nV [fz (brd bd),fz d]=M.ret (.rt (.bl false)):=fun hs=>by
  refine br (b_ ?_ (az rfl))
  simp only[gK,a9,aR,dA,aC,aN,dC,hv,ar,j9 h.plain,hs,qO,Bool.not_false,if_true]
 cases d with
 |tup ds=>
  have hi:a9 (aR (dA eT (aC (dV 1) (aC (dC (.raw (.ty "tuple"))) aN)))) [fz (brd bd),fz (.tup ds)]=M.ret false:=by
   simp only[a9,aR,dA,aC,aN,dC,hv,ar,j9 h.plain,isTup,qO,Bool.not_true]
  have k:((ds.length:Int)==2)=(ds.length==2):=gx ds.length 2
  have hl:gK (a9 (aR (dA eT (aC (dV 1) (aC (dC (.raw (.ty "tuple"))) aN))))) (bN (d2 g9 (dA aU (aC (dV 1) aN)) (dC (.int 2)))) [fz (brd bd),fz (.tup ds)]=M.ret (!(ds.length==2)):=by
   unfold gK
   rw[hi]
   simp only[bN,d2,dA,aC,aN,dC,hv,ar,yk,ne_int,k,vb,Bool.false_eq_true,if_false]
  match ds,h,hl with
  |[],h,hl=>exact br (b_ hl (az rfl))
  |[_],h,hl=>exact br (b_ hl (az rfl))
  |_::_::_::_,h,hl=>
   refine br (b_ (hl.trans ?_) (az rfl))
   simp
  |[u,v],h,hl=>
   refine ao (bq hl rfl) ?_
   have pu:Plain u:=h u (by simp)
   have pv:Plain v:=h v (by simp)
   have w1:ah 1 a5 (aC (d2 bh (dV 1) (dC (.int 0))) aN) [fz (brd bd),fz (.tup [u,v])]=M.ret (.bl (fi u)):=nU pu
   have w2:ah 1 a5 (aC (d2 bh (dV 1) (dC (.int 1))) aN) [fz (brd bd),fz (.tup [u,v])]=M.ret (.bl (fi v)):=nU pv
   have hw:gK (a9 (aR (ah 1 a5 (aC (d2 bh (dV 1) (dC (.int 0))) aN)))) (a9 (aR (ah 1 a5 (aC (d2 bh (dV 1) (dC (.int 1))) aN)))) [fz (brd bd),fz (.tup [u,v])]=M.ret (!(fi u&&fi v)):=by
    unfold gK a9 aR
    rw[w1,w2]
    simp only[ar,qO]
    cases fi u<;>cases fi v<;>rfl
   have bad:(fi u&&fi v)=false→aA (cK (gK (a9 (aR (ah 1 a5 (aC (d2 bh (dV 1) (dC (.int 0))) aN)))) (a9 (aR (ah 1 a5 (aC (d2 bh (dV 1) (dC (.int 1))) aN))))) (aO (dC (.bl false))) ba) (aO (cJ (ri (fun i j=>decide (i≤j)) (fun i j=>decide (i<j)) (dC (.int 0)) (d2 bh (dV 1) (dC (.int 0))) (dA aU (aC (dV 0) aN))) (ri (fun i j=>decide (i≤j)) (fun i j=>decide (i<j)) (dC (.int 0)) (d2 bh (dV 1) (dC (.int 1))) (dA aU (aC (d2 bh (dV 0) (dC (.int 0))) aN))))) [fz (brd bd),fz (.tup [u,v])]=M.ret (.rt (.bl false)):=fun hz=>by
    rw[hz] at hw
    exact br (b_ hw (az rfl))
   match u,v,hw,bad with
   | .int a, .int b,hw,bad=>
     refine ao (bq hw rfl) (az ?_)
     obtain⟨x0,r,e0⟩:∃x0 r,bd=x0::r:=by
      have:=hg.r1
      cases bd with
      |nil=>simp at this
      |cons x r=>exact⟨x,r,rfl⟩
     have hx:x0.length=W:=(hg.rows x0 (by rw[e0];simp)).len
     have l0:dA aU (aC (dV 0) aN) [fz (brd bd),fz (.tup [.int a, .int b])]=M.ret (.int (bd.length:Int)):=by
      show M.ret (D.int ((bd.map D.str).length:Int))=_
      rw[List.length_map]
     have l1:dA aU (aC (d2 bh (dV 0) (dC (.int 0))) aN) [fz (brd bd),fz (.tup [.int a, .int b])]=M.ret (.int (W:Int)):=by
      have i0:bh (brd bd) (.int 0)=M.ret (.str x0):=Fz (r:=r.map D.str) (by rw[e0];rfl)
      simp only[dA,aC,aN,d2,dC,dV,List.getElem?_cons_zero,ar,i0,len_str,hx]
     have c1:=Cq (δ:=d2 bh (dV 1) (dC (.int 0))) (i:=a) rfl l0
     have c2:=Cq (δ:=d2 bh (dV 1) (dC (.int 1))) (i:=b) rfl l1
     unfold cJ
     rw[c1,ar]
     show (if (decide (0≤a)&&decide (a<(bd.length:Int)))=true then _ else _)=M.ret (D.bl ((decide (0≤a)&&decide (a<(bd.length:Int)))&&(decide (0≤b)&&decide (b<(W:Int)))))
     cases (decide (0≤a)&&decide (a<(bd.length:Int)))
     ·rfl
     ·rw[if_pos rfl,c2,Bool.true_and]
   | .non,_,_,bad=>exact bad rfl
   | .bl _,_,_,bad=>exact bad rfl
   | .str _,_,_,bad=>exact bad rfl
   | .tup _,_,_,bad=>exact bad rfl
   | .lst _,_,_,bad=>exact bad rfl
   | .raw _,_,_,_=>exact pu.elim
   | .exc _,_,_,_=>exact pu.elim
   | .scr _,_,_,_=>exact pu.elim
   | .int a, .non,_,bad=>exact bad rfl
   | .int a, .bl _,_,bad=>exact bad rfl
   | .int a, .str _,_,bad=>exact bad rfl
   | .int a, .tup _,_,bad=>exact bad rfl
   | .int a, .lst _,_,bad=>exact bad rfl
   | .int a, .raw _,_,_=>exact pv.elim
   | .int a, .exc _,_,_=>exact pv.elim
   | .int a, .scr _,_,_=>exact pv.elim
 |non=>exact no rfl
 |bl b=>exact no rfl
 |int b=>exact no rfl
 |str b=>exact no rfl
 |lst b=>exact no rfl
 |raw _=>exact h.elim
 |exc _=>exact h.elim
 |scr _=>exact h.elim
 |dct _ _=>exact h.elim
 |dci _ _=>exact h.elim
abbrev Cell:=Nat×Nat
def cD(c:Cell):D:= .tup [.int (c.1:Int), .int (c.2:Int)]
def On(R W:Nat)(c:Cell):Prop:=c.1<R∧c.2<W
instance {R W:Nat}{c:Cell}:Decidable (On R W c):=by unfold On;infer_instance
theorem pq{c:Cell}:Plain2 (cD c):=fun d hd=>by
 have:d= .int (c.1:Int)∨d= .int (c.2:Int):=by simpa[cD] using hd
 rcases this with rfl | rfl<;>trivial
theorem sS{R W:Nat}{c:Cell}(h:On R W c):zo R W (cD c)=true:=by
 show ((decide ((0:Int)≤(c.1:Int))&&decide ((c.1:Int)<(R:Int)))&&(decide ((0:Int)≤(c.2:Int))&&decide ((c.2:Int)<(W:Int))))=true
 obtain⟨h1,h2⟩:=h
 simp
 omega
theorem Brd.nc{bd:List Str}{W:Nat}(hg:Brd bd W){c:Cell}(h:On bd.length W c):bT [brd bd,cD c]=M.ret .non:=by
 refine oQ (ρ:=[fz (brd bd),fz (cD c)]) (bq (d7 (bR (b:=true) ?_)) rfl)
 refine(ak (ds:=[brd bd,cD c]) rfl rfl).trans ?_
 rw[jA hg pq,sS h]
def Ways(w:Nat):Prop:=w=4∨w=8
theorem Ways.nw{w:Nat}(h:Ways w):cx [.int (w:Int)]=M.ret .non:=by
 rcases h with rfl | rfl<;>rfl
def ch(x:Str)(j:Nat):Nat:=x.cps.toList.getD j 0
def at2(bd:List Str)(i j:Nat):Nat:=ch (bd.getD i ⟨#[]⟩) j
abbrev lt(bd:List Str)(c:Cell):Nat:=at2 bd c.1 c.2
def sg(n:Nat):D:= .str ⟨#[n]⟩
theorem zb{x:Str}{c:Nat}(h:c<x.length):og (.str x) (.int (c:Int))=M.ret (sg (ch x c)):=by
 have h':c<x.cps.toList.length:=by rw[Array.length_toList];exact h
 show (match L2.atI x.cps.toList (c:Int) with | some c=>M.ret (D.str ⟨#[c]⟩) | none=>M.stuck)=_
 rw[eg (List.getElem?_eq_getElem h')]
 unfold sg ch
 rw[List.getD_eq_getElem?_getD,List.getElem?_eq_getElem h']
 rfl
theorem getD_mem{bd:List Str}{i:Nat}(h:i<bd.length):bd.getD i ⟨#[]⟩∈bd:=by
 rw[List.getD_eq_getElem?_getD,List.getElem?_eq_getElem h]
 exact List.getElem_mem h
theorem AS{bd:List Str}{i:Nat}(h:i<bd.length):bh (brd bd) (.int (i:Int))=M.ret (.str (bd.getD i ⟨#[]⟩)):=by
 show (match L2.atI (bd.map D.str) (i:Int) with | some d=>M.ret d | none=>M.stuck)=_
 rw[eg (x:= .str (bd.getD i ⟨#[]⟩)) ?_]
 rw[List.getElem?_map,List.getElem?_eq_getElem h,List.getD_eq_getElem?_getD,List.getElem?_eq_getElem h]
 rfl
theorem cU{bd:List Str}{W:Nat}(hg:Brd bd W){c:Cell}(h:On bd.length W c):bf [brd bd,cD c]=M.ret (sg (lt bd c)):=by
 refine a7 (az ?_)
 refine(aB (x:= .str (bd.getD c.1 ⟨#[]⟩)) (y:= .int (c.2:Int)) ((aB (x:=brd bd) (y:= .int (c.1:Int)) rfl rfl).trans (AS h.1)) rfl).trans ?_
 exact zb (by rw[(hg.rows _ (getD_mem h.1)).len];exact h.2)
theorem zv(a b:Nat):gi (sg a) (sg b)=M.ret (.bl (decide (a=b))):=by
 show M.ret (D.bl (decide ((⟨#[a]⟩:Str)=⟨#[b]⟩)))=_
 congr 2
 by_cases h:a=b
 ·subst h;simp
 ·have:¬((⟨#[a]⟩:Str)=⟨#[b]⟩):=fun z=>by
   injection z with z
   exact h (by simpa using z)
  rw[decide_eq_false h,decide_eq_false this]
def eO(a b:Nat):Nat:=max a b - min a b
def ix(w:Nat)(a b:Cell):Bool:=if w=4 then decide (eO a.1 b.1+eO a.2 b.2=1) else decide (max (eO a.1 b.1) (eO a.2 b.2)=1)
theorem sL(a b:Nat):vj [.int ((a:Int) - (b:Int))]=M.ret (.int (eO a b:Int)):=by
 show M.ret (D.int _)=_
 congr 2
 unfold eO
 omega
theorem hJ{w:Nat}(hw:Ways w)(a b:Cell):bE [cD a,cD b, .int (w:Int)]=M.ret (.bl (ix w a b)):=by
 refine a7 ?_
 refine ao (ρ':=[fz (cD a),fz (cD b),fz (.int (w:Int)),fz (.int (eO a.1 b.1:Int)),none]) ((aM (d:= .int (eO a.1 b.1:Int)) (sL a.1 b.1)).trans rfl) ?_
 refine ao (ρ':=[fz (cD a),fz (cD b),fz (.int (w:Int)),fz (.int (eO a.1 b.1:Int)),fz (.int (eO a.2 b.2:Int))]) ((aM (d:= .int (eO a.2 b.2:Int)) (sL a.2 b.2)).trans rfl) ?_
 rcases hw with rfl | rfl
 ·refine br (b_ (dQ rfl) (az ?_))
  show M.ret (D.bl (((eO a.1 b.1:Int)+(eO a.2 b.2:Int))==1))=_
  unfold ix
  rw[if_pos rfl]
  congr 2
  have:((eO a.1 b.1:Int)+(eO a.2 b.2:Int))=((eO a.1 b.1+eO a.2 b.2:Nat):Int):=by omega
  rw[this]
  have e:=gx (eO a.1 b.1+eO a.2 b.2) 1
  exact e.trans rfl
 ·refine ao (bq (dQ rfl) rfl) (az ?_)
  show M.ret (D.bl ((if (eO a.1 b.1:Int)<(eO a.2 b.2:Int) then(eO a.2 b.2:Int) else(eO a.1 b.1:Int))==1))=_
  have hn:ix 8 a b=decide (max (eO a.1 b.1) (eO a.2 b.2)=1):=rfl
  rw[hn]
  congr 2
  have:(if (eO a.1 b.1:Int)<(eO a.2 b.2:Int) then(eO a.2 b.2:Int) else(eO a.1 b.1:Int))=((max (eO a.1 b.1) (eO a.2 b.2):Nat):Int):=by split<;>omega
  rw[this]
  have e:=gx (max (eO a.1 b.1) (eO a.2 b.2)) 1
  exact e.trans rfl
theorem iy(w:Nat)(a b:Cell):ix w a b=ix w b a:=by
 have e:∀x y:Nat,eO x y=eO y x:=fun x y=>by unfold eO;omega
 unfold ix
 rw[e a.1,e a.2]
theorem eh{put:D→aW→Option aW}{body:DS}{d:D}{ds:List D}{ρ ρ1 ρ2:aW}(h1:put d ρ=some ρ1)(h2:body ρ1=M.ret (.nx ρ2)):forL put body (d::ds) ρ=forL put body ds ρ2:=by
 show (match put d ρ with | none=>M.stuck | some ρ1=>body ρ1>>=fun o=>match o with | .nx ρ2=>forL put body ds ρ2 | .rt v=>M.ret (.rt v))=_
 rw[h1]
 show (body ρ1>>=fun o=>match o with | .nx ρ2=>forL put body ds ρ2 | .rt v=>M.ret (.rt v))=_
 rw[h2]
 rfl
theorem xS{put:D→aW→Option aW}{body:DS}{d v:D}{ds:List D}{ρ ρ1:aW}(h1:put d ρ=some ρ1)(h2:body ρ1=M.ret (.rt v)):forL put body (d::ds) ρ=M.ret (.rt v):=by
 show (match put d ρ with | none=>M.stuck | some ρ1=>body ρ1>>=fun o=>match o with | .nx ρ2=>forL put body ds ρ2 | .rt v=>M.ret (.rt v))=_
 rw[h1]
 show (body ρ1>>=fun o=>match o with | .nx ρ2=>forL put body ds ρ2 | .rt v=>M.ret (.rt v))=_
 rw[h2]
 rfl
section
variable{α σ:Type}{put:D→aW→Option aW}{body:DS}
theorem i8(enc:α→D)(mk:σ→aW)(step:σ→α→σ)(I:σ→Prop):∀(xs:List α) (s:σ),I s→(∀s,I s→∀x∈xs,I (step s x)∧∃ρ1,put (enc x) (mk s)=some ρ1∧body ρ1=M.ret (.nx (mk (step s x))))→
 I (xs.foldl step s)∧forL put body (xs.map enc) (mk s)=M.ret (.nx (mk (xs.foldl step s)))
 |[],s,h,_=>⟨h,rfl⟩
 |x::xs,s,h,st=>by
  obtain⟨h2,ρ1,e1,e2⟩:=st s h x (List.mem_cons_self ..)
  obtain⟨h3,e3⟩:=i8 enc mk step I xs (step s x) h2 fun s hs y hy=>st s hs y (List.mem_cons_of_mem _ hy)
  exact⟨h3,(eh e1 e2).trans e3⟩
theorem mK(enc:α→D)(ρ:aW):∀(xs:List α),(∀x∈xs,∃ρ1,put (enc x) ρ=some ρ1∧body ρ1=M.ret (.nx ρ))→forL put body (xs.map enc) ρ=M.ret (.nx ρ)
 |[],_=>rfl
 |x::xs,st=>by
  obtain⟨ρ1,e1,e2⟩:=st x (List.mem_cons_self ..)
  exact(eh e1 e2).trans (mK enc ρ xs fun y hy=>st y (List.mem_cons_of_mem _ hy))
theorem kC(enc:α→D)(mk:List D→aW)(g:α→List D){B:Nat}:∀(xs:List α) (acc:List D),(acc++xs.flatMap g).length≤B→(∀x∈xs,∀acc,(acc++g x).length≤B→∃ρ1,put (enc x) (mk acc)=some ρ1∧body ρ1=M.ret (.nx (mk (acc++g x))))→
 forL put body (xs.map enc) (mk acc)=M.ret (.nx (mk (acc++xs.flatMap g)))
 |[],acc,_,_=>by simp;rfl
 |x::xs,acc,hB,st=>by
  have Gq:((acc++g x)++xs.flatMap g).length≤B:=by simpa[List.flatMap_cons,List.append_assoc] using hB
  obtain⟨ρ1,e1,e2⟩:=st x (List.mem_cons_self ..) acc (Nat.le_trans (by simp only[List.length_append];omega) Gq)
  have e3:=kC enc mk g xs (acc++g x) Gq fun y hy=>st y (List.mem_cons_of_mem _ hy)
  rw[List.map_cons,eh e1 e2,e3,List.flatMap_cons,List.append_assoc]
end
theorem lL{put:D→aW→Option aW}{δi:DA}{b:DS}{ρ:aW}{ds:List D}{m:M Out}(h:δi ρ=M.ret ds)(h2:forL put b ds ρ=m):e9 put δi b ρ=m:=by
 unfold e9
 rw[h]
 exact h2
theorem gc{τ:DS}{ρ:aW}{o:Out}(h:τ ρ=M.ret o):(fun ρ=>noex (τ ρ)) ρ=M.ret o:=by
 show noex (τ ρ)=_
 rw[h]
 rfl
theorem qC(lo n:Nat):eF (lo:Int) n=(List.range' lo n).map fun(k:Nat)=>D.int (k:Int):=by
 unfold eF
 rw[List.range_eq_range']
 have:∀(n a:Nat),(List.range' a n).map (fun (i:Nat)=>D.int ((lo:Int)+(i:Int)))=(List.range' (lo+a) n).map fun(k:Nat)=>D.int (k:Int):=by
  intro n
  induction n with
  |zero=>intro a;rfl
  |succ n ih=>
   intro a
   rw[List.range'_succ,List.range'_succ,List.map_cons,List.map_cons,ih (a+1)]
   rfl
 exact this n 0
theorem FQ{δ:DE}{ρ:aW}{n:Nat}(h:δ ρ=M.ret (.int (n:Int)))(hn:n≤4096):(aC δ aN ρ>>=jS)=M.ret ((List.range n).map fun(k:Nat)=>D.int (k:Int)):=by
 rw[ay h rfl,ar,jm hn,show eF 0 n=eF ((0:Nat):Int) n from rfl,qC,List.range_eq_range']
theorem BH{δ ε:DE}{ρ:aW}{i j:Nat}(h:δ ρ=M.ret (.int (i:Int)))(h2:ε ρ=M.ret (.int (j:Int)))(hi:i≤4096)(hj:j≤4096):(aC δ (aC ε aN) ρ>>=lJ)=M.ret ((List.range' i (j - i)).map fun(k:Nat)=>D.int (k:Int)):=by
 rw[ay h (ay h2 rfl),ar]
 show (if (-4096≤(i:Int)∧(i:Int)≤4096)∧(-4096≤(j:Int)∧(j:Int)≤4096) then M.ret (eF (i:Int) ((j:Int) - (i:Int)).toNat) else M.stuck)=_
 rw[if_pos ⟨⟨by omega,by omega⟩,by omega,by omega⟩,show ((j:Int) - (i:Int)).toNat=j - i by omega,qC]
def tU(W r:Nat):List Cell:=(List.range W).map fun k=>(r,k)
def i4(R W:Nat):List Cell:=(List.range R).flatMap (tU W)
theorem eV{R W:Nat}{c:Cell}:c∈i4 R W↔On R W c:=by
 unfold i4 tU On
 simp only[List.mem_flatMap,List.mem_range,List.mem_map]
 constructor
 ·rintro⟨r,hr,k,hk,rfl⟩;exact⟨hr,hk⟩
 ·rintro⟨h1,h2⟩;exact⟨c.1,h1,c.2,h2,rfl⟩
theorem gP(R W:Nat):(i4 R W).length=R*W:=by
 unfold i4
 have:∀l:List Nat,(l.flatMap (tU W)).length=l.length*W:=by
  intro l
  induction l with
  |nil=>simp
  |cons a l ih=>rw[List.flatMap_cons,List.length_append,ih,List.length_cons,Nat.succ_mul];simp[tU];omega
 rw[this,List.length_range]
def fJ(R W w:Nat)(c:Cell):List Cell:=
 (List.range' (c.1 - 1) (min (c.1+2) R - (c.1 - 1))).flatMap fun r=>((List.range' (c.2 - 1) (min (c.2+2) W - (c.2 - 1))).map fun k=>(r,k)).filter (ix w c)
theorem m_{R W w:Nat}(hw:Ways w){c x:Cell}:x∈fJ R W w c↔On R W x∧ix w c x=true:=by
 unfold fJ On
 simp only[List.mem_flatMap,List.mem_filter,List.mem_map,List.mem_range'_1]
 constructor
 ·rintro⟨r,⟨h1,h2⟩,⟨k,⟨h3,h4⟩,rfl⟩,h5⟩
  refine⟨⟨?_,?_⟩,h5⟩
  ·show r<R;omega
  ·show k<W;omega
 ·rintro⟨⟨h1,h2⟩,h5⟩
  have h6:eO c.1 x.1≤1∧eO c.2 x.2≤1:=by
   unfold ix at h5
   rcases hw with rfl | rfl
   ·rw[if_pos rfl] at h5;have:=of_decide_eq_true h5;omega
   ·rw[if_neg (by decide)] at h5;have:=of_decide_eq_true h5;omega
  unfold eO at h6
  exact⟨x.1,⟨by omega,by omega⟩,⟨x.2,⟨by omega,by omega⟩,rfl⟩,h5⟩
theorem m8(R W w:Nat)(c:Cell):(fJ R W w c).length≤9:=by
 unfold fJ
 rw[List.length_flatMap]
 have h:∀r,(((List.range' (c.2 - 1) (min (c.2+2) W - (c.2 - 1))).map fun k=>(r,k)).filter (ix w c)).length≤3:=fun r=>by
  refine Nat.le_trans (List.length_filter_le ..) ?_
  rw[List.length_map,List.length_range']
  omega
 have:∀(l:List Nat),(l.map fun r=>(((List.range' (c.2 - 1) (min (c.2+2) W - (c.2 - 1))).map fun k=>(r,k)).filter (ix w c)).length).sum≤3*l.length:=by
  intro l
  induction l with
  |nil=>simp
  |cons a l ih=>rw[List.map_cons,List.sum_cons,List.length_cons];have:=h a;omega
 refine Nat.le_trans (this _) ?_
 rw[List.length_range']
 omega
abbrev nc(b c w:D)(acc:List D)(x4 x5:Option Sl):aW:=[fz b,fz c,fz w,some (.ow (.lst acc)),x4,x5]
theorem kX{bd:List Str}{W w:Nat}(hg:Brd bd W)(hw:Ways w){c:Cell}(hc:On bd.length W c):bZ [brd bd,cD c, .int (w:Int)]=M.ret (.lst ((fJ bd.length W w c).map cD)):=by
 have h8:=hg.r8
 have w8:=hg.w8
 obtain⟨c1,c2⟩:=hc
 have CZ:∀n:Nat,rM [.int ((n:Int) - 1), .int 0]=M.ret (.int ((n - 1:Nat):Int)):=fun n=>by
  show M.ret (D.int (if (0:Int)>(n:Int) - 1 then 0 else(n:Int) - 1))=_
  congr 2
  split<;>omega
 have i9:∀n m:Nat,uJ [.int ((n:Int)+2), .int (m:Int)]=M.ret (.int ((min (n+2) m:Nat):Int)):=fun n m=>by
  show M.ret (D.int (if (m:Int)<(n:Int)+2 then(m:Int) else(n:Int)+2))=_
  congr 2
  split<;>omega
 have inner:∀(r:Nat) (acc:List D),acc.length≤16→forL (putN 5) (c9 [5] (cK (aR (ah 3 bE (aC (dV 1) (aC (dA dX (aC (dV 4) (aC (dV 5) aN))) (aC (dV 2) aN))))) (lK 3 (dA dX (aC (dV 4) (aC (dV 5) aN)))) ba))
  ((List.range' (c.2 - 1) (min (c.2+2) W - (c.2 - 1))).map fun(k:Nat)=>D.int (k:Int)) (nc (brd bd) (cD c) (.int (w:Int)) acc (fz (.int (r:Int))) none)=
  M.ret (.nx (nc (brd bd) (cD c) (.int (w:Int)) (acc++(List.range' (c.2 - 1) (min (c.2+2) W - (c.2 - 1))).flatMap fun k=>if ix w c (r,k) then [cD (r,k)] else []) (fz (.int (r:Int))) none)):=fun r acc vR=>by
  refine kC (fun (k:Nat)=>D.int (k:Int)) (fun acc=>nc (brd bd) (cD c) (.int (w:Int)) acc (fz (.int (r:Int))) none) (fun k=>if ix w c (r,k) then [cD (r,k)] else []) (B:=64) _ acc ?_ fun k hk acc hB=>?_
  ·rw[List.length_append,List.length_flatMap]
   have:∀l:List Nat,(l.map fun k=>(if ix w c (r,k) then [cD (r,k)] else []).length).sum≤l.length:=by
    intro l
    induction l with
    |nil=>simp
    |cons a l ih=>rw[List.map_cons,List.sum_cons,List.length_cons];split<;>simp<;>omega
   have h2:=this (List.range' (c.2 - 1) (min (c.2+2) W - (c.2 - 1)))
   rw[List.length_range'] at h2
   omega
  ·refine⟨nc (brd bd) (cD c) (.int (w:Int)) acc (fz (.int (r:Int))) (fz (.int (k:Int))),rfl,?_⟩
   have ht:aR (ah 3 bE (aC (dV 1) (aC (dA dX (aC (dV 4) (aC (dV 5) aN))) (aC (dV 2) aN)))) (nc (brd bd) (cD c) (.int (w:Int)) acc (fz (.int (r:Int))) (fz (.int (k:Int))))=M.ret (ix w c (r,k)):=
    bR ((ak (ds:=[cD c,cD (r,k), .int (w:Int)]) rfl rfl).trans (hJ hw c (r,k)))
   cases hn:ix w c (r,k) with
   |true=>
    rw[hn] at ht
    rw[hn,if_pos rfl,List.length_append] at hB
    refine(cI (ρ':=nc (brd bd) (cD c) (.int (w:Int)) (acc++[cD (r,k)]) (fz (.int (r:Int))) (fz (.int (k:Int)))) (b_ ht ?_)).trans rfl
    show (if acc.length<lim then M.ret (Out.nx (nc (brd bd) (cD c) (.int (w:Int)) (acc++[cD (r,k)]) (fz (.int (r:Int))) (fz (.int (k:Int))))) else M.stuck)=_
    rw[if_pos (by rw[ei];simp at hB;omega)]
   |false=>
    rw[hn] at ht
    refine(cI (ρ':=nc (brd bd) (cD c) (.int (w:Int)) acc (fz (.int (r:Int))) (fz (.int (k:Int)))) (bq ht rfl)).trans ?_
    simp
    rfl
 have flt:∀r,((List.range' (c.2 - 1) (min (c.2+2) W - (c.2 - 1))).flatMap fun k=>if ix w c (r,k) then [cD (r,k)] else [])=(((List.range' (c.2 - 1) (min (c.2+2) W - (c.2 - 1))).map fun k=>(r,k)).filter (ix w c)).map cD:=fun r=>by
  generalize List.range' (c.2 - 1) (min (c.2+2) W - (c.2 - 1))=l
  induction l with
  |nil=>rfl
  |cons a l ih=>
   rw[List.flatMap_cons,ih,List.map_cons,List.filter_cons]
   cases ix w c (r,a)<;>rfl
 have tot:(List.range' (c.1 - 1) (min (c.1+2) bd.length - (c.1 - 1))).flatMap (fun r=>(((List.range' (c.2 - 1) (min (c.2+2) W - (c.2 - 1))).map fun k=>(r,k)).filter (ix w c)).map cD)=(fJ bd.length W w c).map cD:=by
  unfold fJ;rw[List.map_flatMap]
 have outer:=kC (put:=putN 4) (body:=c9 [4,5] (e9 (putN 5) (fun ρ=>(aC (dA rM (aC (d2 oh (d2 bh (dV 1) (dC (.int 1))) (dC (.int 1))) (aC (dC (.int 0)) aN))) (aC (dA uJ (aC (d2 bF (d2 bh (dV 1) (dC (.int 1))) (dC (.int 2))) (aC (dA aU (aC (d2 bh (dV 0) (dC (.int 0))) aN)) aN))) aN)) ρ>>=lJ) (c9 [5] (cK (aR (ah 3 bE (aC (dV 1) (aC (dA dX (aC (dV 4) (aC (dV 5) aN))) (aC (dV 2) aN))))) (lK 3 (dA dX (aC (dV 4) (aC (dV 5) aN)))) ba))))
  (fun (k:Nat)=>D.int (k:Int)) (fun acc=>nc (brd bd) (cD c) (.int (w:Int)) acc none none) (fun r=>(((List.range' (c.2 - 1) (min (c.2+2) W - (c.2 - 1))).map fun k=>(r,k)).filter (ix w c)).map cD) (B:=16) (List.range' (c.1 - 1) (min (c.1+2) bd.length - (c.1 - 1))) []
  (by rw[List.nil_append,tot,List.length_map];have:=m8 bd.length W w c;omega) fun r hr acc hB=>by
   refine⟨nc (brd bd) (cD c) (.int (w:Int)) acc (fz (.int (r:Int))) none,rfl,?_⟩
   have e:=inner r acc (by rw[List.length_append] at hB;omega)
   rw[flt r] at e
   refine(cI (lL (BH (i:=c.2 - 1) (j:=min (c.2+2) W) ?_ ?_ (by omega) (by omega)) e)).trans rfl
   ·exact(cj (xs:=[.int ((c.2:Int) - 1), .int 0]) rfl).trans (CZ c.2)
   ·refine(cj (xs:=[.int ((c.2:Int)+2), .int (W:Int)]) ?_).trans (i9 c.2 W)
    exact ay (show d2 bF (d2 bh (dV 1) (dC (.int 1))) (dC (.int 2)) (nc (brd bd) (cD c) (.int (w:Int)) acc (fz (.int (r:Int))) none)=M.ret (.int ((c.2:Int)+2)) from rfl) (ay (hg.len0 rfl) rfl)
 rw[List.nil_append,tot] at outer
 refine a7 (ao (ρ':=nc (brd bd) (cD c) (.int (w:Int)) [] none none) rfl (ao (ρ':=nc (brd bd) (cD c) (.int (w:Int)) ((fJ bd.length W w c).map cD) none none) (gc (lL (BH (i:=c.1 - 1) (j:=min (c.1+2) bd.length) ?_ ?_ (by omega) (by omega)) outer)) ?_))
 ·exact(cj (xs:=[.int ((c.1:Int) - 1), .int 0]) rfl).trans (CZ c.1)
 ·refine(cj (xs:=[.int ((c.1:Int)+2), .int (bd.length:Int)]) ?_).trans (i9 c.1 bd.length)
  exact ay (show d2 bF (d2 bh (dV 1) (dC (.int 0))) (dC (.int 2)) (nc (brd bd) (cD c) (.int (w:Int)) [] none none)=M.ret (.int ((c.1:Int)+2)) from rfl) (ay (Dc rfl) rfl)
 ·rfl
def aF(bd:List Str)(W w:Nat)(c:Cell):List Cell:=(fJ bd.length W w c).filter fun x=>decide (lt bd x=lt bd c)
theorem dm{bd:List Str}{W w:Nat}(hw:Ways w){c x:Cell}:x∈aF bd W w c↔On bd.length W x∧ix w c x=true∧lt bd x=lt bd c:=by
 unfold aF
 rw[List.mem_filter,m_ hw,decide_eq_true_eq,and_assoc]
theorem m7(bd:List Str)(W w:Nat)(c:Cell):(aF bd W w c).length≤9:=Nat.le_trans (List.length_filter_le ..) (m8 ..)
theorem i5{α:Type}{f:D→M (Option D)}(enc:α→D)(p:α→Bool):∀(xs:List α),(∀x∈xs,f (enc x)=M.ret (if p x then some (enc x) else none))→cq f (xs.map enc)=M.ret ((xs.filter p).map enc)
 |[],_=>rfl
 |x::xs,h=>by
  rw[List.map_cons,du,h x (List.mem_cons_self ..),ar,i5 enc p xs fun y hy=>h y (List.mem_cons_of_mem _ hy),List.filter_cons]
  cases p x<;>rfl
theorem fH{bd:List Str}{W w:Nat}(hg:Brd bd W)(hw:Ways w){c:Cell}(hc:On bd.length W c):aK [brd bd,cD c, .int (w:Int)]=M.ret (.lst ((aF bd W w c).map cD)):=by
 refine a7 (ao (ρ':=[fz (brd bd),fz (cD c),fz (.int (w:Int)),fz (sg (lt bd c))]) ((aM (d:=sg (lt bd c)) ((ak (ds:=[brd bd,cD c]) rfl rfl).trans (cU hg hc))).trans rfl) (az ?_))
 refine cN (ds:=(fJ bd.length W w c).map cD) ?_ (i5 cD _ _ fun x hx=>?_) (by rw[List.length_map,ei];exact Nat.le_trans (m7 bd W w c) (by decide))
 ·show (ah 3 bZ _ _>>=lstM)=_
  have e:ah 3 bZ (aC (dV 0) (aC (dV 1) (aC (dV 2) aN))) [fz (brd bd),fz (cD c),fz (.int (w:Int)),fz (sg (lt bd c))]=M.ret (.lst ((fJ bd.length W w c).map cD)):=kX hg hw hc
  rw[e]
  rfl
 ·have Fm:=(m_ hw).mp hx
  rw[vC]
  have e:bN (d2 gi (ah 2 bf (aC (dV 1) (aC (dV 0) aN))) (dV 4)) (fz (cD x)::[fz (brd bd),fz (cD c),fz (.int (w:Int)),fz (sg (lt bd c))])=M.ret (decide (lt bd x=lt bd c)):=by
   refine dQ ?_
   exact(aB (x:=sg (lt bd x)) (y:=sg (lt bd c)) ((ak (ds:=[brd bd,cD x]) rfl rfl).trans (cU hg Fm.1)) rfl).trans (zv _ _)
  rw[e,ar]
  cases decide (lt bd x=lt bd c)<;>rfl
end K1
namespace K1
section
variable{α:Type}[DecidableEq α]
structure Bk (α:Type) where
 ks:List α
 ps:List (Option α)
 fu:List α
def cX(c:α)(s:Bk α)(x:α):Bk α:=if x∈s.ks then s else⟨s.ks++[x],s.ps++[some c],s.fu++[x]⟩
variable(nb:α→List α)
def jw(s:Bk α)(c:α):Bk α:=(nb c).foldl (cX c) s
def bO(s:Bk α)(ring:List α):Bk α:=ring.foldl (jw nb) s
def Rb(a:α):Nat→α→Prop
 |0,x=>x=a
 |k+1,x=>Rb a k x∨∃y,Rb a k y∧x∈nb y
variable{nb}{a:α}
theorem Rb.mono{i j:Nat}{x:α}(h:i≤j)(r:Rb nb a i x):Rb nb a j x:=by
 induction h with
 |refl=>exact r
 |step _ ih=>exact .inl ih
structure Grown (P:α→α→Prop) (s t:Bk α):Prop where
 ex:∃fs:List (α×α),t.ks=s.ks++fs.map (·.1)∧t.ps=s.ps++fs.map (fun p=>some p.2)∧t.fu=s.fu++fs.map (·.1)∧(∀p∈fs,P p.2 p.1)
 nd:s.ks.Nodup→t.ks.Nodup
theorem Grown.refl{P:α→α→Prop}(s:Bk α):Grown P s s:=⟨⟨[],by simp,by simp,by simp,fun _ h=>by cases h⟩,id⟩
theorem Grown.trans{P:α→α→Prop}{s t u:Bk α}(h1:Grown P s t)(h2:Grown P t u):Grown P s u:=by
 obtain⟨fs,a1,a2,a3,a4⟩:=h1.ex
 obtain⟨gs,b1,b2,b3,b4⟩:=h2.ex
 refine⟨⟨fs++gs,by rw[b1,a1];simp,by rw[b2,a2];simp,by rw[b3,a3];simp,fun p hp=>?_⟩,fun h=>h2.nd (h1.nd h)⟩
 rcases List.mem_append.mp hp with h | h
 ·exact a4 p h
 ·exact b4 p h
theorem pk{P:α→α→Prop}{c x:α}(s:Bk α)(h:P c x):Grown P s (cX c s x):=by
 unfold cX
 split
 ·exact Grown.refl s
 ·rename_i hx
  refine⟨⟨[(x,c)],rfl,rfl,rfl,fun p hp=>?_⟩,fun hn=>?_⟩
  ·have:p=(x,c):=by simpa using hp
   subst this;exact h
  ·refine List.nodup_append.mpr ⟨hn,by simp,fun y hy z hz e=>?_⟩
   have hz:z=x:=by simpa using hz
   rw[e,hz] at hy
   exact hx hy
theorem t8{c x y:α}(s:Bk α):y∈(cX c s x).ks↔y∈s.ks∨y=x:=by
 unfold cX
 split
 ·rename_i hx
  exact⟨.inl,fun h=>h.elim id fun e=>by rw[e];exact hx⟩
 ·simp
theorem foldStep{P:α→α→Prop}{c:α}:∀(l:List α) (s:Bk α),(∀x∈l,P c x)→Grown P s (l.foldl (cX c) s)∧∀y,y∈(l.foldl (cX c) s).ks↔y∈s.ks∨y∈l
 |[],s,_=>⟨Grown.refl s,fun y=>by simp⟩
 |x::l,s,h=>by
  obtain⟨h1,h2⟩:=foldStep l (cX c s x) fun y hy=>h y (List.mem_cons_of_mem _ hy)
  refine⟨(pk s (h x (List.mem_cons_self ..))).trans h1,fun y=>?_⟩
  rw[List.foldl_cons,h2 y,t8]
  simp[or_assoc]
theorem pO{P:α→α→Prop}:∀(l:List α) (s:Bk α),(∀c∈l,∀x∈nb c,P c x)→Grown P s (bO nb s l)∧∀y,y∈(bO nb s l).ks↔y∈s.ks∨∃c∈l,y∈nb c
 |[],s,_=>⟨Grown.refl s,fun y=>by simp[bO]⟩
 |c::l,s,h=>by
  obtain⟨g1,m1⟩:=foldStep (P:=P) (c:=c) (nb c) s (h c (List.mem_cons_self ..))
  obtain⟨g2,m2⟩:=pO l (jw nb s c) fun c' hc=>h c' (List.mem_cons_of_mem _ hc)
  refine⟨g1.trans g2,fun y=>?_⟩
  show y∈(bO nb (jw nb s c) l).ks↔_
  rw[m2 y]
  show (y∈((nb c).foldl (cX c) s).ks∨_)↔_
  rw[m1 y]
  simp[or_assoc]
structure Rng (nb:α→List α) (a:α) (k:Nat) (ks:List α) (ps:List (Option α)) (ring:List α):Prop where
 len:ks.length=ps.length
 nd:ks.Nodup
 mem:∀x,x∈ks↔Rb nb a k x
 rg:∀x,x∈ring↔Rb nb a k x∧∀j,Rb nb a j x→k≤j
 par:∀x p,(x,some p)∈ks.zip ps→x∈nb p∧p∈ks∧∀j,Rb nb a j x→∃i,j=i+1∧Rb nb a i p
 non:∀x,(x,none)∈ks.zip ps→x=a
 sz:k≤ks.length∧(ring≠[]→k+1≤ks.length)
theorem Rng.zero(nb:α→List α)(a:α):Rng nb a 0 [a] [none] [a] where
 len:=rfl
 nd:=by simp
 mem:=fun x=>by simp[Rb]
 rg:=fun x=>by simp[Rb]
 par:=fun x p h=>by simp at h
 non:=fun x h=>by simpa using h
 sz:=⟨by simp,fun _=>by simp⟩
theorem Rng.next{k:Nat}{ks:List α}{ps:List (Option α)}{ring:List α}(h:Rng nb a k ks ps ring)(hr:ring≠[]):Rng nb a (k+1) (bO nb ⟨ks,ps,[]⟩ ring).ks (bO nb ⟨ks,ps,[]⟩ ring).ps (bO nb ⟨ks,ps,[]⟩ ring).fu:=by
 obtain⟨g,m⟩:=pO (nb:=nb) (P:=fun c x=>c∈ring∧x∈nb c) ring ⟨ks,ps,[]⟩ fun c hc x hx=>⟨hc,hx⟩
 obtain⟨fs,e1,e2,e3,e4⟩:=g.ex
 have xW:=g.nd h.nd
 have hm:∀x,x∈(bO nb ⟨ks,ps,[]⟩ ring).ks↔Rb nb a (k+1) x:=fun x=>by
  rw[m x]
  show (x∈ks∨_)↔(Rb nb a k x∨_)
  constructor
  ·rintro(q | ⟨c,hc,hx⟩)
   ·exact .inl ((h.mem x).mp q)
   ·exact .inr ⟨c,((h.rg c).mp hc).1,hx⟩
  ·rintro(q | ⟨y,hy,hx⟩)
   ·exact .inl ((h.mem x).mpr q)
   ·by_cases hk:∀j,Rb nb a j y→k≤j
    ·exact .inr ⟨y,(h.rg y).mpr ⟨hy,hk⟩,hx⟩
    ·refine .inl ((h.mem x).mpr ?_)
     obtain⟨j,hj⟩:=Classical.not_forall.mp hk
     obtain⟨E2,Ie⟩:=Classical.not_imp.mp hj
     exact Rb.mono (i:=j+1) (by omega) (.inr ⟨y,E2,hx⟩)
 have vc:(bO nb ⟨ks,ps,[]⟩ ring).ks=ks++fs.map (·.1):=e1
 have B3:(bO nb ⟨ks,ps,[]⟩ ring).ps=ps++fs.map (fun p=>some p.2):=e2
 have D4:(bO nb ⟨ks,ps,[]⟩ ring).fu=fs.map (·.1):=e3
 have new:∀x,x∈fs.map (·.1)→¬Rb nb a k x:=fun x hx hk=>by
  rw[vc] at xW
  exact(List.nodup_append.mp xW).2.2 x ((h.mem x).mpr hk) x hx rfl
 have C_:∀x,¬Rb nb a k x→∀j,Rb nb a j x→k+1≤j:=fun x hx j hj=>by
  by_cases GF:k+1≤j
  ·exact GF
  ·exact absurd (Rb.mono (by omega) hj) hx
 have C2:(bO nb ⟨ks,ps,[]⟩ ring).ks.zip (bO nb ⟨ks,ps,[]⟩ ring).ps=ks.zip ps++fs.map fun p=>(p.1,some p.2):=by
  rw[vc,B3,List.zip_append h.len]
  congr 1
  rw[List.zip_map']
 refine⟨?_,xW,hm,fun x=>?_,fun x p hp=>?_,fun x hx=>?_,?_⟩
 ·rw[vc,B3,List.length_append,List.length_append,List.length_map,List.length_map,h.len]
 ·rw[D4]
  constructor
  ·intro hx
   exact⟨(hm x).mp (by rw[vc];exact List.mem_append_right _ hx),C_ x (new x hx)⟩
  ·rintro⟨h1,h2⟩
   have h3:=(hm x).mpr h1
   rw[vc] at h3
   rcases List.mem_append.mp h3 with q | q
   ·have:=h2 k ((h.mem x).mp q)
    omega
   ·exact q
 ·rw[C2] at hp
  rcases List.mem_append.mp hp with q | q
  ·obtain⟨q1,q2,q3⟩:=h.par x p q
   exact⟨q1,by rw[vc];exact List.mem_append_left _ q2,q3⟩
  ·obtain⟨f,hf,e⟩:=List.mem_map.mp q
   cases e
   obtain⟨f1,f2⟩:=e4 f hf
   have hc:=(h.rg f.2).mp f1
   refine⟨f2,by rw[vc];exact List.mem_append_left _ ((h.mem _).mpr hc.1),fun j hj=>?_⟩
   have:=C_ f.1 (new f.1 (List.mem_map.mpr ⟨f,hf,rfl⟩)) j hj
   exact⟨j - 1,by omega,Rb.mono (by omega) hc.1⟩
 ·rw[C2] at hx
  rcases List.mem_append.mp hx with q | q
  ·exact h.non x q
  ·obtain⟨f,hf,e⟩:=List.mem_map.mp q
   cases e
 ·have hs:=h.sz.2 hr
  rw[vc,List.length_append,List.length_map]
  refine⟨by omega,fun l7=>?_⟩
  have:fs≠[]:=fun z=>l7 (by rw[D4,z];rfl)
  have:=List.length_pos_iff.mpr this
  omega
theorem Rng.last{k:Nat}{ks:List α}{ps:List (Option α)}(h:Rng nb a k ks ps []):∀x,x∈ks↔∃j,Rb nb a j x:=by
 have none:∀x,¬(Rb nb a k x∧∀j,Rb nb a j x→k≤j):=fun x q=>by
  have:=(h.rg x).mpr q
  cases this
 have hk:∀x,Rb nb a k x→∃i,i<k∧Rb nb a i x:=fun x hx=>by
  by_cases q:∀j,Rb nb a j x→k≤j
  ·exact absurd ⟨hx,q⟩ (none x)
  ·obtain⟨j,hj⟩:=Classical.not_forall.mp q
   obtain⟨E2,Ie⟩:=Classical.not_imp.mp hj
   exact⟨j,by omega,E2⟩
 have all:∀j x,Rb nb a j x→Rb nb a k x:=by
  intro j
  induction j with
  |zero=>intro x hx;exact Rb.mono (Nat.zero_le _) hx
  |succ j ih=>
   rintro x (q | ⟨y,hy,hx⟩)
   ·exact ih x q
   ·obtain⟨i,hi,hr⟩:=hk y (ih y hy)
    exact Rb.mono (i:=i+1) (by omega) (.inr ⟨y,hr,hx⟩)
 exact fun x=>⟨fun q=>⟨k,(h.mem x).mp q⟩,fun⟨j,hj⟩=>(h.mem x).mpr (all j x hj)⟩
theorem iw{l U:List α}(hn:l.Nodup)(h:∀x∈l,x∈U):l.length≤U.length:=by
 induction l generalizing U with
 |nil=>simp
 |cons a l ih=>
  rw[List.nodup_cons] at hn
  have hl:∀x∈l,x∈U.erase a:=fun x hx=>by
   have l7:x≠a:=fun z=>hn.1 (by rw[←z];exact hx)
   exact(List.mem_erase_of_ne l7).mpr (h x (List.mem_cons_of_mem _ hx))
  have h1:=ih hn.2 hl
  have h2:=List.length_erase_of_mem (h a (List.mem_cons_self ..))
  have h3:=List.length_pos_of_mem (h a (List.mem_cons_self ..))
  rw[List.length_cons]
  omega
end
end K1
namespace K1
open PySem L2 L3
def keyOf(c:Cell):List Key:=[.inl (c.1:Int), .inl (c.2:Int)]
theorem i_{a b:Cell}(h:keyOf a=keyOf b):a=b:=by
 unfold keyOf at h
 injection h with h1 h2
 injection h1 with h1
 injection h2 with h2 _
 injection h2 with h2
 exact Prod.ext (Int.ofNat.inj h1) (Int.ofNat.inj h2)
theorem ig(c:Cell):df (cD c)=some (keyOf c):=rfl
theorem js{c:Cell}:∀{ks:List Cell}{ds:List D},c∉ks→eI (ks.map keyOf) ds (keyOf c)=none
 |[],_,_=>by simp[eI]
 |k::ks,[],_=>by simp[eI]
 |k::ks,d::ds,h=>by
  rw[List.map_cons]
  unfold eI
  rw[if_neg (fun z=>h (by rw[i_ z];exact List.mem_cons_self ..))]
  exact js fun z=>h (List.mem_cons_of_mem _ z)
theorem gh{c:Cell}:∀{ks:List Cell}{ds:List D},ks.length=ds.length→c∈ks→∃d,eI (ks.map keyOf) ds (keyOf c)=some d∧(c,d)∈ks.zip ds
 |[],_,_,h=>by cases h
 |k::ks,[],hl,_=>by simp at hl
 |k::ks,d::ds,hl,h=>by
  rw[List.map_cons]
  unfold eI
  by_cases hk:k=c
  ·subst hk
   rw[if_pos rfl]
   exact⟨d,rfl,by simp⟩
  ·rw[if_neg (fun z=>hk (i_ z))]
   have hc:c∈ks:=by
    rcases List.mem_cons.mp h with q | q
    ·exact absurd q.symm hk
    ·exact q
   obtain⟨d',e1,e2⟩:=gh (ds:=ds) (by simpa using hl) hc
   exact⟨d',e1,by simp[e2]⟩
theorem f_{neg:Bool}{ks:List Cell}{ds:List D}{c:Cell}(hl:ks.length=ds.length):d8 neg (cD c) (.dct (ks.map keyOf) ds)=M.ret (.bl (if neg then !decide (c∈ks) else decide (c∈ks))):=by
 show (match (df (cD c)).map (eI (ks.map keyOf) ds) with | some o=>M.ret (D.bl (if neg then !o.isSome else o.isSome)) | none=>M.stuck)=_
 rw[ig]
 show M.ret (D.bl (if neg then !(eI (ks.map keyOf) ds (keyOf c)).isSome else(eI (ks.map keyOf) ds (keyOf c)).isSome))=_
 by_cases h:c∈ks
 ·obtain⟨d,e,_⟩:=gh hl h
  rw[e,decide_eq_true h];rfl
 ·rw[js h,decide_eq_false h];rfl
theorem qu{ks:List Cell}{ds:List D}{c:Cell}{d:D}(h:c∉ks)(hl:ds.length<lim):lE (.dct (ks.map keyOf) ds) (cD c) d=some (.dct ((ks++[c]).map keyOf) (ds++[d])):=by
 show (match df (cD c) with | some kk=>if ds.length<lim then some (C.dct (fM (ks.map keyOf) ds kk) (eC (ks.map keyOf) ds kk d)) else none | none=>none)=_
 rw[ig]
 show (if ds.length<lim then some (C.dct (fM (ks.map keyOf) ds (keyOf c)) (eC (ks.map keyOf) ds (keyOf c) d)) else none)=_
 rw[if_pos hl]
 unfold fM eC
 rw[js h]
 simp
theorem xn{τ:DT}{ρ:aW}{b:Bool}(h:τ (sY ρ)=M.ret b):z8 τ ρ=M.ret b:=by
 unfold z8
 rw[h]
 rfl
theorem Cs{δ:DE}{ρ:aW}{d:D}(h:δ (sY ρ)=M.ret d)(hf:pL d=true):Ah δ ρ=M.ret d:=by
 unfold Ah
 rw[h]
 show kA d=_
 unfold kA
 rw[hf]
 rfl
theorem xR(c:Cell):pL (cD c)=true:=rfl
theorem qS{c:DT}{body:DS}{n:Nat}{ρ ρ':aW}{m:M Out}(h1:c ρ=M.ret true)(h2:body ρ=M.ret (.nx ρ'))(h3:cS c body n ρ'=m):cS c body (n+1) ρ=m:=by
 show (c ρ>>=fun b=>if b then body ρ>>=fun o=>match o with | .nx ρ'=>cS c body n ρ' | .rt d=>M.ret (.rt d) else M.ret (.nx ρ))=_
 rw[h1,ar,if_pos rfl,h2]
 exact h3
theorem qR{c:DT}{body:DS}{n:Nat}{ρ:aW}(h1:c ρ=M.ret false):cS c body (n+1) ρ=M.ret (.nx ρ):=by
 show (c ρ>>=fun b=>if b then body ρ>>=fun o=>match o with | .nx ρ'=>cS c body n ρ' | .rt d=>M.ret (.rt d) else M.ret (.nx ρ))=_
 rw[h1]
 rfl
def oG:Option Cell→D
 |none=> .non
 |some c=>cD c
abbrev vp(ks:List Cell)(ps:List (Option Cell)):C:= .dct (ks.map keyOf) (ps.map oG)
abbrev cY(ks:List Cell)(ps:List (Option Cell)):D:= .dct (ks.map keyOf) (ps.map oG)
abbrev sb(b s w:D)(ks:List Cell)(ps:List (Option Cell))(x4 x5 x6 x7:Option Sl):aW:=[fz b,fz s,fz w,some (.ow (vp ks ps)),x4,x5,x6,x7]
structure Bok (R W:Nat) (s:Bk Cell):Prop where
 len:s.ks.length=s.ps.length
 nd:s.ks.Nodup
 on:∀x∈s.ks,On R W x
 fu:s.fu.length≤s.ks.length
theorem Bok.le{R W:Nat}{s:Bk Cell}(h:Bok R W s):s.ks.length≤R*W:=by
 rw[←gP R W]
 exact iw h.nd fun x hx=>eV.mpr (h.on x hx)
theorem Bok.step{R W:Nat}{s:Bk Cell}(h:Bok R W s){c x:Cell}(hx:On R W x):Bok R W (cX c s x):=by
 unfold cX
 split
 ·exact h
 ·rename_i hn
  refine⟨by simp[h.len],?_,fun y hy=>?_,by simp;exact h.fu⟩
  ·refine List.nodup_append.mpr ⟨h.nd,by simp,fun y hy z hz e=>?_⟩
   have hz:z=x:=by simpa using hz
   rw[e,hz] at hy
   exact hn hy
  ·rcases List.mem_append.mp hy with q | q
   ·exact h.on y q
   ·have:y=x:=by simpa using q
    rw[this];exact hx
def BL:DS:=c9 [7] (cK (z8 (bN (d2 (d8 true) (dV 7) (dV 3)))) (aA (nL 3 (dV 7) (dV 6)) (lK 5 (dV 7))) ba)
theorem za{bd:List Str}{W:Nat}(hg:Brd bd W){a c x:Cell}{w:D}{r:Option Sl}{s:Bk Cell}(h:Bok bd.length W s):
 BL (sb (brd bd) (cD a) w s.ks s.ps r (some (.ow (.lst (s.fu.map cD)))) (fz (cD c)) (fz (cD x)))=M.ret (.nx (sb (brd bd) (cD a) w (cX c s x).ks (cX c s x).ps r (some (.ow (.lst ((cX c s x).fu.map cD)))) (fz (cD c)) none)):=by
 have hle:=h.le
 have hm:bd.length*W≤64:=Nat.mul_le_mul hg.r8 hg.w8
 have ht:z8 (bN (d2 (d8 true) (dV 7) (dV 3))) (sb (brd bd) (cD a) w s.ks s.ps r (some (.ow (.lst (s.fu.map cD)))) (fz (cD c)) (fz (cD x)))=M.ret (!decide (x∈s.ks)):=
  xn (dQ ((aB (x:=cD x) (y:=cY s.ks s.ps) rfl rfl).trans (f_ (neg:=true) (by rw[List.length_map];exact h.len))))
 by_cases hx:x∈s.ks
 ·rw[decide_eq_true hx] at ht
  have e:cX c s x=s:=if_pos hx
  rw[e]
  exact(cI (bq ht rfl)).trans rfl
 ·rw[decide_eq_false hx] at ht
  have e:cX c s x=⟨s.ks++[x],s.ps++[some c],s.fu++[x]⟩:=if_neg hx
  rw[e]
  refine(cI (ρ':=sb (brd bd) (cD a) w (s.ks++[x]) (s.ps++[some c]) r (some (.ow (.lst ((s.fu++[x]).map cD)))) (fz (cD c)) (fz (cD x))) (b_ ht (ao (ρ':=sb (brd bd) (cD a) w (s.ks++[x]) (s.ps++[some c]) r (some (.ow (.lst (s.fu.map cD)))) (fz (cD c)) (fz (cD x))) ?_ ?_))).trans rfl
  ·show (match lE (vp s.ks s.ps) (cD x) (cD c) with | some c'=>M.ret (Out.nx (List.set (sb (brd bd) (cD a) w s.ks s.ps r (some (.ow (.lst (s.fu.map cD)))) (fz (cD c)) (fz (cD x))) 3 (some (.ow c')))) | none=>M.stuck)=_
   rw[qu hx (by rw[List.length_map,←h.len,ei];omega)]
   rw[show s.ps.map oG++[cD c]=(s.ps++[some c]).map oG by simp[oG]]
   rfl
  ·show (if (s.fu.map cD).length<lim then M.ret (Out.nx (sb (brd bd) (cD a) w (s.ks++[x]) (s.ps++[some c]) r (some (.ow (.lst (s.fu.map cD++[cD x])))) (fz (cD c)) (fz (cD x)))) else M.stuck)=_
   have:=h.fu
   rw[if_pos (by rw[List.length_map,ei];omega)]
   rw[show s.fu.map cD++[cD x]=(s.fu++[x]).map cD by simp]
def BK:DS:=c9 [6,7] (e9 (putN 7) (fq (ah 3 aK (aC (dV 0) (aC (dV 6) (aC (dV 2) aN))))) BL)
theorem tV{bd:List Str}{W w:Nat}(hg:Brd bd W)(hw:Ways w){a c:Cell}(hc:On bd.length W c){r:Option Sl}{s:Bk Cell}(h:Bok bd.length W s):
 Bok bd.length W (jw (aF bd W w) s c)∧BK (sb (brd bd) (cD a) (.int (w:Int)) s.ks s.ps r (some (.ow (.lst (s.fu.map cD)))) (fz (cD c)) none)=
  M.ret (.nx (sb (brd bd) (cD a) (.int (w:Int)) (jw (aF bd W w) s c).ks (jw (aF bd W w) s c).ps r (some (.ow (.lst ((jw (aF bd W w) s c).fu.map cD)))) none none)):=by
 obtain⟨h1,e⟩:=i8 (put:=putN 7) (body:=BL) cD (fun s:Bk Cell=>sb (brd bd) (cD a) (.int (w:Int)) s.ks s.ps r (some (.ow (.lst (s.fu.map cD)))) (fz (cD c)) none) (cX c) (Bok bd.length W) (aF bd W w c) s h fun s hs x hx=>
  ⟨hs.step ((dm hw).mp hx).1,_,rfl,za hg hs⟩
 refine⟨h1,(cI (lL ?_ e)).trans rfl⟩
 show (ah 3 aK (aC (dV 0) (aC (dV 6) (aC (dV 2) aN))) (sb (brd bd) (cD a) (.int (w:Int)) s.ks s.ps r (some (.ow (.lst (s.fu.map cD)))) (fz (cD c)) none)>>=lstM)=_
 have e2:ah 3 aK (aC (dV 0) (aC (dV 6) (aC (dV 2) aN))) (sb (brd bd) (cD a) (.int (w:Int)) s.ks s.ps r (some (.ow (.lst (s.fu.map cD)))) (fz (cD c)) none)=M.ret (.lst ((aF bd W w c).map cD)):=fH hg hw hc
 rw[e2]
 rfl
def DM:DS:=c9 [5,6,7] (aA (y9 5) (aA (e9 (putN 6) (fq (dV 4)) BK) (y8 5 (bp 4 (dV 5)))))
theorem y_{bd:List Str}{W w:Nat}(hg:Brd bd W)(hw:Ways w){a:Cell}{ring:List Cell}(hr:∀c∈ring,On bd.length W c){s:Bk Cell}(h:Bok bd.length W s)(hf:s.fu=[]):
 Bok bd.length W (bO (aF bd W w) s ring)∧DM (sb (brd bd) (cD a) (.int (w:Int)) s.ks s.ps (fz (.lst (ring.map cD))) none none none)=
  M.ret (.nx (sb (brd bd) (cD a) (.int (w:Int)) (bO (aF bd W w) s ring).ks (bO (aF bd W w) s ring).ps (fz (.lst ((bO (aF bd W w) s ring).fu.map cD))) none none none)):=by
 obtain⟨h1,e⟩:=i8 (put:=putN 6) (body:=BK) cD (fun s:Bk Cell=>sb (brd bd) (cD a) (.int (w:Int)) s.ks s.ps (fz (.lst (ring.map cD))) (some (.ow (.lst (s.fu.map cD)))) none none) (jw (aF bd W w)) (Bok bd.length W) ring s h fun s hs c hc=>
  ⟨(tV (a:=a) (r:=fz (.lst (ring.map cD))) hg hw (hr c hc) hs).1,_,rfl,(tV hg hw (hr c hc) hs).2⟩
 refine⟨h1,(cI (ρ':=sb (brd bd) (cD a) (.int (w:Int)) (bO (aF bd W w) s ring).ks (bO (aF bd W w) s ring).ps (fz (.lst ((bO (aF bd W w) s ring).fu.map cD))) (fz (.lst ((bO (aF bd W w) s ring).fu.map cD))) none none) ?_).trans rfl⟩
 refine ao (ρ':=sb (brd bd) (cD a) (.int (w:Int)) s.ks s.ps (fz (.lst (ring.map cD))) (some (.ow (.lst []))) none none) rfl (ao (ρ':=sb (brd bd) (cD a) (.int (w:Int)) (bO (aF bd W w) s ring).ks (bO (aF bd W w) s ring).ps (fz (.lst (ring.map cD))) (some (.ow (.lst ((bO (aF bd W w) s ring).fu.map cD)))) none none) ?_ rfl)
 rw[hf] at e
 exact lL rfl e
theorem qE{bd:List Str}{W w:Nat}(hg:Brd bd W)(hw:Ways w){a:Cell}(ha:On bd.length W a):∀(fuel k:Nat) (ks:List Cell) (ps:List (Option Cell)) (ring:List Cell),bd.length*W+2≤fuel+k→Rng (aF bd W w) a k ks ps ring→(∀x∈ks,On bd.length W x)→
 ∃k' yi Em,Rng (aF bd W w) a k' yi Em []∧(∀x∈yi,On bd.length W x)∧cS (aR (dV 4)) DM fuel (sb (brd bd) (cD a) (.int (w:Int)) ks ps (fz (.lst (ring.map cD))) none none none)=M.ret (.nx (sb (brd bd) (cD a) (.int (w:Int)) yi Em (fz (.lst [])) none none none))
 |0,k,ks,ps,ring,hf,hR,qZ=>by
  have h1:ks.length≤bd.length*W:=by
   rw[←gP bd.length W]
   exact iw hR.nd fun x hx=>eV.mpr (qZ x hx)
  have:=hR.sz.1
  omega
 |fuel+1,k,ks,ps,[],hf,hR,qZ=>⟨k,ks,ps,hR,qZ,qR rfl⟩
 |fuel+1,k,ks,ps,c::ring,hf,hR,qZ=>by
  have l7:c::ring≠[]:=by simp
  have hN:=hR.next l7
  have Iq:∀x∈c::ring,On bd.length W x:=fun x hx=>qZ x ((hR.mem x).mpr ((hR.rg x).mp hx).1)
  obtain⟨hb,e⟩:=y_ (a:=a) hg hw Iq (s:=⟨ks,ps,[]⟩) ⟨hR.len,hR.nd,qZ,Nat.zero_le _⟩ rfl
  obtain⟨k',yi,Em,q1,q2,q3⟩:=qE hg hw ha fuel (k+1) _ _ _ (by omega) hN hb.on
  exact⟨k',yi,Em,q1,q2,qS rfl e q3⟩
theorem dN{bd:List Str}{W w:Nat}(hg:Brd bd W)(hw:Ways w){a:Cell}(ha:On bd.length W a):
 ∃k ks ps,Rng (aF bd W w) a k ks ps []∧(∀x∈ks,On bd.length W x)∧aL [brd bd,cD a, .int (w:Int)]=M.ret (cY ks ps):=by
 have hm:bd.length*W≤64:=Nat.mul_le_mul hg.r8 hg.w8
 obtain⟨k,ks,ps,h1,h2,h3⟩:=qE hg hw ha lim 0 [a] [none] [a] (by rw[ei];omega) (Rng.zero _ _) (fun x hx=>(show x=a by simpa using hx)▸ha)
 refine⟨k,ks,ps,h1,h2,a7 (ao (ρ':=[fz (brd bd),fz (cD a),fz (.int (w:Int)),some (.ow (vp [a] [none])),none,none,none,none]) rfl (ao (ρ':=sb (brd bd) (cD a) (.int (w:Int)) [a] [none] (fz (.lst [cD a])) none none none) rfl (ao (ρ':=sb (brd bd) (cD a) (.int (w:Int)) ks ps (fz (.lst [])) none none none) (gc h3) rfl)))⟩
def vg{α:Type}[DecidableEq α](n:Nat)(enc:α→D):Prop:=∀k x y,iV (n+k) (enc x) (enc y)=some (decide (x=y))
theorem sU(n:Nat)(i j:Int):iV n (.int i) (.int j)=some (i==j):=by cases n<;>rfl
theorem xO{α:Type}[DecidableEq α]{enc:α→D}{f:D→D→Option Bool}(h:∀x y,f (enc x) (enc y)=some (decide (x=y))):∀(xs ys:List α),kz f (xs.map enc) (ys.map enc)=some (decide (xs=ys))
 |[],[]=>rfl
 |[],_::_=>by simp[kz]
 |_::_,[]=>by simp[kz]
 |x::xs,y::ys=>by
  rw[List.map_cons,List.map_cons]
  show (match f (enc x) (enc y),kz f (xs.map enc) (ys.map enc) with | some b,some r=>some (b&&r) | _,_=>none)=_
  rw[h,xO h xs ys]
  show some (decide (x=y)&&decide (xs=ys))=_
  congr 1
  by_cases h1:x=y<;>by_cases h2:xs=ys<;>simp[h1,h2]
theorem Ai:vg 1 cD:=fun k a b=>by
 rw[Nat.add_comm]
 show (match iV k (.int (a.1:Int)) (.int (b.1:Int)),kz (iV k) [.int (a.2:Int)] [.int (b.2:Int)] with | some b,some r=>some (b&&r) | _,_=>none)=_
 rw[sU]
 show (match some ((a.1:Int)==(b.1:Int)),(match iV k (.int (a.2:Int)) (.int (b.2:Int)),kz (iV k) [] [] with | some b,some r=>some (b&&r) | _,_=>none) with | some b,some r=>some (b&&r) | _,_=>none)=_
 rw[sU]
 show some (((a.1:Int)==(b.1:Int))&&(((a.2:Int)==(b.2:Int))&&true))=_
 rw[gx,gx,Bool.and_true]
 congr 1
 obtain⟨a1,a2⟩:=a
 obtain⟨b1,b2⟩:=b
 by_cases h1:a1=b1<;>by_cases h2:a2=b2<;>simp[h1,h2]
theorem EF{α:Type}[DecidableEq α]{enc:α→D}{n:Nat}(h:vg n enc)(hn:n≤6)(x y:α):gi (enc x) (enc y)=M.ret (.bl (decide (x=y))):=by
 have:=h (6 - n) x y
 rw[show n+(6 - n)=6 by omega] at this
 unfold gi
 rw[this]
theorem Aj{α:Type}[DecidableEq α]{enc:α→D}{n:Nat}(h:vg n enc)(hn:n≤6)(x y:α):g9 (enc x) (enc y)=M.ret (.bl (!decide (x=y))):=by
 have:=h (6 - n) x y
 rw[show n+(6 - n)=6 by omega] at this
 unfold g9
 rw[this]
abbrev cL(l:List Cell):D:= .lst (l.map cD)
theorem nj(a b:Cell):g9 (cD a) (cD b)=M.ret (.bl (!decide (a=b))):=Aj Ai (by decide) a b
def ic(c:Cell):List Int:=[(c.1:Int),(c.2:Int)]
def B2(a b:Cell):Bool:=if a.1=b.1 then decide (a.2<b.2) else decide (a.1<b.1)
def ya(k:Cell):List Cell→List Cell
 |[]=>[k]
 |x::r=>if B2 k x then k::x::r else x::ya k r
def lQ:List Cell→List Cell
 |[]=>[]
 |k::r=>ya k (lQ r)
theorem rK(a b:Cell):cO (ic a) (ic b)=B2 a b:=by
 show (if (a.1:Int)=(b.1:Int) then(if (a.2:Int)=(b.2:Int) then false else decide ((a.2:Int)<(b.2:Int))) else decide ((a.1:Int)<(b.1:Int)))=_
 unfold B2
 by_cases h:a.1=b.1
 ·rw[if_pos h,if_pos (by omega)]
  by_cases h2:a.2=b.2
  ·rw[if_pos (by omega),h2];simp
  ·rw[if_neg (by omega)]
   by_cases h3:a.2<b.2
   ·rw[decide_eq_true h3,decide_eq_true (by omega)]
   ·rw[decide_eq_false h3,decide_eq_false (by omega)]
 ·rw[if_neg h,if_neg (by omega)]
  by_cases h3:a.1<b.1
  ·rw[decide_eq_true h3,decide_eq_true (by omega)]
  ·rw[decide_eq_false h3,decide_eq_false (by omega)]
theorem v8(k:Cell):∀l:List Cell,insI (ic k) (l.map ic)=(ya k l).map ic
 |[]=>rfl
 |x::r=>by
  rw[List.map_cons]
  unfold insI ya
  rw[rK]
  cases B2 k x with
  |true=>rfl
  |false=>rw[if_neg (by decide),if_neg (by decide),List.map_cons,v8 k r]
theorem ke:∀l:List Cell,sortI (l.map ic)=(lQ l).map ic
 |[]=>rfl
 |k::r=>by
  rw[List.map_cons]
  unfold sortI lQ
  rw[ke r,v8]
theorem rC{a b:Cell}(h:ic a=ic b):a=b:=by
 unfold ic at h
 injection h with h1 h2
 injection h2 with h2 _
 exact Prod.ext (Int.ofNat.inj h1) (Int.ofNat.inj h2)
theorem uI{x:Cell}{l:List Cell}:x∈lQ l↔x∈l:=by
 have h:=eG (x:=ic x) (l:=l.map ic)
 rw[ke] at h
 constructor
 ·intro hx
  obtain⟨y,hy,e⟩:=List.mem_map.mp (h.mp (List.mem_map.mpr ⟨x,hx,rfl⟩))
  rw[←rC e];exact hy
 ·intro hx
  obtain⟨y,hy,e⟩:=List.mem_map.mp (h.mpr (List.mem_map.mpr ⟨x,hx,rfl⟩))
  rw[←rC e];exact hy
def RiseC(l:List Cell):Prop:=l.Pairwise fun a b=>B2 a b=true
theorem yZ{l:List Cell}:q_ (l.map ic)↔RiseC l:=by
 unfold q_ RiseC
 rw[List.pairwise_map]
 constructor<;>intro h<;>refine List.Pairwise.imp ?_ h<;>intro a b q
 ·rw[←rK];exact q
 ·rw[rK];exact q
theorem p_{l:List Cell}(h:l.Nodup):(l.map ic).Nodup:=by
 unfold List.Nodup at h⊢
 rw[List.pairwise_map]
 exact List.Pairwise.imp (fun h z=>h (rC z)) h
theorem sq{l:List Cell}(h:l.Nodup):RiseC (lQ l):=by
 have:=g7 (p_ h)
 rw[ke] at this
 exact yZ.mp this
theorem RiseC.nodup{l:List Cell}(h:RiseC l):l.Nodup:=by
 refine List.Pairwise.imp ?_ h
 intro a b q z
 subst z
 unfold B2 at q
 rw[if_pos rfl] at q
 have:=of_decide_eq_true q
 omega
theorem mT:∀ks:List Cell,gM (ks.map keyOf)=some (ks.map ic)
 |[]=>rfl
 |k::r=>by
  show (match mQ (keyOf k),gM (r.map keyOf) with | some x,some xs=>some (x::xs) | _,_=>none)=_
  rw[mT r]
  rfl
theorem Di{ks:List Cell}(h:ks.Nodup)(hl:ks.length<64):fL (ks.map ic)=true:=by
 unfold fL
 rw[List.length_map,decide_eq_true (p_ h),decide_eq_true hl]
 simp
 intro a b _ z
 cases z
theorem xk{ks:List Cell}{ds:List D}(h:ks.Nodup)(hl:ks.length<64):jU [.dct (ks.map keyOf) ds]=M.ret (cL (lQ ks)):=by
 show (match gM (ks.map keyOf) with | some ks=>if fL ks&&ks.all (fun k=>decide (k.length≤lim)) then M.ret (D.lst ((sortI ks).map tupI)) else M.stuck | none=>M.stuck)=_
 rw[mT]
 show (if fL (ks.map ic)&&(ks.map ic).all (fun k=>decide (k.length≤lim)) then M.ret (D.lst ((sortI (ks.map ic)).map tupI)) else M.stuck)=_
 rw[Di h hl]
 have:(ks.map ic).all (fun k=>decide (k.length≤lim))=true:=by
  simp
  intro a b _
  show 2≤lim
  decide
 rw[this,Bool.and_true,if_pos rfl,ke,List.map_map]
 rfl
def Cn(bd:List Str)(W w:Nat)(a b:Cell):Prop:=∃j,Rb (aF bd W w) a j b
theorem Cn.refl{bd:List Str}{W w:Nat}{a:Cell}:Cn bd W w a a:=⟨0,rfl⟩
theorem rL{bd:List Str}{W w:Nat}(hw:Ways w){a b:Cell}(ha:On bd.length W a)(h:b∈aF bd W w a):a∈aF bd W w b:=by
 obtain⟨h1,h2,h3⟩:=(dm hw).mp h
 exact(dm hw).mpr ⟨ha,by rw[iy];exact h2,h3.symm⟩
theorem wZ{bd:List Str}{W w:Nat}(hw:Ways w){a b:Cell}(ha:On bd.length W a):∀{j:Nat},Rb (aF bd W w) a j b→On bd.length W b
 |0,h=>by rw[show b=a from h];exact ha
 |j+1, .inl h=>wZ hw ha h
 |j+1, .inr ⟨y,_,hy⟩=>((dm hw).mp hy).1
theorem lF{bd:List Str}{W w:Nat}{a c b:Cell}(h:c∈aF bd W w a):∀{j:Nat},Rb (aF bd W w) c j b→Rb (aF bd W w) a (j+1) b
 |0,q=> .inr ⟨a,rfl,by rw[show b=c from q];exact h⟩
 |j+1, .inl q=> .inl (lF h q)
 |j+1, .inr ⟨y,q,hy⟩=> .inr ⟨y,lF h q,hy⟩
theorem oM{bd:List Str}{W w:Nat}(hw:Ways w){a b:Cell}(ha:On bd.length W a):∀{j:Nat},Rb (aF bd W w) a j b→Rb (aF bd W w) b j a
 |0,h=>show a=b from(show b=a from h).symm
 |j+1, .inl h=> .inl (oM hw ha h)
 |j+1, .inr ⟨y,q,hy⟩=>lF (rL hw (wZ hw ha q) hy) (oM hw ha q)
theorem lG{bd:List Str}{W w:Nat}{a b c:Cell}{i:Nat}(h:Rb (aF bd W w) a i b):∀{j:Nat},Rb (aF bd W w) b j c→Rb (aF bd W w) a (i+j) c
 |0,q=>by rw[show c=b from q];exact h
 |j+1, .inl q=> .inl (lG h q)
 |j+1, .inr ⟨y,q,hy⟩=> .inr ⟨y,lG h q,hy⟩
section
variable{bd:List Str}{W w:Nat}{a b c:Cell}
theorem Cn.on(hw:Ways w)(ha:On bd.length W a)(h:Cn bd W w a b):On bd.length W b:=let ⟨_,q⟩:=h;wZ hw ha q
theorem Cn.symm(hw:Ways w)(ha:On bd.length W a)(h:Cn bd W w a b):Cn bd W w b a:=let ⟨j,q⟩:=h;⟨j,oM hw ha q⟩
theorem Cn.trans(h:Cn bd W w a b)(h2:Cn bd W w b c):Cn bd W w a c:=let ⟨i,q⟩:=h;let ⟨j,r⟩:=h2;⟨i+j,lG q r⟩
theorem Cn.step(h:Cn bd W w a b)(h2:c∈aF bd W w b):Cn bd W w a c:=let ⟨j,q⟩:=h;⟨j+1, .inr ⟨b,q,h2⟩⟩
end
structure IsPatch (bd:List Str) (W w:Nat) (a:Cell) (P:List Cell):Prop where
 rise:RiseC P
 mem:∀x,x∈P↔Cn bd W w a x
theorem j4{bd:List Str}{W:Nat}{ks:List Cell}(hn:ks.Nodup)(qZ:∀x∈ks,On bd.length W x):ks.length≤bd.length*W:=by
 rw[←gP bd.length W]
 exact iw hn fun x hx=>eV.mpr (qZ x hx)
theorem xl{bd:List Str}{W w:Nat}(hg:Brd bd W)(hs:bd.length*W<64)(hw:Ways w)(ha:On bd.length W a):∃P,IsPatch bd W w a P∧(aL [brd bd,cD a, .int (w:Int)]>>=fun d=>jU [d])=M.ret (cL P):=by
 obtain⟨k,ks,ps,h1,h2,h3⟩:=dN hg hw ha
 refine⟨lQ ks,⟨sq h1.nd,fun x=>uI.trans (h1.last x)⟩,?_⟩
 rw[h3,ar]
 exact xk h1.nd (Nat.lt_of_le_of_lt (j4 h1.nd h2) hs)
theorem iH{bd:List Str}{W w:Nat}(hg:Brd bd W)(hs:bd.length*W<64)(hw:Ways w){a:Cell}(ha:On bd.length W a):∃P,IsPatch bd W w a P∧bU [brd bd,cD a, .int (w:Int)]=M.ret (cL P):=by
 obtain⟨P,h1,h2⟩:=xl hg hs hw ha
 refine⟨P,h1,a7 (ao (bX ((ak (ds:=[brd bd]) rfl rfl).trans hg.nb)) (ao (bX ((ak (ds:=[brd bd,cD a]) rfl rfl).trans (hg.nc ha))) (ao (bX ((ak (ds:=[.int (w:Int)]) rfl rfl).trans hw.nw)) (az ?_))))⟩
 have e:(dA jU (aC (ah 3 aL (aC (dV 0) (aC (dV 1) (aC (dV 2) aN)))) aN)) [fz (brd bd),fz (cD a),fz (.int (w:Int))]=(aL [brd bd,cD a, .int (w:Int)]>>=fun d=>jU [d]):=by
  show ((aL [brd bd,cD a, .int (w:Int)]>>=fun x=>M.ret [x])>>=jU)=_
  match aL [brd bd,cD a, .int (w:Int)] with
  |none=>rfl
  |some (.ok a)=>rfl
  |some (.ex n)=>rfl
 exact e.trans h2
theorem gg{bd:List Str}{W w:Nat}(hg:Brd bd W)(hw:Ways w){a b:Cell}(ha:On bd.length W a)(hb:On bd.length W b):aI [brd bd, .int (w:Int),cD a,cD b]=M.ret .non:=
 oQ (ρ:=[fz (brd bd),fz (.int (w:Int)),fz (cD a),fz (cD b)]) (ao (bX ((ak (ds:=[brd bd]) rfl rfl).trans hg.nb)) (ao (bX ((ak (ds:=[.int (w:Int)]) rfl rfl).trans hw.nw)) (ao (bX ((ak (ds:=[brd bd,cD a]) rfl rfl).trans (hg.nc ha))) (bX ((ak (ds:=[brd bd,cD b]) rfl rfl).trans (hg.nc hb))))))
theorem pf{bd:List Str}{W w:Nat}(hg:Brd bd W)(hw:Ways w){a b:Cell}(ha:On bd.length W a)(hb:On bd.length W b):∃r:Bool,(r=true↔Cn bd W w a b)∧di [brd bd, .int (w:Int),cD a,cD b]=M.ret (.bl r):=by
 obtain⟨k,ks,ps,h1,h2,h3⟩:=dN hg hw ha
 refine⟨decide (b∈ks),by rw[decide_eq_true_eq];exact h1.last b,a7 (ao (bX ((ak (ds:=[brd bd, .int (w:Int),cD a,cD b]) rfl rfl).trans (gg hg hw ha hb))) (az ?_))⟩
 exact(aB (x:=cD b) (y:=cY ks ps) rfl ((ak (ds:=[brd bd,cD a, .int (w:Int)]) rfl rfl).trans h3)).trans (f_ (neg:=false) (by rw[List.length_map];exact h1.len))
theorem CH:((i4 8 8).map fun c=>mN (ic c)).Nodup:=by decide+kernel
theorem nk{α β:Type}{f:α→β}:∀{l:List α},(l.map f).Nodup→∀a∈l,∀b∈l,f a=f b→a=b
 |x::l,h,a,ha,b,hb,e=>by
  rw[List.map_cons,List.nodup_cons] at h
  by_cases h1:a=x
  ·by_cases h2:b=x
   ·rw[h1,h2]
   ·have hb:b∈l:=(List.mem_cons.mp hb).resolve_left h2
    exact absurd (List.mem_map.mpr ⟨b,hb,by rw[←h1];exact e.symm⟩) h.1
  ·have ha:a∈l:=(List.mem_cons.mp ha).resolve_left h1
   by_cases h2:b=x
   ·exact absurd (List.mem_map.mpr ⟨a,ha,by rw[←h2];exact e⟩) h.1
   ·exact nk h.2 a ha b ((List.mem_cons.mp hb).resolve_left h2) e
theorem xU{R W:Nat}(hR:R≤8)(hW:W≤8){l:List Cell}(hn:l.Nodup)(qZ:∀x∈l,On R W x):(l.map fun c=>mN (ic c)).Nodup:=by
 have h8:∀x∈l,x∈i4 8 8:=fun x hx=>eV.mpr ⟨by have:=(qZ x hx).1;omega,by have:=(qZ x hx).2;omega⟩
 rw[List.Nodup,List.pairwise_map]
 refine List.Pairwise.imp_of_mem (fun {a b} ha hb h z=>h ?_) hn
 exact nk CH a (h8 a ha) b (h8 b hb) z
theorem pX:∀l:List Cell,gN (l.map cD)=some (l.map ic)
 |[]=>rfl
 |c::l=>by
  show (match zL (cD c),gN (l.map cD) with | some k,some ks=>some (k::ks) | _,_=>none)=_
  rw[pX l]
  rfl
def cM(w:Nat):List Cell→Bool
 |a::b::r=>ix w a b&&cM w (b::r)
 |_=>true
structure IsWay (bd:List Str) (W w:Nat) (a b:Cell) (p:List Cell):Prop where
 on:∀x∈p,On bd.length W x
 hd:p.head? =some a
 lst:p.getLast? =some b
 let':∀x∈p,lt bd x=lt bd a
 adj:cM w p=true
def sD(bd:List Str)(w:Nat)(a b:Cell)(p:List Cell):Bool:=(decide (p.head? =some a)&&decide (p.getLast? =some b))&&(p.all (fun x=>decide (lt bd x=lt bd a))&&cM w p)
theorem qQ{bd:List Str}{W w:Nat}{a b:Cell}{p:List Cell}(qZ:∀x∈p,On bd.length W x):sD bd w a b p=true↔IsWay bd W w a b p:=by
 unfold sD
 simp only[Bool.and_eq_true,decide_eq_true_eq,List.all_eq_true]
 exact⟨fun ⟨⟨h1,h2⟩,h3,h4⟩=>⟨qZ,h1,h2,h3,h4⟩,fun h=>⟨⟨h.hd,h.lst⟩,h.let',h.adj⟩⟩
theorem pj{α:Type}{l:List α}{x:α}:L2.atI (l++[x]) (-1)=some x:=by
 unfold L2.atI xF
 rw[if_neg (by decide)]
 have: -((l++[x]).length:Int)≤ -1:=by simp;omega
 rw[if_pos this]
 have e:((-1:Int)+((l++[x]).length:Int)).toNat=l.length:=by simp;omega
 show (l++[x])[((-1:Int)+((l++[x]).length:Int)).toNat]? =some x
 rw[e]
 simp
theorem ie{l:List Cell}{x:Cell}:ck (cL (l++[x])) (.int (-1))=M.ret (cD x):=by
 show (match L2.atI ((l++[x]).map cD) (-1) with | some d=>M.ret d | none=>M.stuck)=_
 rw[List.map_append,show [x].map cD=[cD x] from rfl,pj]
theorem rG{l:List Cell}{i:Nat}{x:Cell}(h:l[i]? =some x):ck (cL l) (.int (i:Int))=M.ret (cD x):=by
 show (match L2.atI (l.map cD) (i:Int) with | some d=>M.ret d | none=>M.stuck)=_
 rw[eg (x:=cD x) (by rw[List.getElem?_map,h];rfl)]
structure Trail (nb:Cell→List Cell) (b:Cell) (p:List Cell) (x:Cell):Prop where
 hd:p.head? =some x
 lst:p.getLast? =some b
 ch:∀l r u v,p=l++u::v::r→u∈nb v
abbrev wr(bd w a b k t:D):aW:=[fz bd,fz w,fz a,fz b,fz k,fz t]
theorem su{bd:List Str}{W:Nat}{w:D}{nb:Cell→List Cell}{a b:Cell}{k0:Nat}{ks:List Cell}{ps:List (Option Cell)}(h:Rng nb b k0 ks ps []):∀(j fuel:Nat) (x:Cell) (acc:List Cell),Rb nb b j x→j<fuel→acc.length+j+1<lim→
 ∃p,Trail nb b p x∧p.length≤j+1∧cS (z8 (bN (d2 g9 (d2 ck (dV 5) (d1 ft (dC (.int 1)))) (dV 3)))) (lK 5 (Ah (d2 rz (dV 4) (d2 ck (dV 5) (d1 ft (dC (.int 1))))))) fuel [fz (brd bd),fz w,fz (cD a),fz (cD b),fz (cY ks ps),some (.ow (.lst ((acc++[x]).map cD)))]=
  M.ret (.nx [fz (brd bd),fz w,fz (cD a),fz (cD b),fz (cY ks ps),some (.ow (.lst ((acc++p).map cD)))]):=by
 intro j
 induction j with
 |zero=>
  intro fuel x acc hx hf hl
  obtain⟨f,rfl⟩:∃f,fuel=f+1:=⟨fuel - 1,by omega⟩
  have hx:x=b:=hx
  subst hx
  refine⟨[x],⟨rfl,rfl,fun l r u v e=>?_⟩,by simp,qR (xn (dQ ((aB (x:=cD x) (y:=cD x) ((aB (x:=cL (acc++[x])) (y:= .int (-1)) rfl rfl).trans ie) rfl).trans ((nj x x).trans (by simp)))))⟩
  have:=congrArg List.length e
  simp at this
  omega
 |succ j ih=>
  intro fuel x acc hx hf hl
  obtain⟨f,rfl⟩:∃f,fuel=f+1:=⟨fuel - 1,by omega⟩
  by_cases Fo:x=b
  ·subst Fo
   obtain⟨p,h1,h2,h3⟩:=ih (f+1) x acc (Rb.mono (Nat.zero_le _) rfl) (by omega) (by omega)
   exact⟨p,h1,by omega,h3⟩
  ·have hk:x∈ks:=(h.last x).mpr ⟨_,hx⟩
   obtain⟨d,e1,e2⟩:=gh (ds:=ps.map oG) (by rw[List.length_map];exact h.len) hk
   obtain⟨o,ho,rfl⟩:∃o,(x,o)∈ks.zip ps∧d=oG o:=by
    rw[List.zip_map_right] at e2
    obtain⟨⟨y,o⟩,hy,e⟩:=List.mem_map.mp e2
    cases e
    exact⟨o,hy,rfl⟩
   cases o with
   |none=>exact absurd (h.non x ho) Fo
   |some q=>
    obtain⟨q1,q2,q3⟩:=h.par x q ho
    obtain⟨i,hi,hq⟩:=q3 _ hx
    have hi:j=i:=by omega
    subst hi
    obtain⟨p,h1,h2,h3⟩:=ih f q (acc++[x]) hq (by omega) (by simp;omega)
    refine⟨x::p,⟨rfl,?_,fun l r u v e=>?_⟩,by simp;omega,qS (ρ':=[fz (brd bd),fz w,fz (cD a),fz (cD b),fz (cY ks ps),some (.ow (.lst ((acc++[x]++[q]).map cD)))]) (xn (dQ ((aB (x:=cD x) (y:=cD b) ((aB (x:=cL (acc++[x])) (y:= .int (-1)) rfl rfl).trans ie) rfl).trans ((nj x b).trans (by rw[decide_eq_false Fo];rfl))))) ?_ (by rw[h3];simp)⟩
    ·have:=h1.lst
     rw[List.getLast?_cons]
     rw[this];rfl
    ·cases l with
     |nil=>
      injection e with e1 e2
      subst e1
      have:=h1.hd
      rw[e2] at this
      cases this
      exact q1
     |cons y l=>
      injection e with _ e2
      exact h1.ch l r u v e2
    ·have ev:Ah (d2 rz (dV 4) (d2 ck (dV 5) (d1 ft (dC (.int 1))))) [fz (brd bd),fz w,fz (cD a),fz (cD b),fz (cY ks ps),some (.ow (.lst ((acc++[x]).map cD)))]=M.ret (cD q):=by
      refine Cs ((aB (x:=cY ks ps) (y:=cD x) rfl ((aB (x:=cL (acc++[x])) (y:= .int (-1)) rfl rfl).trans ie)).trans ?_) (xR q)
      show (match (df (cD x)).map (eI (ks.map keyOf) (ps.map oG)) with | some (some v)=>M.ret v | _=>M.stuck)=_
      rw[ig]
      show (match some (eI (ks.map keyOf) (ps.map oG) (keyOf x)) with | some (some v)=>M.ret v | _=>M.stuck)=_
      rw[e1]
      rfl
     show (Ah (d2 rz (dV 4) (d2 ck (dV 5) (d1 ft (dC (.int 1))))) [fz (brd bd),fz w,fz (cD a),fz (cD b),fz (cY ks ps),some (.ow (.lst ((acc++[x]).map cD)))]>>=fun d=>if ((acc++[x]).map cD).length<lim then M.ret (Out.nx [fz (brd bd),fz w,fz (cD a),fz (cD b),fz (cY ks ps),some (.ow (.lst ((acc++[x]).map cD++[d])))]) else M.stuck)=_
     rw[ev,ar,if_pos (by rw[List.length_map];simp;omega)]
     rw[show (acc++[x]).map cD++[cD q]=(acc++[x]++[q]).map cD by simp]
theorem nR{bd:List Str}{W w:Nat}(hw:Ways w){b:Cell}(hb:On bd.length W b):∀{p:List Cell}{x:Cell},Trail (aF bd W w) b p x→IsWay bd W w x b p
 |[],x,h=>by have:=h.hd;cases this
 |[y],x,h=>by
  have h1:y=x:=Option.some.inj h.hd
  have h2:y=b:=Option.some.inj h.lst
  subst h1
  subst h2
  exact⟨fun z hz=>(show z=y by simpa using hz)▸hb,rfl,rfl,fun z hz=>by rw[show z=y by simpa using hz],rfl⟩
 |y::z::r,x,h=>by
  have h1:y=x:=Option.some.inj h.hd
  subst h1
  have hz:Trail (aF bd W w) b (z::r) z:=⟨rfl,by have:=h.lst;rw[List.getLast?_cons_cons] at this;exact this,fun l r' u v e=>h.ch (y::l) r' u v (by rw[e];rfl)⟩
  have ih:=nR hw hb hz
  have hx:=h.ch [] r y z rfl
  obtain⟨x1,x2,x3⟩:=(dm hw).mp hx
  refine⟨fun u hu=>?_,rfl,h.lst,fun u hu=>?_,?_⟩
  ·rcases List.mem_cons.mp hu with q | q
   ·rw[q];exact x1
   ·exact ih.on u q
  ·rcases List.mem_cons.mp hu with q | q
   ·rw[q]
   ·exact(ih.let' u q).trans x3.symm
  ·unfold cM
   rw[iy,x2,ih.adj]
   rfl
theorem sE{bd:List Str}{W w:Nat}(hw:Ways w){a b:Cell}:∀{p:List Cell},IsWay bd W w a b p→Rb (aF bd W w) b (p.length - 1) a
 |[],h=>by have:=h.hd;cases this
 |[y],h=>by
  have h1:y=a:=Option.some.inj h.hd
  have h2:y=b:=Option.some.inj h.lst
  exact h1.symm.trans h2
 |y::z::r,h=>by
  have h1:y=a:=Option.some.inj h.hd
  subst h1
  have ha:=h.adj
  unfold cM at ha
  rw[Bool.and_eq_true] at ha
  have hz:IsWay bd W w z b (z::r):=⟨fun u hu=>h.on u (List.mem_cons_of_mem _ hu),rfl,by have:=h.lst;rw[List.getLast?_cons_cons] at this;exact this,
   fun u hu=>(h.let' u (List.mem_cons_of_mem _ hu)).trans (h.let' z (by simp)).symm,ha.2⟩
  have ih:=sE hw hz
  refine .inr ⟨z,ih,(dm hw).mpr ⟨h.on _ (List.mem_cons_self ..),by rw[iy];exact ha.1,(h.let' z (by simp)).symm⟩⟩
theorem tY{bd:List Str}{W w:Nat}(hg:Brd bd W)(hw:Ways w){a b:Cell}(ha:On bd.length W a)(hb:On bd.length W b):
 (∃p,IsWay bd W w a b p∧(∀q,IsWay bd W w a b q→p.length≤q.length)∧p.length≤64∧fB [brd bd, .int (w:Int),cD a,cD b]=M.ret (cL p))∨
 (¬Cn bd W w a b∧fB [brd bd, .int (w:Int),cD a,cD b]=M.ret .non):=by
 have hm:bd.length*W≤64:=Nat.mul_le_mul hg.r8 hg.w8
 obtain⟨k,ks,ps,h1,h2,h3⟩:=dN hg hw hb
 have CT:=j4 h1.nd h2
 have st:∀{o:M Out},aA (cK (bN (d2 (d8 true) (dV 2) (dV 4))) (aO (dC .non)) ba) (aA (qD 5 (fun ρ=>(aC (dV 2) aN) ρ>>=Ej)) (aA (fun ρ=>noex ((oR (z8 (bN (d2 g9 (d2 ck (dV 5) (d1 ft (dC (.int 1)))) (dV 3)))) (lK 5 (Ah (d2 rz (dV 4) (d2 ck (dV 5) (d1 ft (dC (.int 1)))))))) ρ)) (y8 5 (aO (dV 5))))) [fz (brd bd),fz (.int (w:Int)),fz (cD a),fz (cD b),fz (cY ks ps),none]=o→
  z9 [fz (brd bd),fz (.int (w:Int)),fz (cD a),fz (cD b),none,none]=o:=fun {o} h=>
  ao (bX ((ak (ds:=[brd bd, .int (w:Int),cD a,cD b]) rfl rfl).trans (gg hg hw ha hb))) (ao (ρ':=[fz (brd bd),fz (.int (w:Int)),fz (cD a),fz (cD b),fz (cY ks ps),none]) ((aM (d:=cY ks ps) ((ak (ds:=[brd bd,cD b, .int (w:Int)]) rfl rfl).trans h3)).trans rfl) h)
 have ht:bN (d2 (d8 true) (dV 2) (dV 4)) [fz (brd bd),fz (.int (w:Int)),fz (cD a),fz (cD b),fz (cY ks ps),none]=M.ret (!decide (a∈ks)):=dQ ((aB (x:=cD a) (y:=cY ks ps) rfl rfl).trans (f_ (neg:=true) (by rw[List.length_map];exact h1.len)))
 by_cases CF:a∈ks
 ·rw[decide_eq_true CF] at ht
  have hex:=(h1.last a).mp CF
  have Aw:∃j,Rb (aF bd W w) b j a∧j≤k∧∀i,Rb (aF bd W w) b i a→j≤i:=by
   have Ii:=(h1.mem a).mp CF
   have:∀n,(∃j,j≤n∧Rb (aF bd W w) b j a)→∃j,Rb (aF bd W w) b j a∧j≤n∧∀i,Rb (aF bd W w) b i a→j≤i:=by
    intro n
    induction n with
    |zero=>rintro⟨j,hj,hr⟩;exact⟨j,hr,hj,fun i _=>by omega⟩
    |succ n ih=>
     rintro⟨j,hj,hr⟩
     by_cases hn:∃j,j≤n∧Rb (aF bd W w) b j a
     ·obtain⟨i,i1,i2,i3⟩:=ih hn
      exact⟨i,i1,by omega,i3⟩
     ·refine⟨j,hr,hj,fun i hi=>?_⟩
      by_cases CP:i≤n
      ·exact absurd ⟨i,CP,hi⟩ hn
      ·omega
   exact this k ⟨k,Nat.le_refl _,Ii⟩
  obtain⟨j,hj,GF,i9⟩:=Aw
  have Ih:k≤64:=Nat.le_trans h1.sz.1 (Nat.le_trans CT hm)
  obtain⟨p,p1,p2,p3⟩:=su (bd:=bd) (W:=W) (w:= .int (w:Int)) (a:=a) h1 j lim a [] hj (by rw[ei];omega) (by rw[ei];simp;omega)
  have hp:=nR hw hb p1
  have Ig:∀q,IsWay bd W w a b q→j+1≤q.length:=fun q hq=>by
   have:=i9 _ (sE hw hq)
   have:q≠[]:=fun z=>by have:=hq.hd;rw[z] at this;cases this
   have:=List.length_pos_iff.mpr this
   omega
  refine .inl ⟨p,hp,fun q hq=>by have:=Ig q hq;omega,?_,a7 (st (ao (bq ht rfl) (ao (ρ':=[fz (brd bd),fz (.int (w:Int)),fz (cD a),fz (cD b),fz (cY ks ps),some (.ow (.lst [cD a]))]) rfl (ao (ρ':=[fz (brd bd),fz (.int (w:Int)),fz (cD a),fz (cD b),fz (cY ks ps),some (.ow (.lst (p.map cD)))]) (gc p3) rfl))))⟩
  by_cases Jb:k=0
  ·omega
  ·have:j+1≤k:=by
    by_cases E3:j=k
    ·subst E3
     have:=(h1.rg a).mpr ⟨hj,i9⟩
     cases this
    ·omega
   omega
 ·rw[decide_eq_false CF] at ht
  refine .inr ⟨fun hc=>CF ((h1.last a).mpr (hc.symm hw ha)),a7 (st (br (b_ ht (az rfl))))⟩
theorem kr{α:Type}{f:D→M (Option D)}(enc:α→D)(g:α→D):∀(xs:List α),(∀x∈xs,f (enc x)=M.ret (some (g x)))→cq f (xs.map enc)=M.ret (xs.map g)
 |[],_=>rfl
 |x::xs,h=>by
  rw[List.map_cons,du,h x (List.mem_cons_self ..),ar,kr enc g xs fun y hy=>h y (List.mem_cons_of_mem _ hy)]
  rfl
theorem g_{α:Type}{δi:DA}{δe:DE}{ρ:aW}{enc:α→D}{xs:List α}{g:α→Bool}(h:δi ρ=M.ret (xs.map enc))(h2:∀x∈xs,δe (fz (enc x)::ρ)=M.ret (.bl (g x)))(h3:xs.length≤4096):dA allM (aC (bb 0 δi bP δe) aN) ρ=M.ret (.bl (xs.all g)):=by
 have cm:bb 0 δi bP δe ρ=M.ret (.lst ((xs.map g).map D.bl)):=by
  refine cN h ?_ (by rw[List.length_map,List.length_map,ei];exact h3)
  rw[List.map_map]
  exact kr enc _ xs fun x hx=>by rw[kq,h2 x hx];rfl
 rw[cj (ay cm rfl),all_map,List.all_map]
 rfl
theorem Fy{ρ:aW}{i:Nat}{ds:List D}(h:ρ[i]? =some (fz (.lst ds))):fq (dV i) ρ=M.ret ds:=by
 unfold fq
 rw[n_ h]
 rfl
theorem fI{bd:List Str}{W:Nat}(hg:Brd bd W){p:List Cell}(hp:∀x∈p,On bd.length W x)(hl:p.length≤4096):aP [brd bd,cL p]=M.ret (.bl true):=by
 refine a7 (az ((xK (p:=true) (q:=true) rfl ?_).trans rfl))
 refine(g_ (enc:=cD) (xs:=p) (g:=fun _=>true) (Fy rfl) (fun x hx=>?_) hl).trans (by rw[show p.all (fun _=>true)=true from List.all_eq_true.mpr fun _ _=>rfl])
 exact(ak (ds:=[brd bd,cD x]) rfl rfl).trans (by rw[jA hg pq,sS (hp x hx)])
theorem mw{w:Nat}:∀(p:List Cell) (c:Cell),(List.range' 1 (p.length - 1)).all (fun i=>ix w (p.getD (i - 1) c) (p.getD i c))=cM w p
 |[],_=>rfl
 |[_],_=>rfl
 |a::b::r,c=>by
  have ih:=mw (w:=w) (b::r) c
  unfold cM
  rw[←ih]
  show (List.range' 1 (r.length+1)).all _=(_&&(List.range' 1 r.length).all _)
  rw[List.range'_succ,List.all_cons]
  congr 1
  rw[show List.range' (1+1) r.length=(List.range' 1 r.length).map (1+ ·) from(List.map_add_range' (a:=1) 1 r.length 1).symm,List.all_map]
  refine Bool.eq_iff_iff.mpr ?_
  simp only[List.all_eq_true,List.mem_range'_1,Function.comp]
  constructor
  ·intro h i hi
   have:=h i hi
   rw[show 1+i - 1=(i - 1)+1 by omega,Nat.add_comm 1 i] at this
   exact this
  ·intro h i hi
   have:=h i hi
   rw[show 1+i - 1=(i - 1)+1 by omega,Nat.add_comm 1 i]
   exact this
theorem vU{p:List Cell}{x:Cell}{r:List Cell}(h:p=x::r):ck (cL p) (.int 0)=M.ret (cD x):=by
 subst h
 exact rG (i:=0) rfl
theorem kK{bd:List Str}{W w:Nat}(hg:Brd bd W)(hw:Ways w){a b:Cell}(ha:On bd.length W a)(hb:On bd.length W b){p:List Cell}(hp:∀x∈p,On bd.length W x)(hl:p.length≤4096):
 bJ [brd bd, .int (w:Int),cD a,cD b,cL p]=M.ret (.bl (sD bd w a b p)):=by
 have hlen:dA aU (aC (dV 4) aN) [fz (brd bd),fz (.int (w:Int)),fz (cD a),fz (cD b),fz (cL p),none]=M.ret (.int (p.length:Int)):=by
  show M.ret (D.int ((p.map cD).length:Int))=_
  rw[List.length_map]
 have t1:gK (a9 (aR (ah 2 aP (aC (dV 0) (aC (dV 4) aN))))) (bN (d2 gi (dA aU (aC (dV 4) aN)) (dC (.int 0)))) [fz (brd bd),fz (.int (w:Int)),fz (cD a),fz (cD b),fz (cL p),none]=M.ret (p.length==0):=by
  refine(mF (d7 (bR ((ak (ds:=[brd bd,cL p]) rfl rfl).trans (fI hg hp hl)))) (dQ ((aB (y:= .int 0) hlen rfl).trans ((eq_int _ _).trans (by rw[show ((p.length:Int)==0)=(p.length==0) from gx p.length 0]))))).trans rfl
 refine a7 (ao (bX ((ak (ds:=[brd bd, .int (w:Int),cD a,cD b]) rfl rfl).trans (gg hg hw ha hb))) ?_)
 cases p with
 |nil=>exact br (b_ t1 (az rfl))
 |cons x r=>
  refine ao (bq t1 rfl) ?_
  obtain⟨l,y,e⟩:∃l y,x::r=l++[y]:=⟨(x::r).dropLast,(x::r).getLast (by simp),(List.dropLast_concat_getLast (by simp)).symm⟩
  have hy:(x::r).getLast? =some y:=by rw[e];simp
  have hh:(x::r).head? =some x:=rfl
  have t2:gK (bN (d2 g9 (d2 ck (dV 4) (dC (.int 0))) (dV 2))) (bN (d2 g9 (d2 ck (dV 4) (d1 ft (dC (.int 1)))) (dV 3))) [fz (brd bd),fz (.int (w:Int)),fz (cD a),fz (cD b),fz (cL (x::r)),none]=M.ret ((!decide (x=a))||(!decide (y=b))):=by
   refine mF (dQ ((aB (x:=cD x) (y:=cD a) ((aB (x:=cL (x::r)) (y:= .int 0) rfl rfl).trans (vU rfl)) rfl).trans (nj _ _))) (dQ ((aB (x:=cD y) (y:=cD b) ((aB (x:=cL (x::r)) (y:= .int (-1)) rfl rfl).trans ?_) rfl).trans (nj _ _)))
   rw[e]
   exact ie
  have IE:sD bd w a b (x::r)=((decide (x=a)&&decide (y=b))&&((x::r).all (fun z=>decide (lt bd z=lt bd a))&&cM w (x::r))):=by
   unfold sD
   rw[hh,hy]
   simp only[Option.some.injEq]
  rw[IE]
  by_cases hc:x=a∧y=b
  ·rw[decide_eq_true hc.1,decide_eq_true hc.2] at t2⊢
   refine ao (bq t2 rfl) (ao (ρ':=[fz (brd bd),fz (.int (w:Int)),fz (cD a),fz (cD b),fz (cL (x::r)),fz (sg (lt bd a))]) ((aM (d:=sg (lt bd a)) ((ak (ds:=[brd bd,cD a]) rfl rfl).trans (cU hg ha))).trans rfl) ?_)
   have t3:a9 (aR (dA allM (aC (bb 0 (fq (dV 4)) bP (d2 gi (ah 2 bf (aC (dV 1) (aC (dV 0) aN))) (dV 6))) aN))) [fz (brd bd),fz (.int (w:Int)),fz (cD a),fz (cD b),fz (cL (x::r)),fz (sg (lt bd a))]=M.ret (!(x::r).all fun z=>decide (lt bd z=lt bd a)):=
    d7 (bR (g_ (enc:=cD) (Fy rfl) (fun z hz=>(aB (x:=sg (lt bd z)) (y:=sg (lt bd a)) ((ak (ds:=[brd bd,cD z]) rfl rfl).trans (cU hg (hp z hz))) rfl).trans (zv _ _)) hl))
   have CU:dA aU (aC (dV 4) aN) [fz (brd bd),fz (.int (w:Int)),fz (cD a),fz (cD b),fz (cL (x::r)),fz (sg (lt bd a))]=M.ret (.int ((x::r).length:Int)):=hlen
   cases hq:(x::r).all (fun z=>decide (lt bd z=lt bd a)) with
   |false=>
    rw[hq] at t3
    exact br (b_ t3 (az rfl))
   |true=>
    rw[hq] at t3
    refine ao (bq t3 rfl) (az ?_)
    rw[Bool.true_and,Bool.true_and,Bool.true_and,←mw (x::r) x]
    refine g_ (enc:=fun(k:Nat)=>D.int (k:Int)) (BH (i:=1) (j:=(x::r).length) rfl CU (by decide) hl) (fun i hi=>?_) (by rw[List.length_range'];omega)
    rw[List.mem_range'_1] at hi
    have g:∀k:Nat,k<(x::r).length→ck (cL (x::r)) (.int (k:Int))=M.ret (cD ((x::r).getD k x)):=fun k hk=>rG (by rw[List.getD_eq_getElem?_getD,List.getElem?_eq_getElem hk];rfl)
    have e1:d2 ck (dV 5) (d2 oh (dV 0) (dC (.int 1))) (fz (.int (i:Int))::[fz (brd bd),fz (.int (w:Int)),fz (cD a),fz (cD b),fz (cL (x::r)),fz (sg (lt bd a))])=M.ret (cD ((x::r).getD (i - 1) x)):=by
     refine(aB (x:=cL (x::r)) (y:= .int ((i - 1:Nat):Int)) rfl ?_).trans (g (i - 1) (by omega))
     show M.ret (D.int ((i:Int) - 1))=_
     congr 2
     omega
    have e2:d2 ck (dV 5) (dV 0) (fz (.int (i:Int))::[fz (brd bd),fz (.int (w:Int)),fz (cD a),fz (cD b),fz (cL (x::r)),fz (sg (lt bd a))])=M.ret (cD ((x::r).getD i x)):=(aB (x:=cL (x::r)) (y:= .int (i:Int)) rfl rfl).trans (g i (by omega))
    exact(ak (ay e1 (ay e2 (ay (x:= .int (w:Int)) rfl rfl))) rfl).trans (hJ hw _ _)
  ·have:((!decide (x=a))||(!decide (y=b)))=true:=by
    by_cases h1:x=a
    ·by_cases h2:y=b
     ·exact absurd ⟨h1,h2⟩ hc
     ·simp[h2]
    ·simp[h1]
   rw[this] at t2
   have hz:(decide (x=a)&&decide (y=b))=false:=by
    by_cases h1:x=a
    ·by_cases h2:y=b
     ·exact absurd ⟨h1,h2⟩ hc
     ·simp[h2]
    ·simp[h1]
   rw[hz]
   exact br (b_ t2 (az rfl))
def dO(ks:List Cell)(c:Cell):List Cell:=if c∈ks then ks else ks++[c]
def cE(l:List Cell):List Cell:=l.foldl dO []
def bC(ks:List Cell):List D:=ks.map fun _=> .bl true
theorem vk{ks:List Cell}{c x:Cell}:x∈dO ks c↔x∈ks∨x=c:=by
 unfold dO
 split
 ·rename_i h
  exact⟨.inl,fun q=>q.elim id fun e=>by rw[e];exact h⟩
 ·simp
theorem zx:∀(l ks:List Cell),(ks.Nodup→(l.foldl dO ks).Nodup)∧(∀x,x∈l.foldl dO ks↔x∈ks∨x∈l)∧(l.foldl dO ks).length≤ks.length+l.length
 |[],ks=>⟨id,fun x=>by simp,by simp⟩
 |c::l,ks=>by
  obtain⟨h1,h2,h3⟩:=zx l (dO ks c)
  refine⟨fun hn=>h1 ?_,fun x=>?_,?_⟩
  ·unfold dO
   split
   ·exact hn
   ·rename_i hc
    refine List.nodup_append.mpr ⟨hn,by simp,fun y hy z hz e=>?_⟩
    have hz:z=c:=by simpa using hz
    rw[e,hz] at hy
    exact hc hy
  ·rw[List.foldl_cons,h2 x,vk]
   simp[or_assoc]
  ·rw[List.foldl_cons,List.length_cons]
   have:(dO ks c).length≤ks.length+1:=by unfold dO;split<;>simp
   omega
theorem el{l:List Cell}{x:Cell}:x∈cE l↔x∈l:=by
 unfold cE
 rw[(zx l []).2.1 x]
 simp
theorem nK{k:List Key}:∀{ks:List (List Key)}{l:List Cell},ks.length=l.length→mh ks (bC l) k (.bl true)=bC l
 |[],[],_=>rfl
 |k'::ks,c::l,h=>by
  show (if k'=k then D.bl true else D.bl true)::mh ks (bC l) k (.bl true)=_
  rw[nK (by simpa using h)]
  split<;>rfl
 |[],_::_,h=>by simp at h
 |_::_,[],h=>by simp at h
theorem wX{ks:List Cell}{c:Cell}(hl:ks.length<lim):lE (.dct (ks.map keyOf) (bC ks)) (cD c) (.bl true)=some (.dct ((dO ks c).map keyOf) (bC (dO ks c))):=by
 have hlen:(bC ks).length=ks.length:=by simp[bC]
 unfold dO
 by_cases h:c∈ks
 ·rw[if_pos h]
  show (match df (cD c) with | some kk=>if (bC ks).length<lim then some (C.dct (fM (ks.map keyOf) (bC ks) kk) (eC (ks.map keyOf) (bC ks) kk (.bl true))) else none | none=>none)=_
  rw[ig]
  show (if (bC ks).length<lim then some (C.dct (fM (ks.map keyOf) (bC ks) (keyOf c)) (eC (ks.map keyOf) (bC ks) (keyOf c) (.bl true))) else none)=_
  rw[if_pos (by rw[hlen];exact hl)]
  obtain⟨d,e,_⟩:=gh (ds:=bC ks) hlen.symm h
  unfold fM eC
  rw[e]
  show some (C.dct (ks.map keyOf) (mh (ks.map keyOf) (bC ks) (keyOf c) (.bl true)))=_
  rw[nK (by simp)]
 ·rw[if_neg h,qu h (by rw[hlen];exact hl)]
  simp[bC]
abbrev b7(l:List Cell):D:= .dct ((cE l).map keyOf) (bC (cE l))
theorem uE{l:List Cell}(hl:l.length<4000):j7 [cL l]=M.ret (b7 l):=by
 have e:∀(xs ks:List Cell),ks.length+xs.length<4000→forL (putN 2) (c9 [2] (nL 1 (dV 2) (dC (.bl true)))) (xs.map cD) [fz (cL l),some (.ow (.dct (ks.map keyOf) (bC ks))),none]=M.ret (.nx [fz (cL l),some (.ow (.dct ((xs.foldl dO ks).map keyOf) (bC (xs.foldl dO ks)))),none]):=by
  intro xs
  induction xs with
  |nil=>intro ks _;rfl
  |cons x xs ih=>
   intro ks hk
   rw[List.length_cons] at hk
   have hle:(dO ks x).length≤ks.length+1:=by unfold dO;split<;>simp
   refine(eh (ρ1:=[fz (cL l),some (.ow (.dct (ks.map keyOf) (bC ks))),fz (cD x)]) (ρ2:=[fz (cL l),some (.ow (.dct ((dO ks x).map keyOf) (bC (dO ks x)))),none]) rfl ?_).trans (ih (dO ks x) (by omega))
   refine(cI (ρ':=[fz (cL l),some (.ow (.dct ((dO ks x).map keyOf) (bC (dO ks x)))),fz (cD x)]) ?_).trans rfl
   show (match lE (.dct (ks.map keyOf) (bC ks)) (cD x) (.bl true) with | some c'=>M.ret (Out.nx [fz (cL l),some (.ow c'),fz (cD x)]) | none=>M.stuck)=_
   rw[wX (by rw[ei];omega)]
 refine a7 (ao (ρ':=[fz (cL l),some (.ow (.dct [] [])),none]) rfl (ao (ρ':=[fz (cL l),some (.ow (.dct ((cE l).map keyOf) (bC (cE l)))),none]) (gc (lL (ds:=l.map cD) rfl (e l [] (by simpa using hl)))) rfl))
theorem uF{ks:List Cell}{ds:List D}:fG (.dct (ks.map keyOf) ds)=M.ret (ks.map cD):=by
 show (if (ks.map keyOf).all (fun k=>decide (k.length≤lim)&&k.all nu) then M.ret ((ks.map keyOf).map tupK) else M.stuck)=_
 have:(ks.map keyOf).all (fun k=>decide (k.length≤lim)&&k.all nu)=true:=by
  simp only[List.all_eq_true,List.mem_map]
  rintro k ⟨c,_,rfl⟩
  rfl
 rw[if_pos this,List.map_map]
 rfl
def bV(bd:List Str)(W w:Nat)(a b:Cell)(l:List Cell):Bool:=(decide (a∈l)&& !decide (b∈l))&&(cE l).all fun c=>(aF bd W w c).all fun x=>decide (x∈l)
theorem eS{bd:List Str}{W w:Nat}{a b:Cell}{l:List Cell}:bV bd W w a b l=true↔a∈l∧b∉l∧∀c∈l,∀x∈aF bd W w c,x∈l:=by
 unfold bV
 simp only[Bool.and_eq_true,decide_eq_true_eq,Bool.not_eq_true',decide_eq_false_iff_not,List.all_eq_true,el,and_assoc]
theorem cC{bd:List Str}{W w:Nat}(hg:Brd bd W)(hw:Ways w){a b:Cell}(ha:On bd.length W a)(hb:On bd.length W b){l:List Cell}(hp:∀x∈l,On bd.length W x)(hl:l.length<4000):
 aX [brd bd, .int (w:Int),cD a,cD b,cL l]=M.ret (.bl (bV bd W w a b l)):=by
 have CT:(cE l).length=(bC (cE l)).length:=by simp[bC]
 refine a7 (ao (bX ((ak (ds:=[brd bd, .int (w:Int),cD a,cD b]) rfl rfl).trans (gg hg hw ha hb))) ?_)
 refine ao (bq (d7 (bR ((ak (ds:=[brd bd,cL l]) rfl rfl).trans (fI hg hp (by omega))))) rfl) ?_
 refine ao (ρ':=[fz (brd bd),fz (.int (w:Int)),fz (cD a),fz (cD b),fz (cL l),fz (b7 l),none]) ((aM (d:=b7 l) ((ak (ds:=[cL l]) rfl rfl).trans (uE hl))).trans rfl) ?_
 have t1:gK (bN (d2 (d8 true) (dV 2) (dV 5))) (bN (d2 (d8 false) (dV 3) (dV 5))) [fz (brd bd),fz (.int (w:Int)),fz (cD a),fz (cD b),fz (cL l),fz (b7 l),none]=M.ret ((!decide (a∈cE l))||decide (b∈cE l)):=
  mF (dQ ((aB (x:=cD a) (y:=b7 l) rfl rfl).trans (f_ (neg:=true) CT))) (dQ ((aB (x:=cD b) (y:=b7 l) rfl rfl).trans (f_ (neg:=false) CT)))
 have HR:decide (a∈cE l)=decide (a∈l):=by rw[decide_eq_decide];exact el
 have pV:decide (b∈cE l)=decide (b∈l):=by rw[decide_eq_decide];exact el
 rw[HR,pV] at t1
 by_cases hc:a∈l∧b∉l
 ·rw[decide_eq_true hc.1,decide_eq_false hc.2] at t1
  refine ao (bq t1 rfl) ?_
  have CN:bV bd W w a b l=(cE l).all fun c=>(aF bd W w c).all fun x=>decide (x∈l):=by
   unfold bV
   rw[decide_eq_true hc.1,decide_eq_false hc.2]
   rfl
  rw[CN]
  have loop:∀ks:List Cell,(∀c∈ks,On bd.length W c)→forL (putN 6) (c9 [6] (cK (a9 (aR (dA allM (aC (bb 0 (fq (ah 3 aK (aC (dV 0) (aC (dV 6) (aC (dV 1) aN))))) bP (d2 (d8 false) (dV 0) (dV 6))) aN)))) (aO (dC (.bl false))) ba)) (ks.map cD) [fz (brd bd),fz (.int (w:Int)),fz (cD a),fz (cD b),fz (cL l),fz (b7 l),none]=
   M.ret (if ks.all (fun c=>(aF bd W w c).all fun x=>decide (x∈l)) then .nx [fz (brd bd),fz (.int (w:Int)),fz (cD a),fz (cD b),fz (cL l),fz (b7 l),none] else .rt (.bl false)):=by
   intro ks
   induction ks with
   |nil=>intro _;rfl
   |cons c ks ih=>
    intro B9
    have t2:a9 (aR (dA allM (aC (bb 0 (fq (ah 3 aK (aC (dV 0) (aC (dV 6) (aC (dV 1) aN))))) bP (d2 (d8 false) (dV 0) (dV 6))) aN))) [fz (brd bd),fz (.int (w:Int)),fz (cD a),fz (cD b),fz (cL l),fz (b7 l),fz (cD c)]=M.ret (!(aF bd W w c).all fun x=>decide (x∈l)):=by
     refine d7 (bR (g_ (enc:=cD) (xs:=aF bd W w c) ?_ (fun x hx=>?_) (Nat.le_trans (m7 ..) (by decide))))
     ·show (ah 3 aK (aC (dV 0) (aC (dV 6) (aC (dV 1) aN))) [fz (brd bd),fz (.int (w:Int)),fz (cD a),fz (cD b),fz (cL l),fz (b7 l),fz (cD c)]>>=lstM)=_
      have e2:ah 3 aK (aC (dV 0) (aC (dV 6) (aC (dV 1) aN))) [fz (brd bd),fz (.int (w:Int)),fz (cD a),fz (cD b),fz (cL l),fz (b7 l),fz (cD c)]=M.ret (.lst ((aF bd W w c).map cD)):=fH hg hw (B9 c (List.mem_cons_self ..))
      rw[e2]
      rfl
     ·refine(aB (x:=cD x) (y:=b7 l) rfl rfl).trans ((f_ (neg:=false) CT).trans ?_)
      congr 2
      show decide (x∈cE l)=_
      rw[decide_eq_decide]
      exact el
    cases hq:(aF bd W w c).all (fun x=>decide (x∈l)) with
    |true=>
     rw[hq] at t2
     rw[List.map_cons,eh (ρ1:=[fz (brd bd),fz (.int (w:Int)),fz (cD a),fz (cD b),fz (cL l),fz (b7 l),fz (cD c)]) (ρ2:=[fz (brd bd),fz (.int (w:Int)),fz (cD a),fz (cD b),fz (cL l),fz (b7 l),none]) rfl ((cI (bq t2 rfl)).trans rfl),ih fun c hc=>B9 c (List.mem_cons_of_mem _ hc),List.all_cons,hq,Bool.true_and]
    |false=>
     rw[hq] at t2
     rw[List.map_cons,xS (ρ1:=[fz (brd bd),fz (.int (w:Int)),fz (cD a),fz (cD b),fz (cL l),fz (b7 l),fz (cD c)]) (v:= .bl false) rfl (y7 (b_ t2 (az rfl))),List.all_cons,hq,Bool.false_and]
     rfl
  have lp:=loop (cE l) fun c hc=>hp c (el.mp hc)
  have Ei:noex (e9 (putN 6) (fun ρ=>(dV 5) ρ>>=fG) (c9 [6] (cK (a9 (aR (dA allM (aC (bb 0 (fq (ah 3 aK (aC (dV 0) (aC (dV 6) (aC (dV 1) aN))))) bP (d2 (d8 false) (dV 0) (dV 6))) aN)))) (aO (dC (.bl false))) ba)) [fz (brd bd),fz (.int (w:Int)),fz (cD a),fz (cD b),fz (cL l),fz (b7 l),none])=_:=gc (τ:=e9 _ _ _) (lL (uF (ks:=cE l) (ds:=bC (cE l))) lp)
  cases hq:(cE l).all (fun c=>(aF bd W w c).all fun x=>decide (x∈l)) with
  |true=>
   rw[hq] at Ei
   exact ao Ei (az rfl)
  |false=>
   rw[hq] at Ei
   exact br Ei
 ·have h1:((!decide (a∈l))||decide (b∈l))=true:=by
   by_cases q1:a∈l
   ·by_cases q2:b∈l
    ·simp[q2]
    ·exact absurd ⟨q1,q2⟩ hc
   ·simp[q1]
  rw[h1] at t1
  have CN:bV bd W w a b l=false:=by
   unfold bV
   have:(decide (a∈l)&& !decide (b∈l))=false:=by
    by_cases q1:a∈l
    ·by_cases q2:b∈l
     ·simp[q2]
     ·exact absurd ⟨q1,q2⟩ hc
    ·simp[q1]
   rw[this]
   rfl
  rw[CN]
  exact br (b_ t1 (az rfl))
theorem gE{w:Nat}:∀{p q:List Cell}{x y:Cell},p.getLast? =some x→q.head? =some y→cM w (p++q)=(cM w p&&(ix w x y&&cM w q))
 |[],_,_,_,h,_=>by cases h
 |[a],q,x,y,h,h2=>by
  have h:a=x:=Option.some.inj h
  subst h
  cases q with
  |nil=>cases h2
  |cons b r=>
   have h2:b=y:=Option.some.inj h2
   subst h2
   show cM w (a::b::r)=_
   unfold cM
   rw[Bool.true_and]
   cases r<;>rfl
 |a::b::r,q,x,y,h,h2=>by
  rw[List.getLast?_cons_cons] at h
  have ih:=gE (w:=w) (p:=b::r) (q:=q) h h2
  show (ix w a b&&cM w ((b::r)++q))=((ix w a b&&cM w (b::r))&&_)
  rw[ih,Bool.and_assoc]
theorem sM{w:Nat}:∀{p:List Cell},cM w p=true→cM w p.reverse=true
 |[],_=>rfl
 |[_],_=>rfl
 |a::b::r,h=>by
  unfold cM at h
  rw[Bool.and_eq_true] at h
  rw[List.reverse_cons,gE (x:=b) (y:=a) (by rw[List.reverse_cons];simp) rfl,sM h.2,iy,h.1]
  rfl
section
variable{bd:List Str}{W w:Nat}{a b c:Cell}{p q:List Cell}
theorem IsWay.ne(h:IsWay bd W w a b p):p≠[]:=fun z=>by have:=h.hd;rw[z] at this;cases this
theorem IsWay.pos(h:IsWay bd W w a b p):1≤p.length:=List.length_pos_iff.mpr h.ne
theorem IsWay.last_let(h:IsWay bd W w a b p):lt bd b=lt bd a:=h.let' b (List.mem_of_getLast? h.lst)
theorem IsWay.rev(h:IsWay bd W w a b p):IsWay bd W w b a p.reverse:=
 ⟨fun x hx=>h.on x (List.mem_reverse.mp hx),by rw[List.head?_reverse];exact h.lst,by rw[List.getLast?_reverse];exact h.hd,fun x hx=>(h.let' x (List.mem_reverse.mp hx)).trans h.last_let.symm,sM h.adj⟩
theorem IsWay.cn(hw:Ways w)(hb:On bd.length W b)(h:IsWay bd W w a b p):Cn bd W w a b:=Cn.symm hw hb ⟨_,sE hw h⟩
theorem IsWay.cat(h:IsWay bd W w a b p)(h2:IsWay bd W w b c q):IsWay bd W w a c (p++q.tail):=by
 cases q with
 |nil=>exact absurd rfl h2.ne
 |cons x r=>
  have hx:x=b:=Option.some.inj h2.hd
  subst hx
  have hl:=h.last_let
  refine⟨fun y hy=>?_,?_,?_,fun y hy=>?_,?_⟩
  ·rcases List.mem_append.mp hy with z | z
   ·exact h.on y z
   ·exact h2.on y (List.mem_cons_of_mem _ z)
  ·rw[List.head?_append,h.hd];rfl
  ·have:=h2.lst
   cases r with
   |nil=>
    have e:x=c:=Option.some.inj this
    subst e
    simp only[List.tail_cons,List.append_nil]
    exact h.lst
   |cons y r=>
    rw[List.getLast?_cons_cons] at this
    rw[List.tail_cons,List.getLast?_append,this]
    rfl
  ·rcases List.mem_append.mp hy with z | z
   ·exact h.let' y z
   ·exact(h2.let' y (List.mem_cons_of_mem _ z)).trans hl
  ·cases r with
   |nil=>simp only[List.tail_cons,List.append_nil];exact h.adj
   |cons y r=>
    have ha:=h2.adj
    unfold cM at ha
    rw[Bool.and_eq_true] at ha
    rw[List.tail_cons,gE h.lst rfl,h.adj,ha.1,ha.2]
    rfl
end
theorem p6{x:Cell}:∀{l:List Cell},je (keyOf x) (l.map keyOf)=decide (x∈l)
 |[]=>rfl
 |y::l=>by
  show (decide (keyOf y=keyOf x)||je (keyOf x) (l.map keyOf))=_
  rw[p6]
  by_cases h:y=x
  ·subst h;simp
  ·have h2:¬keyOf y=keyOf x:=fun z=>h (i_ z)
   rw[decide_eq_false h2,Bool.false_or,decide_eq_decide]
   constructor
   ·exact fun q=>List.mem_cons_of_mem _ q
   ·intro q
    rcases List.mem_cons.mp q with q | q
    ·exact absurd q.symm h
    ·exact q
theorem mZ:∀{l:List Cell},ij (l.map cD)=some (l.map keyOf)
 |[]=>rfl
 |y::l=>by
  show (match df (cD y),ij (l.map cD) with | some k,some ks=>some (k::ks) | _,_=>none)=_
  rw[mZ]
  rfl
theorem x_{neg:Bool}{x:Cell}{l:List Cell}:uq neg (cD x) (cL l)=M.ret (.bl (if neg then !decide (x∈l) else decide (x∈l))):=by
 show (match df (cD x),ij (l.map cD) with | some k,some ks=>M.ret (D.bl (if neg then !je k ks else je k ks)) | _,_=>M.stuck)=_
 rw[mZ,ig]
 show M.ret (D.bl (if neg then !je (keyOf x) (l.map keyOf) else je (keyOf x) (l.map keyOf)))=_
 rw[p6]
theorem AO(neg:Bool)(l:List Cell):pS neg (cL l) .non=M.ret (.bl neg):=rfl
theorem yd(neg:Bool):pS neg .non .non=M.ret (.bl (!neg)):=rfl
theorem Cw(a b:Bool):gi (.bl a) (.bl b)=M.ret (.bl (a==b)):=rfl
theorem zR(a b:Bool):g9 (.bl a) (.bl b)=M.ret (.bl (!(a==b))):=rfl
theorem kP(l:List Cell):aU [cL l]=M.ret (.int (l.length:Int)):=by
 show M.ret (D.int ((l.map cD).length:Int))=_
 rw[List.length_map]
theorem tW{l:List Cell}(h:1≤l.length):G_ (cL l) (some 1) none=M.ret (cL l.tail):=by
 show M.ret (D.lst (cutD (l.map cD) (some 1) none))=_
 congr 2
 unfold cutD
 have e1:HT.sIx (l.map cD).length 0 (some 1)=1:=by
  rw[List.length_map]
  show (if (1:Int)<0 then((1:Int)+(l.length:Int)).toNat else min (1:Int).toNat l.length)=1
  rw[if_neg (by decide)]
  show min 1 l.length=1
  omega
 have e2:HT.sIx (l.map cD).length (l.map cD).length none=(l.map cD).length:=rfl
 rw[e1,e2,List.map_tail,List.drop_one,List.take_of_length_le (by simp)]
theorem n8{a b:List Cell}(h:a.length+b.length≤4096):fk (cL a) (cL b)=M.ret (cL (a++b)):=by
 show (if (a.map cD).length+(b.map cD).length≤lim then M.ret (D.lst (a.map cD++b.map cD)) else M.stuck)=_
 rw[if_pos (by rw[List.length_map,List.length_map,ei];exact h),←List.map_append]
theorem zQ(a b:Nat):g9 (.int (a:Int)) (.int (b:Int))=M.ret (.bl (!(a==b))):=by
 rw[ne_int,gx]
theorem zP(a b:Nat):zy (.int (a:Int)) (.int (b:Int))=M.ret (.bl (decide (b<a))):=by
 show M.ret (D.bl (decide ((b:Int)<(a:Int))))=_
 congr 2
 rw[decide_eq_decide]
 omega
theorem w6{i:Nat}{ρ:aW}{l:List Cell}(h:dV i ρ=M.ret (cL l)):hX (dV i) (d1 ft (dC (.int 1))) ρ=M.ret (cL l.reverse):=by
 unfold hX
 rw[h,ar]
 show M.ret (D.lst (l.map cD).reverse)=M.ret (D.lst (l.reverse.map cD))
 rw[List.map_reverse]
theorem B0{bd:List Str}{W w:Nat}(hg:Brd bd W)(hw:Ways w){a b:Cell}(ha:On bd.length W a)(hb:On bd.length W b){p:List Cell}(hp:IsWay bd W w a b p):
 ∃q,IsWay bd W w a b q∧(∀r,IsWay bd W w a b r→q.length≤r.length)∧q.length≤64∧fB [brd bd, .int (w:Int),cD a,cD b]=M.ret (cL q):=by
 rcases tY hg hw ha hb with h | ⟨h,_⟩
 ·exact h
 ·exact absurd (hp.cn hw hb) h
theorem kJ{bd:List Str}{W w:Nat}(hg:Brd bd W)(hw:Ways w){a b:Cell}(ha:On bd.length W a)(hb:On bd.length W b){p:List Cell}(hp:IsWay bd W w a b p)(hl:p.length≤4096):bJ [brd bd, .int (w:Int),cD a,cD b,cL p]=M.ret (.bl true):=by
 rw[kK hg hw ha hb hp.on hl,(qQ hp.on).mpr hp]
theorem fC{bd:List Str}{W w:Nat}{a b:Cell}{P:List Cell}(h:IsPatch bd W w a P):bV bd W w a b P=true↔¬Cn bd W w a b:=by
 rw[eS]
 constructor
 ·rintro⟨_,h2,_⟩ h3
  exact h2 ((h.mem b).mpr h3)
 ·intro h3
  exact⟨(h.mem a).mpr Cn.refl,fun q=>h3 ((h.mem b).mp q),fun c hc x hx=>(h.mem x).mpr (((h.mem c).mp hc).step hx)⟩
theorem jx(ns:List Int)(hl:ns.length≤63){bd:List Str}{W:Nat}(hg:Brd bd W)(k:Nat):∃c,On bd.length W c∧bc [.scr ns, .int (k:Int),brd bd]=M.ret (cD c):=by
 obtain⟨v,hv,e⟩:=cu ns hl k bd.length hg.r1
 obtain⟨u,hu,e2⟩:=cu ns hl (k+1) W hg.w1
 refine⟨(v,u),⟨hv,hu⟩,a7 (az ((cj (xs:=[.int (v:Int), .int (u:Int)]) (ay ?_ (ay ?_ rfl))).trans rfl))⟩
 ·exact(ak (ds:=[.scr ns, .int (k:Int), .int (bd.length:Int)]) (ay rfl (ay rfl (ay (Dc (i:=2) rfl) rfl))) rfl).trans e
 ·exact(ak (ds:=[.scr ns, .int ((k+1:Nat):Int), .int (W:Int)]) (ay rfl (ay rfl (ay (hg.len0 (i:=2) rfl) rfl))) rfl).trans e2
section
variable{bd:List Str}{W w:Nat}{a b:Cell}
theorem iX{w:Nat}{x:Cell}{r:List Cell}:∀l:List Cell,cM w (l++x::r)=(cM w (l++[x])&&cM w (x::r))
 |[]=>by simp[cM]
 |[y]=>by simp[cM]
 |y::z::l=>by
  have ih:=iX (w:=w) (x:=x) (r:=r) (z::l)
  show (ix w y z&&cM w (z::l++x::r))=(ix w y z&&cM w (z::l++[x])&&cM w (x::r))
  rw[ih,Bool.and_assoc]
theorem IsWay.fst{l r:List Cell}{x:Cell}(h:IsWay bd W w a b (l++x::r)):IsWay bd W w a x (l++[x]):=by
 refine⟨fun y hy=>h.on y ?_,?_,by simp,fun y hy=>h.let' y ?_,?_⟩
 ·rcases List.mem_append.mp hy with q | q
  ·exact List.mem_append_left _ q
  ·exact List.mem_append_right _ (by rw[show y=x by simpa using q];exact List.mem_cons_self ..)
 ·have:=h.hd
  cases l with
  |nil=>exact this
  |cons y l=>exact this
 ·rcases List.mem_append.mp hy with q | q
  ·exact List.mem_append_left _ q
  ·exact List.mem_append_right _ (by rw[show y=x by simpa using q];exact List.mem_cons_self ..)
 ·have:=h.adj
  rw[iX,Bool.and_eq_true] at this
  exact this.1
theorem IsWay.snd{l r:List Cell}{x:Cell}(h:IsWay bd W w a b (l++x::r)):IsWay bd W w x b (x::r):=by
 have hx:=h.let' x (List.mem_append_right _ (List.mem_cons_self ..))
 refine⟨fun y hy=>h.on y (List.mem_append_right _ hy),rfl,?_,fun y hy=>(h.let' y (List.mem_append_right _ hy)).trans hx.symm,?_⟩
 ·have:=h.lst
  rw[List.getLast?_append,List.getLast?_cons,Option.some_or] at this
  rw[List.getLast?_cons]
  exact this
 ·have:=h.adj
  rw[iX,Bool.and_eq_true] at this
  exact this.2
theorem twice:∀{l:List Cell},¬l.Nodup→∃x p q r,l=p++x::(q++x::r)
 |[],h=>absurd List.nodup_nil h
 |y::l,h=>by
  by_cases hy:y∈l
  ·obtain⟨q,r,rfl⟩:=List.append_of_mem hy
   exact⟨y,[],q,r,rfl⟩
  ·obtain⟨x,p,q,r,rfl⟩:=twice (l:=l) fun z=>h (List.nodup_cons.mpr ⟨hy,z⟩)
   exact⟨x,y::p,q,r,rfl⟩
theorem u_{p:List Cell}(h:IsWay bd W w a b p)(i9:∀q,IsWay bd W w a b q→p.length≤q.length):p.Nodup:=by
 apply Classical.byContradiction
 intro hn
 obtain⟨x,l,m,r,rfl⟩:=twice hn
 have h2:IsWay bd W w x b (x::r):=by
  have:=h
  rw[show l++x::(m++x::r)=(l++x::m)++x::r by simp] at this
  exact this.snd
 have:=i9 _ (h.fst.cat h2)
 simp at this
 omega
theorem rJ{p:List Cell}(hg:Brd bd W)(hn:p.Nodup)(qZ:∀x∈p,On bd.length W x):ik (cL p)=M.ret (.int (p.length:Int)):=by
 show (match gN (p.map cD) with | some ks=>if ks.length≤64∧(ks.map mN).Nodup then M.ret (D.int ((p.map cD).length:Int)) else M.stuck | none=>M.stuck)=_
 rw[pX]
 have h1:=j4 (bd:=bd) (W:=W) hn qZ
 have h2:bd.length*W≤64:=Nat.mul_le_mul hg.r8 hg.w8
 refine(if_pos ⟨by rw[List.length_map];omega,?_⟩).trans (by rw[List.length_map])
 rw[List.map_map]
 exact xU hg.r8 hg.w8 hn qZ
theorem pY(hg:Brd bd W)(hw:Ways w)(ha:On bd.length W a)(hb:On bd.length W b){p:List Cell}(h:IsWay bd W w a b p)(i9:∀q,IsWay bd W w a b q→p.length≤q.length)(hl:p.length≤64):
 bM [brd bd, .int (w:Int),cD a,cD b,cL p]=M.ret (.bl true):=by
 have h1:=h.pos
 have rv:hX (dV 4) (d1 ft (dC (.int 1))) [fz (brd bd),fz (.int (w:Int)),fz (cD a),fz (cD b),fz (cL p)]=M.ret (cL p.reverse):=w6 (i:=4) rfl
 obtain⟨q,q1,q2,q3,q4⟩:=B0 hg hw hb ha h.rev
 have hq:q.length=p.length:=by
  have z1:=q2 _ h.rev
  have z2:=i9 _ q1.rev
  rw[List.length_reverse] at z1 z2
  omega
 have ln:dA aU (aC (dV 4) aN) [fz (brd bd),fz (.int (w:Int)),fz (cD a),fz (cD b),fz (cL p)]=M.ret (.int (p.length:Int)):=(cj (xs:=[cL p]) rfl).trans (kP p)
 refine a7 (ao (bq ((mF (p:=false) (q:=false) (d7 (b:=true) (bR ((ak (ds:=[brd bd, .int (w:Int),cD a,cD b,cL p]) rfl rfl).trans (kJ hg hw ha hb h (by omega))))) (d7 (b:=true) (bR ((ak (ds:=[brd bd, .int (w:Int),cD b,cD a,cL p.reverse]) (ay rfl (ay rfl (ay rfl (ay rfl (ay rv rfl))))) rfl).trans (kJ hg hw hb ha h.rev (by rw[List.length_reverse];omega)))))).trans rfl) rfl) (ao (bq ((mF (p:=false) (q:=false) (dQ ((aB (x:= .int (q.length:Int)) (y:= .int (p.length:Int)) ((cj (xs:=[cL q]) (ay ((ak (ds:=[brd bd, .int (w:Int),cD b,cD a]) rfl rfl).trans q4) rfl)).trans (kP q)) ln).trans ((zQ _ _).trans (by rw[hq,beq_self_eq_true];rfl)))) (dQ ((aB (x:= .int (p.length:Int)) (y:= .int (p.length:Int)) (rJ hg (u_ h i9) h.on) ln).trans ((zQ _ _).trans (by rw[beq_self_eq_true];rfl))))).trans rfl) rfl) (az ?_)))
 have t1:rm (hX (dV 4) (d1 ft (dC (.int 1)))) (oS (dC (.int 1))) oN [fz (brd bd),fz (.int (w:Int)),fz (cD a),fz (cD b),fz (cL p)]=M.ret (cL p.reverse.tail):=by
  unfold rm
  rw[rv]
  exact tW (by rw[List.length_reverse];exact h1)
 have t2:rm (dV 4) (oS (dC (.int 1))) oN [fz (brd bd),fz (.int (w:Int)),fz (cD a),fz (cD b),fz (cL p)]=M.ret (cL p.tail):=tW h1
 have c1:d2 fk (dV 4) (rm (hX (dV 4) (d1 ft (dC (.int 1)))) (oS (dC (.int 1))) oN) [fz (brd bd),fz (.int (w:Int)),fz (cD a),fz (cD b),fz (cL p)]=M.ret (cL (p++p.reverse.tail)):=(aB (x:=cL p) rfl t1).trans (n8 (by simp;omega))
 have c2:d2 fk (d2 fk (dV 4) (rm (hX (dV 4) (d1 ft (dC (.int 1)))) (oS (dC (.int 1))) oN)) (rm (dV 4) (oS (dC (.int 1))) oN) [fz (brd bd),fz (.int (w:Int)),fz (cD a),fz (cD b),fz (cL p)]=M.ret (cL (p++p.reverse.tail++p.tail)):=(aB c1 t2).trans (n8 (by simp;omega))
 exact(ak (ds:=[brd bd, .int (w:Int),cD a,cD b,cL (p++p.reverse.tail++p.tail)]) (ay rfl (ay rfl (ay rfl (ay rfl (ay c2 rfl))))) rfl).trans (kJ hg hw ha hb ((h.cat h.rev).cat h) (by simp;omega))
theorem rp(hw:Ways w)(ha:On bd.length W a)(l7:a≠b)(hc:Cn bd W w a b){P:List Cell}(hP:IsPatch bd W w a P):bV bd W w a b (P.filter fun x=>!decide (x=b))=false:=by
 cases h:bV bd W w a b (P.filter fun x=>!decide (x=b)) with
 |false=>rfl
 |true=>
  obtain⟨h1,h2,h3⟩:=eS.mp h
  have all:∀{j:Nat}{x:Cell},Rb (aF bd W w) a j x→x∈P.filter fun x=>!decide (x=b):=by
   intro j
   induction j with
   |zero=>intro x hx;rw[show x=a from hx];exact h1
   |succ j ih=>
    intro x hx
    rcases hx with hx | ⟨c,hc,hx⟩
    ·exact ih hx
    ·exact h3 c (ih hc) x hx
  obtain⟨j,hj⟩:=hc
  have:=all hj
  rw[List.mem_filter] at this
  simp at this
theorem um{P:List Cell}(hP:IsPatch bd W w a P)(hl:1<P.length):bV bd W w a b [a]=false:=by
 cases h:bV bd W w a b [a] with
 |false=>rfl
 |true=>
  obtain⟨h1,h2,h3⟩:=eS.mp h
  have all:∀{j:Nat}{x:Cell},Rb (aF bd W w) a j x→x=a:=by
   intro j
   induction j with
   |zero=>intro x hx;exact hx
   |succ j ih=>
    intro x hx
    rcases hx with hx | ⟨c,hc,hx⟩
    ·exact ih hx
    ·have:=h3 a (List.mem_cons_self ..) x (ih hc▸hx)
     simpa using this
  have v3:∀x∈P,x∈[a]:=fun x hx=>by
   obtain⟨j,hj⟩:=(hP.mem x).mp hx
   rw[all hj]
   exact List.mem_cons_self ..
  have:=iw hP.rise.nodup v3
  simp at this
  omega
end
section
variable{bd:List Str}{W w:Nat}{a b:Cell}
abbrev gn(s b:D)(x2 x3 x4 x5 x6 x7 x8 x9 mm:Option Sl):aW:=[fz s,fz b,x2,x3,x4,x5,x6,x7,x8,x9,mm]
def jT:DS:=(aA (cK (a9 (aR (ah 5 bM (aC (dV 1) (aC (dV 3) (aC (dV 4) (aC (dV 5) (aC (dV 7) aN)))))))) (aO (dC (.bl false))) ba) (aA (cK (i6 (bN (d2 zy (dA aU (aC (dV 7) aN)) (dC (.int 2)))) (i6 (aR (ah 5 bJ (aC (dV 1) (aC (dV 3) (aC (dV 4) (aC (dV 5) (aC (d2 fk (rm (dV 7) oN (oS (dC (.int 1)))) (rm (dV 7) (oS (dC (.int 2))) oN)) aN))))))) (bN (d2 gi (dV 3) (dC (.int 4)))))) (aO (dC (.bl false))) ba) (aA (bp 9 (bb 0 (fq (dV 6)) (bN (d2 g9 (dV 0) (dV 6))) (dV 0))) (cK (i6 (bN (d2 g9 (dV 4) (dV 5))) (aR (ah 5 aX (aC (dV 1) (aC (dV 3) (aC (dV 4) (aC (dV 5) (aC (dV 9) aN)))))))) (aO (dC (.bl false))) ba))))
def jF:DS:=(aA (bp 10 (ah 3 bU (aC (dV 1) (aC (dV 5) (aC (dV 3) aN))))) (aA (cK (a9 (aR (ah 5 aX (aC (dV 1) (aC (dV 3) (aC (dV 5) (aC (dV 4) (aC (dV 10) aN)))))))) (aO (dC (.bl false))) ba) (aA (cK (aR (ah 5 aX (aC (dV 1) (aC (dV 3) (aC (dV 4) (aC (dV 5) (aC (d2 fk (dV 6) (dV 10)) aN))))))) (aO (dC (.bl false))) ba) (cK (i6 (bN (d2 zy (dA aU (aC (dV 6) aN)) (dC (.int 1)))) (aR (ah 5 aX (aC (dV 1) (aC (dV 3) (aC (dV 4) (aC (dV 5) (aC (dA dW (aC (dV 4) aN)) aN)))))))) (aO (dC (.bl false))) ba))))
theorem vD(l:List Cell)(lo hi:Option Int):cutD (l.map cD) lo hi=((l.drop (HT.sIx l.length 0 lo)).take (HT.sIx l.length l.length hi - HT.sIx l.length 0 lo)).map cD:=by
 unfold cutD
 rw[List.length_map,←List.map_drop,←List.map_take]
theorem iG(hw:Ways w)(ha:On bd.length W a){P:List Cell}(hP:IsPatch bd W w a P):P.length≤bd.length*W:=j4 hP.rise.nodup fun x hx=>((hP.mem x).mp hx).on hw ha
theorem AX(hg:Brd bd W)(hw:Ways w)(ha:On bd.length W a)(hb:On bd.length W b)(hc:Cn bd W w a b){P p:List Cell}(hP:IsPatch bd W w a P)(h:IsWay bd W w a b p)(i9:∀q,IsWay bd W w a b q→p.length≤q.length)(hl:p.length≤64)(s:D)(x2 x8 mm:Option Sl):
 jT (gn s (brd bd) x2 (fz (.int (w:Int))) (fz (cD a)) (fz (cD b)) (fz (cL P)) (fz (cL p)) x8 none mm)=M.ret (.nx (gn s (brd bd) x2 (fz (.int (w:Int))) (fz (cD a)) (fz (cD b)) (fz (cL P)) (fz (cL p)) x8 (fz (cL (P.filter fun x=>!decide (x=b)))) mm)):=by
 have CD:=iG hw ha hP
 have D7:bd.length*W≤64:=Nat.mul_le_mul hg.r8 hg.w8
 refine ao (bq (d7 (b:=true) (bR ((ak (ds:=[brd bd, .int (w:Int),cD a,cD b,cL p]) rfl rfl).trans (pY hg hw ha hb h i9 hl)))) rfl) ?_
 refine ao (bq (ρ:=gn s (brd bd) x2 (fz (.int (w:Int))) (fz (cD a)) (fz (cD b)) (fz (cL P)) (fz (cL p)) x8 none mm) ?_ rfl) ?_
 ·have t1:bN (d2 zy (dA aU (aC (dV 7) aN)) (dC (.int 2))) (gn s (brd bd) x2 (fz (.int (w:Int))) (fz (cD a)) (fz (cD b)) (fz (cL P)) (fz (cL p)) x8 none mm)=M.ret (decide (2<p.length)):=dQ ((aB (x:= .int (p.length:Int)) (y:= .int ((2:Nat):Int)) ((cj (xs:=[cL p]) rfl).trans (kP p)) rfl).trans (zP _ _))
  by_cases h2:2<p.length
  ·rw[decide_eq_true h2] at t1
   have e1:rm (dV 7) oN (oS (dC (.int 1))) (gn s (brd bd) x2 (fz (.int (w:Int))) (fz (cD a)) (fz (cD b)) (fz (cL P)) (fz (cL p)) x8 none mm)=M.ret (cL (p.take 1)):=by
    show M.ret (D.lst (cutD (p.map cD) none (some 1)))=_
    rw[vD]
    have q1:HT.sIx p.length p.length (some 1)=1:=by
     show (if (1:Int)<0 then((1:Int)+(p.length:Int)).toNat else min (1:Int).toNat p.length)=1
     rw[if_neg (by decide)]
     show min 1 p.length=1
     omega
    have q0:HT.sIx p.length 0 none=0:=rfl
    rw[q1,q0,List.drop_zero]
   have e2:rm (dV 7) (oS (dC (.int 2))) oN (gn s (brd bd) x2 (fz (.int (w:Int))) (fz (cD a)) (fz (cD b)) (fz (cL P)) (fz (cL p)) x8 none mm)=M.ret (cL (p.drop 2)):=by
    show M.ret (D.lst (cutD (p.map cD) (some 2) none))=_
    rw[vD]
    have q1:HT.sIx p.length 0 (some 2)=2:=by
     show (if (2:Int)<0 then((2:Int)+(p.length:Int)).toNat else min (2:Int).toNat p.length)=2
     rw[if_neg (by decide)]
     show min 2 p.length=2
     omega
    have q0:HT.sIx p.length p.length none=p.length:=rfl
    rw[q1,q0,List.take_of_length_le (by rw[List.length_drop];exact Nat.le_refl _)]
   have e3:=(aB e1 e2).trans (n8 (a:=p.take 1) (b:=p.drop 2) (by simp;omega))
   have on:∀x∈p.take 1++p.drop 2,On bd.length W x:=fun x hx=>by
    rcases List.mem_append.mp hx with q | q
    ·exact h.on x (List.mem_of_mem_take q)
    ·exact h.on x (List.mem_of_mem_drop q)
   have no:sD bd w a b (p.take 1++p.drop 2)=false:=by
    cases ES:sD bd w a b (p.take 1++p.drop 2) with
    |false=>rfl
    |true=>
     have:=i9 _ ((qQ on).mp ES)
     simp at this
     omega
   have e4:=bR ((ak (m:=5) (g:=bJ) (ds:=[brd bd, .int (w:Int),cD a,cD b,cL (p.take 1++p.drop 2)]) (ρ:=gn s (brd bd) x2 (fz (.int (w:Int))) (fz (cD a)) (fz (cD b)) (fz (cL P)) (fz (cL p)) x8 none mm) (ay (a:=dV 1) rfl (ay (a:=dV 3) rfl (ay (a:=dV 4) rfl (ay (a:=dV 5) rfl (ay e3 (r:=aN) rfl))))) rfl).trans ((kK hg hw ha hb on (by simp;omega)).trans (by rw[no])))
   exact(rk (p:=true) (q:=false) t1 (n9 e4)).trans rfl
  ·rw[decide_eq_false h2] at t1
   exact n9 t1
 refine ao (ρ':=gn s (brd bd) x2 (fz (.int (w:Int))) (fz (cD a)) (fz (cD b)) (fz (cL P)) (fz (cL p)) x8 (fz (cL (P.filter fun x=>!decide (x=b)))) mm) ((aM (d:=cL (P.filter fun x=>!decide (x=b))) ?_).trans rfl) (bq ?_ rfl)
 ·refine cN (Fy (i:=6) rfl) (i5 cD (fun x=>!decide (x=b)) P fun x hx=>?_) (by rw[List.length_map,ei];have:=List.length_filter_le (fun x=>!decide (x=b)) P;omega)
  rw[vC]
  have:bN (d2 g9 (dV 0) (dV 6)) (fz (cD x)::gn s (brd bd) x2 (fz (.int (w:Int))) (fz (cD a)) (fz (cD b)) (fz (cL P)) (fz (cL p)) x8 none mm)=M.ret (!decide (x=b)):=dQ ((aB (x:=cD x) (y:=cD b) rfl rfl).trans (nj x b))
  rw[this]
  cases decide (x=b)<;>rfl
 ·have t1:bN (d2 g9 (dV 4) (dV 5)) (gn s (brd bd) x2 (fz (.int (w:Int))) (fz (cD a)) (fz (cD b)) (fz (cL P)) (fz (cL p)) x8 (fz (cL (P.filter fun x=>!decide (x=b)))) mm)=M.ret (!decide (a=b)):=dQ ((aB (x:=cD a) (y:=cD b) rfl rfl).trans (nj a b))
  by_cases EN:a=b
  ·rw[decide_eq_true EN] at t1
   exact n9 t1
  ·rw[decide_eq_false EN] at t1
   refine(rk (p:=true) (q:=false) t1 (bR ((ak (ds:=[brd bd, .int (w:Int),cD a,cD b,cL (P.filter fun x=>!decide (x=b))]) rfl rfl).trans ((cC hg hw ha hb (fun x hx=>((hP.mem x).mp (List.mem_filter.mp hx).1).on hw ha) (by have:=List.length_filter_le (fun x=>!decide (x=b)) P;omega)).trans (by rw[rp hw ha EN hc hP]))))).trans rfl
theorem AW(hg:Brd bd W)(hs:bd.length*W<64)(hw:Ways w)(ha:On bd.length W a)(hb:On bd.length W b)(hc:¬Cn bd W w a b){P:List Cell}(hP:IsPatch bd W w a P)(s:D)(x2 x7 x8:Option Sl):
 ∃Q,jF (gn s (brd bd) x2 (fz (.int (w:Int))) (fz (cD a)) (fz (cD b)) (fz (cL P)) x7 x8 none none)=M.ret (.nx (gn s (brd bd) x2 (fz (.int (w:Int))) (fz (cD a)) (fz (cD b)) (fz (cL P)) x7 x8 none (fz (cL Q)))):=by
 obtain⟨Q,hQ,eQ⟩:=iH hg hs hw hb
 have CD:=iG hw ha hP
 have I9:=iG hw hb hQ
 have Dj:∀x∈P,On bd.length W x:=fun x hx=>((hP.mem x).mp hx).on hw ha
 have G8:∀x∈Q,On bd.length W x:=fun x hx=>((hQ.mem x).mp hx).on hw hb
 refine⟨Q,?_⟩
 refine ao (ρ':=gn s (brd bd) x2 (fz (.int (w:Int))) (fz (cD a)) (fz (cD b)) (fz (cL P)) x7 x8 none (fz (cL Q))) ((aM ((ak (ds:=[brd bd,cD b, .int (w:Int)]) rfl rfl).trans eQ)).trans rfl) ?_
 refine ao (bq (d7 (b:=true) (bR ((ak (ds:=[brd bd, .int (w:Int),cD b,cD a,cL Q]) rfl rfl).trans ((cC hg hw hb ha G8 (by omega)).trans (by rw[(fC hQ).mpr fun z=>hc (z.symm hw hb)]))))) rfl) ?_
 have no:bV bd W w a b (P++Q)=false:=by
  cases h:bV bd W w a b (P++Q) with
  |false=>rfl
  |true=>exact absurd (List.mem_append_right _ ((hQ.mem b).mpr Cn.refl)) (eS.mp h).2.1
 refine ao (bq (bR ((ak (ds:=[brd bd, .int (w:Int),cD a,cD b,cL (P++Q)]) (ay rfl (ay rfl (ay rfl (ay rfl (ay ((aB (x:=cL P) (y:=cL Q) rfl rfl).trans (n8 (by omega))) rfl))))) rfl).trans ((cC hg hw ha hb (fun x hx=>(List.mem_append.mp hx).elim (Dj x) (G8 x)) (by rw[List.length_append];omega)).trans (by rw[no])))) rfl) ?_
 refine bq ?_ rfl
 have t1:bN (d2 zy (dA aU (aC (dV 6) aN)) (dC (.int 1))) (gn s (brd bd) x2 (fz (.int (w:Int))) (fz (cD a)) (fz (cD b)) (fz (cL P)) x7 x8 none (fz (cL Q)))=M.ret (decide (1<P.length)):=dQ ((aB (x:= .int (P.length:Int)) (y:= .int ((1:Nat):Int)) ((cj (xs:=[cL P]) rfl).trans (kP P)) rfl).trans (zP _ _))
 by_cases h1:1<P.length
 ·rw[decide_eq_true h1] at t1
  exact(rk (p:=true) (q:=false) t1 (bR ((ak (ds:=[brd bd, .int (w:Int),cD a,cD b,cL [a]]) rfl rfl).trans ((cC hg hw ha hb (fun x hx=>by rw[show x=a by simpa using hx];exact ha) (by simp)).trans (by rw[um hP h1]))))).trans rfl
 ·rw[decide_eq_false h1] at t1
  exact n9 t1
def BW:DS:=(aA (bp 7 (ah 4 fB (aC (dV 1) (aC (dV 3) (aC (dV 4) (aC (dV 5) aN)))))) (aA (bp 8 (ah 4 di (aC (dV 1) (aC (dV 3) (aC (dV 4) (aC (dV 5) aN)))))) (aA (cK (gK (bN (d2 g9 (dV 8) (d2 (uq false) (dV 5) (dV 6)))) (bN (d2 g9 (dV 8) (d2 (pS true) (dV 7) (dC .non))))) (aO (dC (.bl false))) ba) (aA (cK (bN (d2 gi (ah 5 aX (aC (dV 1) (aC (dV 3) (aC (dV 4) (aC (dV 5) (aC (dV 6) aN)))))) (dV 8))) (aO (dC (.bl false))) ba) (cK (aR (dV 8)) jT jF)))))
theorem xp(hg:Brd bd W)(hs:bd.length*W<64)(hw:Ways w)(ha:On bd.length W a)(hb:On bd.length W b){P:List Cell}(hP:IsPatch bd W w a P)(s k:D):
 ∃x7 x8 x9 mm,BW (gn s (brd bd) (fz k) (fz (.int (w:Int))) (fz (cD a)) (fz (cD b)) (fz (cL P)) none none none none)=M.ret (.nx (gn s (brd bd) (fz k) (fz (.int (w:Int))) (fz (cD a)) (fz (cD b)) (fz (cL P)) x7 x8 x9 mm)):=by
 have CD:=iG hw ha hP
 have Dj:∀x∈P,On bd.length W x:=fun x hx=>((hP.mem x).mp hx).on hw ha
 obtain⟨r,hr,er⟩:=pf hg hw ha hb
 have E6:decide (b∈P)=r:=by
  cases h:r with
  |true=>exact decide_eq_true ((hP.mem b).mpr (hr.mp h))
  |false=>exact decide_eq_false fun z=>by have:=hr.mpr ((hP.mem b).mp z);rw[h] at this;cases this
 have CN:bV bd W w a b P=!r:=by
  cases h:r with
  |true=>
   cases hf:bV bd W w a b P with
   |false=>rfl
   |true=>exact absurd (hr.mp h) ((fC hP).mp hf)
  |false=>exact(fC hP).mpr fun z=>by have:=hr.mpr z;rw[h] at this;cases this
 have go:∀(row:D) (bn:Bool),fB [brd bd, .int (w:Int),cD a,cD b]=M.ret row→pS true row .non=M.ret (.bl bn)→bn=r→(∃x9 mm,(if r then jT else jF) (gn s (brd bd) (fz k) (fz (.int (w:Int))) (fz (cD a)) (fz (cD b)) (fz (cL P)) (fz row) (fz (.bl r)) none none)=M.ret (.nx (gn s (brd bd) (fz k) (fz (.int (w:Int))) (fz (cD a)) (fz (cD b)) (fz (cL P)) (fz row) (fz (.bl r)) x9 mm)))→
  ∃x7 x8 x9 mm,BW (gn s (brd bd) (fz k) (fz (.int (w:Int))) (fz (cD a)) (fz (cD b)) (fz (cL P)) none none none none)=M.ret (.nx (gn s (brd bd) (fz k) (fz (.int (w:Int))) (fz (cD a)) (fz (cD b)) (fz (cL P)) x7 x8 x9 mm)):=by
  intro row bn e1 e2 e3 ⟨x9,mm,e4⟩
  subst e3
  refine⟨fz row,fz (.bl bn),x9,mm,?_⟩
  refine ao (ρ':=gn s (brd bd) (fz k) (fz (.int (w:Int))) (fz (cD a)) (fz (cD b)) (fz (cL P)) (fz row) none none none) ((aM ((ak (ds:=[brd bd, .int (w:Int),cD a,cD b]) rfl rfl).trans e1)).trans rfl) ?_
  refine ao (ρ':=gn s (brd bd) (fz k) (fz (.int (w:Int))) (fz (cD a)) (fz (cD b)) (fz (cL P)) (fz row) (fz (.bl bn)) none none) ((aM ((ak (ds:=[brd bd, .int (w:Int),cD a,cD b]) rfl rfl).trans er)).trans rfl) ?_
  refine ao (bq ((mF (p:=false) (q:=false) (dQ ((aB (x:= .bl bn) (y:= .bl (decide (b∈P))) rfl ((aB (x:=cD b) (y:=cL P) rfl rfl).trans x_)).trans ((zR _ _).trans (by rw[E6,beq_self_eq_true];rfl)))) (dQ ((aB (x:= .bl bn) (y:= .bl bn) rfl ((aB (x:=row) (y:= .non) rfl rfl).trans e2)).trans ((zR _ _).trans (by rw[beq_self_eq_true];rfl))))).trans rfl) rfl) ?_
  refine ao (bq (dQ ((aB (x:= .bl (bV bd W w a b P)) (y:= .bl bn) ((ak (ds:=[brd bd, .int (w:Int),cD a,cD b,cL P]) rfl rfl).trans (cC hg hw ha hb Dj (by omega))) rfl).trans ((Cw _ _).trans (by rw[CN];cases bn<;>rfl)))) rfl) ?_
  cases bn with
  |true=>exact b_ (bR rfl) e4
  |false=>exact bq (bR rfl) e4
 rcases tY hg hw ha hb with⟨p,p1,p2,p3,p4⟩ | ⟨hc,e⟩
 ·have hc:=p1.cn hw hb
  have GR:=hr.mpr hc
  refine go (cL p) true p4 (AO true p) GR.symm ?_
  rw[GR,if_pos rfl]
  exact⟨_,none,AX hg hw ha hb hc hP p1 p2 p3 s (fz k) (fz (.bl true)) none⟩
 ·have GQ:r=false:=by
   cases h:r with
   |false=>rfl
   |true=>exact absurd (hr.mp h) hc
  refine go .non false e (yd true) GQ.symm ?_
  rw[GQ,if_neg (by decide)]
  obtain⟨Q,eQ⟩:=AW hg hs hw ha hb hc hP s (fz k) (fz .non) (fz (.bl false))
  exact⟨none,_,eQ⟩
def Ck:DS:=(c9 [2,3,4,5,6,7,8,9,10] (aA (bp 3 (d2 ck (dA dW (aC (dC (.int 4)) (aC (dC (.int 8)) aN))) (d2 gj (dV 2) (dC (.int 2))))) (aA (bp 4 (ah 3 bc (aC (dV 0) (aC (d2 bF (dC (.int 60)) (d2 dP (dC (.int 4)) (dV 2))) (aC (dV 1) aN))))) (aA (bp 5 (ah 3 bc (aC (dV 0) (aC (d2 bF (dC (.int 62)) (d2 dP (dC (.int 4)) (dV 2))) (aC (dV 1) aN))))) (aA (bp 6 (ah 3 bU (aC (dV 1) (aC (dV 4) (aC (dV 3) aN))))) (aA (cK (bN (d2 gi (ah 3 aw (aC (dV 0) (aC (d2 bF (dC (.int 90)) (dV 2)) (aC (dC (.int 2)) aN)))) (dC (.int 0)))) (bp 5 (d2 ck (dV 6) (ah 3 aw (aC (dV 0) (aC (d2 bF (dC (.int 100)) (dV 2)) (aC (dA aU (aC (dV 6) aN)) aN)))))) ba) BW))))))
theorem vq(ns:List Int)(hl:ns.length≤63)(hg:Brd bd W)(hs:bd.length*W<64)(k:Nat):Ck (gn (.scr ns) (brd bd) (fz (.int (k:Int))) none none none none none none none none)=M.ret (.nx (gn (.scr ns) (brd bd) none none none none none none none none none)):=by
 obtain⟨w,hw,ew⟩:∃w,Ways w∧ck (.lst [.int 4, .int 8]) (.int ((k % 2:Nat):Int))=M.ret (.int (w:Int)):=by
  rcases Nat.mod_two_eq_zero_or_one k with h | h<;>rw[h]
  ·exact⟨4, .inl rfl,rfl⟩
  ·exact⟨8, .inr rfl,rfl⟩
 obtain⟨a,ha,ea⟩:=jx ns hl hg (60+4*k)
 obtain⟨b0,HJ,Gi⟩:=jx ns hl hg (62+4*k)
 obtain⟨P,hP,eP⟩:=iH hg hs hw ha
 have HD:0<P.length:=List.length_pos_of_mem ((hP.mem a).mpr Cn.refl)
 have Dj:∀x∈P,On bd.length W x:=fun x hx=>((hP.mem x).mp hx).on hw ha
 obtain⟨v,hv,ev⟩:=cu ns hl (90+k) 2 (by decide)
 obtain⟨u,hu,eu⟩:=cu ns hl (100+k) P.length HD
 have m4:dP (.int 4) (.int (k:Int))=M.ret (.int (4*(k:Int))):=dD (.inl ⟨by decide,by decide⟩)
 have k0:∀n:Nat,((n+4*k:Nat):Int)=(n:Int)+4*(k:Int):=fun n=>by omega
 have k1:∀n:Nat,((n+k:Nat):Int)=(n:Int)+(k:Int):=fun n=>by omega
 rw[k0] at ea Gi
 rw[k1] at ev eu
 obtain⟨b,hb,eb⟩:∃b,On bd.length W b∧(cK (bN (d2 gi (ah 3 aw (aC (dV 0) (aC (d2 bF (dC (.int 90)) (dV 2)) (aC (dC (.int 2)) aN)))) (dC (.int 0)))) (bp 5 (d2 ck (dV 6) (ah 3 aw (aC (dV 0) (aC (d2 bF (dC (.int 100)) (dV 2)) (aC (dA aU (aC (dV 6) aN)) aN)))))) ba) (gn (.scr ns) (brd bd) (fz (.int (k:Int))) (fz (.int (w:Int))) (fz (cD a)) (fz (cD b0)) (fz (cL P)) none none none none)=M.ret (.nx (gn (.scr ns) (brd bd) (fz (.int (k:Int))) (fz (.int (w:Int))) (fz (cD a)) (fz (cD b)) (fz (cL P)) none none none none)):=by
  have t:bN (d2 gi (ah 3 aw (aC (dV 0) (aC (d2 bF (dC (.int 90)) (dV 2)) (aC (dC (.int 2)) aN)))) (dC (.int 0))) (gn (.scr ns) (brd bd) (fz (.int (k:Int))) (fz (.int (w:Int))) (fz (cD a)) (fz (cD b0)) (fz (cL P)) none none none none)=M.ret ((v:Int)==0):=dQ ((aB (x:= .int (v:Int)) (y:= .int 0) ((ak (ds:=[.scr ns, .int (90+(k:Int)), .int 2]) rfl rfl).trans ev) rfl).trans (eq_int _ _))
  cases hb:((v:Int)==0) with
  |true=>
   rw[hb] at t
   have hx:=List.getElem?_eq_getElem hu
   refine⟨P[u],Dj _ (List.getElem_mem hu),b_ t ((aM (d:=cD P[u]) ((aB (x:=cL P) (y:= .int (u:Int)) rfl ((ak (ds:=[.scr ns, .int (100+(k:Int)), .int (P.length:Int)]) (ay rfl (ay rfl (ay ((cj (xs:=[cL P]) rfl).trans (kP P)) rfl))) rfl).trans eu)).trans (rG hx))).trans rfl)⟩
  |false=>
   rw[hb] at t
   exact⟨b0,HJ,bq t rfl⟩
 obtain⟨x7,x8,x9,mm,et⟩:=xp hg hs hw ha hb hP (.scr ns) (.int (k:Int))
 refine(cI (ao (ρ':=gn (.scr ns) (brd bd) (fz (.int (k:Int))) (fz (.int (w:Int))) none none none none none none none) ((aM ((aB (x:= .lst [.int 4, .int 8]) (y:= .int ((k % 2:Nat):Int)) rfl ((aB (x:= .int (k:Int)) (y:= .int 2) rfl rfl).trans (dB (by decide)))).trans ew)).trans rfl) (ao (ρ':=gn (.scr ns) (brd bd) (fz (.int (k:Int))) (fz (.int (w:Int))) (fz (cD a)) none none none none none none) ((aM ((ak (ds:=[.scr ns, .int (60+4*(k:Int)),brd bd]) (ay rfl (ay ((aB (x:= .int 60) rfl ((aB (x:= .int 4) (y:= .int (k:Int)) rfl rfl).trans m4)).trans rfl) rfl)) rfl).trans ea)).trans rfl) (ao (ρ':=gn (.scr ns) (brd bd) (fz (.int (k:Int))) (fz (.int (w:Int))) (fz (cD a)) (fz (cD b0)) none none none none none) ((aM ((ak (ds:=[.scr ns, .int (62+4*(k:Int)),brd bd]) (ay rfl (ay ((aB (x:= .int 62) rfl ((aB (x:= .int 4) (y:= .int (k:Int)) rfl rfl).trans m4)).trans rfl) rfl)) rfl).trans Gi)).trans rfl) (ao (ρ':=gn (.scr ns) (brd bd) (fz (.int (k:Int))) (fz (.int (w:Int))) (fz (cD a)) (fz (cD b0)) (fz (cL P)) none none none none) ((aM ((ak (ds:=[brd bd,cD a, .int (w:Int)]) rfl rfl).trans eP)).trans rfl) (ao eb et)))))).trans rfl
theorem wc(ns:List Int)(hl:ns.length≤63):f9 [.scr ns]=M.ret (.bl true):=by
 obtain⟨bd,W,hG,eb⟩:=t9 ns hl 0 5 (by decide) (by decide)
 have hg:=hG.brd
 have hs:bd.length*W<64:=by
  have:=Nat.mul_le_mul hG.r5 hG.w5
  omega
 refine a7 (ao (ρ':=gn (.scr ns) (brd bd) none none none none none none none none none) ((aM ((ak (ds:=[.scr ns, .int 0, .int 5]) rfl rfl).trans eb)).trans rfl) (ao (ρ':=gn (.scr ns) (brd bd) none none none none none none none none none) (gc (lL (FQ (n:=5) rfl (by decide)) (mK (body:=Ck) (fun (k:Nat)=>D.int (k:Int)) _ (List.range 5) fun k hk=>⟨_,rfl,vq ns hl hg hs k⟩))) (az rfl)))
end
end K1
namespace K1
open PySem PySem.Spec L2 L3
open PyProof.Rows hiding St
def DF(K:W.Frag)(x:Str)(s:Stmt):Prop:=∃(f:Addr) (oc:Value) (od an:Option Addr) (sl:Array (Option Value)) (kV dc pm cd ct:Value),PySem.W.nsIn K mainGlobals x=some (some (.ref f))∧K.lookup f=some ⟨oc,od, .func (PySem.W.fnOf x x (de s) (bD s) (ag s) .none kV dc pm an cd ct),sl⟩∧PySem.W.codeIn K cd x=true∧PySem.W.keepIn K (.ref f)=true
theorem DF.mk{K:W.Frag}{x:Str}{s:Stmt}{f:Addr}{oc:Value}{od an:Option Addr}{sl:Array (Option Value)}{kV dc pm cd ct:Value}(a:PySem.W.nsIn K mainGlobals x=some (some (.ref f)))(l:K.lookup f=some ⟨oc,od, .func (PySem.W.fnOf x x (de s) (bD s) (ag s) .none kV dc pm an cd ct),sl⟩)(c:PySem.W.codeIn K cd x=true)(k:PySem.W.keepIn K (.ref f)=true):DF K x s:=⟨f,oc,od,an,sl,kV,dc,pm,cd,ct,a,l,c,k⟩
theorem DF.at{K:W.Frag}{x:Str}{s:Stmt}{h:Heap}{mg:Str→Option Value}(X:K.In h)(G:h.Ns mainGlobals mg)(d:DF K x s):∃f,bx K mg x s f:=by
 obtain⟨f,oc,od,an,sl,kV,dc,pm,cd,ct,a,l,c,k⟩:=d
 exact⟨f,PySem.W.mg_of X G a,_,vN (st:=s) l c k⟩
theorem all_mk{P:Program}{w:World}{K:W.Frag}{h:Heap}{mg:Str→Option Value}{fa:Addr}(X:K.In h)(G:h.Ns mainGlobals mg)(HX:mg "law"=some (.ref fa))
 {gL:Addr}{rT kg:Option Addr}{sm:Array (Option Value)}{rS kM kx lC gH ku:Value}
 {u4:Tok}
 {qM:Tok}
 {lS:Tok}
 (d_is_whole:DF K "is_whole" gZ)
 (d_is_letter:DF K "is_letter" fO)
 (d_letter_of:DF K "letter_of" fR)
 (d_are_next:DF K "are_next" gY)
 (d_keyed:DF K "keyed" oT)
 (d_law_cell:DF K "_law_cell" g0)
 (d_is_row:DF K "is_row" iN)
 (d_is_cell:DF K "is_cell" jq)
 (d_need_ways:DF K "need_ways" fT)
 (d_next_cells:DF K "next_cells" fc)
 (d_law_drawn:DF K "_law_drawn" fQ)
 (d_is_board:DF K "is_board" dJ)
 (d_is_list_of_cells:DF K "is_list_of_cells" bI)
 (d_need_cell:DF K "need_cell" fS)
 (d_like_cells:DF K "like_cells" dh)
 (d_law_board:DF K "_law_board" d5)
 (d_law_cell_in:DF K "_law_cell_in" d_)
 (d_need_board:DF K "need_board" fb)
 (d_steps_back:DF K "steps_back" fe)
 (d_need_two_cells:DF K "need_two_cells" cR)
 (d_patch_of:DF K "patch_of" g6)
 (d_are_one:DF K "are_one" jo)
 (d_way:DF K "way" xb)
 (d_is_way:DF K "is_way" fP)
 (d_is_fence:DF K "is_fence" e_)
 (d_law_is_told:DF K "_law_is_told" ef)
 (a_law_k22:PySem.W.nsIn K mainGlobals "law"=some (some (.ref gL)))(l_law_k22:K.lookup gL=some ⟨rS,rT, .func (PySem.W.fnOf "law" "law" (de aJ) (bD aJ) (ag aJ) .none kM kx lC kg gH ku),sm⟩)(c_law_k22:PySem.W.codeIn K gH "law"=true)(k_law_k22:PySem.W.keepIn K (.ref gL)=true)
 (z_len:PySem.W.nsIn K mainGlobals "len"=some none)
 (z_isinstance:PySem.W.nsIn K mainGlobals "isinstance"=some none)
 (z_all:PySem.W.nsIn K mainGlobals "all"=some none)
 (z_abs:PySem.W.nsIn K mainGlobals "abs"=some none)
 (z_max:PySem.W.nsIn K mainGlobals "max"=some none)
 (z_min:PySem.W.nsIn K mainGlobals "min"=some none)
 (z_range:PySem.W.nsIn K mainGlobals "range"=some none)
 (z_str:PySem.W.nsIn K mainGlobals "str"=some none)
 (z_int:PySem.W.nsIn K mainGlobals "int"=some none)
 (z_bool:PySem.W.nsIn K mainGlobals "bool"=some none)
 (z_tuple:PySem.W.nsIn K mainGlobals "tuple"=some none)
 (z_list:PySem.W.nsIn K mainGlobals "list"=some none)
 (z_set:PySem.W.nsIn K mainGlobals "set"=some none)
 (z_sorted:PySem.W.nsIn K mainGlobals "sorted"=some none)
 (y_LETTERS:PySem.W.nsIn K mainGlobals "LETTERS"=some (some (.str "abcdef" u4)))
 (y_MOST_ROWS:PySem.W.nsIn K mainGlobals "MOST_ROWS"=some (some (.int 8 qM)))
 (y_MOST_COLUMNS:PySem.W.nsIn K mainGlobals "MOST_COLUMNS"=some (some (.int 8 lS))):
 ∃(cv:Nat→Value) (fd:FuncData),(∀(s:Shared) (u:Value),BindsTo s fd ⟨[u],[]⟩ [("_law_script",u)])∧∀base:Heap,K.In base→base.Ns mainGlobals mg→FnOk P w K mg base (nW P w cv) 8 fa fd ["_law_script"] (Ca K cv 1 f9):=by
 have ea:=HX.symm.trans (PySem.W.mg_of X G a_law_k22)
 cases ea
 refine⟨fun _=> .none,PySem.W.fnOf "law" "law" (de aJ) (bD aJ) (ag aJ) .none kM kx lC kg gH ku,fun s v=> .of_eq rfl,fun base KB GB=>?_⟩
 have B:Bl K mg base (fun _=> .none) (fun _=>mainGlobals) mainGlobals:=⟨PySem.W.mg_none_of X G z_len,PySem.W.mg_none_of X G z_isinstance,PySem.W.mg_none_of X G z_all,PySem.W.mg_none_of X G z_abs,PySem.W.mg_none_of X G z_max,PySem.W.mg_none_of X G z_min,PySem.W.mg_none_of X G z_range,PySem.W.mg_none_of X G z_str,PySem.W.mg_none_of X G z_int,PySem.W.mg_none_of X G z_bool,PySem.W.mg_none_of X G z_tuple,PySem.W.mg_none_of X G z_list,PySem.W.mg_none_of X G z_set,PySem.W.mg_none_of X G z_sorted,⟨_,PySem.W.mg_of X G y_LETTERS⟩,⟨_,PySem.W.mg_of X G y_MOST_ROWS⟩,⟨_,PySem.W.mg_of X G y_MOST_COLUMNS⟩⟩
 have k6:=(DF.at X G d_is_whole).elim fun _ t=>qi (P:=P) (w:=w) B t
 have qb:=(DF.at X G d_is_letter).elim fun _ t=>oy (P:=P) (w:=w) B t
 have jI:=(DF.at X G d_letter_of).elim fun _ t=>oB (P:=P) (w:=w) B t
 have kZ:=(DF.at X G d_are_next).elim fun _ t=>qf (P:=P) (w:=w) B t
 have yn:=(DF.at X G d_keyed).elim fun _ t=>wt (P:=P) (w:=w) B t
 have rQ:=(DF.at X G d_law_cell).elim fun _ t=>qj (P:=P) (w:=w) B t
 have wq:=(DF.at X G d_is_row).elim fun _ t=>uM (P:=P) (w:=w) B qb t
 have nr:=(DF.at X G d_is_cell).elim fun _ t=>rW (P:=P) (w:=w) B k6 t
 have jK:=(DF.at X G d_need_ways).elim fun _ t=>oD (P:=P) (w:=w) B k6 t
 have ou:=(DF.at X G d_next_cells).elim fun _ t=>me (P:=P) (w:=w) B kZ t
 have fK:=(DF.at X G d_law_drawn).elim fun _ t=>oA (P:=P) (w:=w) B rQ t
 have rO:=(DF.at X G d_is_board).elim fun _ t=>qg (P:=P) (w:=w) B wq t
 have dF:=(DF.at X G d_is_list_of_cells).elim fun _ t=>gm (P:=P) (w:=w) B nr t
 have jJ:=(DF.at X G d_need_cell).elim fun _ t=>oC (P:=P) (w:=w) B nr t
 have iz:=(DF.at X G d_like_cells).elim fun _ t=>ma (P:=P) (w:=w) B jI ou t
 have qd:=(DF.at X G d_law_board).elim fun _ t=>oz (P:=P) (w:=w) B fK t
 have l9:=(DF.at X G d_law_cell_in).elim fun _ t=>k7 (P:=P) (w:=w) B fK t
 have iA:=(DF.at X G d_need_board).elim fun _ t=>md (P:=P) (w:=w) B rO t
 have eY:=(DF.at X G d_steps_back).elim fun _ t=>mf (P:=P) (w:=w) B iz t
 have b5:=(DF.at X G d_need_two_cells).elim fun _ t=>iB (P:=P) (w:=w) B iA jK jJ t
 have rR:=(DF.at X G d_patch_of).elim fun _ t=>qk (P:=P) (w:=w) B iA jJ jK eY t
 have uK:=(DF.at X G d_are_one).elim fun _ t=>rV (P:=P) (w:=w) B b5 eY t
 have zT:=(DF.at X G d_way).elim fun _ t=>A5 (P:=P) (w:=w) B b5 eY t
 have qc:=(DF.at X G d_is_way).elim fun _ t=>uN (P:=P) (w:=w) B b5 jI dF kZ t
 have rP:=(DF.at X G d_is_fence).elim fun _ t=>qh (P:=P) (w:=w) B b5 yn dF iz t
 have l_:=(DF.at X G d_law_is_told).elim fun _ t=>k8 (P:=P) (w:=w) B qc zT t
 exact qe B qd l9 rR zT uK fK rP l_ qc (vN (st:=aJ) l_law_k22 c_law_k22 k_law_k22)
end K1
open PySem PySem.W PyProof.Rows
set_option maxHeartbeats 0 in
theorem PySem.Challenge.cw_cellpatches_k22_whole_fences_holds : PySem.Challenge.rw_cellpatches_k22_whole_fences.Holds := by
 w_on;o_law;k_head;(case hw=>w_witness2)
 k_fill
 refine L3.DZ (l:=PySem.Challenge.rw_cellpatches_k22_whole_fences) (k:=8) (n:=63) (x:="_law_script") (g:=K1.f9) rfl (by decide) rfl ⟨rfl,by decide,by decide⟩ (fun w h Y=>PySem.W.kIn_of Y) K1.wc ?F
 case F=>
  intro w mg fa h KX G Az
  refine' K1.all_mk KX G Az ?d_is_whole ?d_is_letter ?d_letter_of ?d_are_next ?d_keyed ?d_law_cell ?d_is_row ?d_is_cell ?d_need_ways ?d_next_cells ?d_law_drawn ?d_is_board ?d_is_list_of_cells ?d_need_cell ?d_like_cells ?d_law_board ?d_law_cell_in ?d_need_board ?d_steps_back ?d_need_two_cells ?d_patch_of ?d_are_one ?d_way ?d_is_way ?d_is_fence ?d_law_is_told ?a_law_k22 ?l_law_k22 ?c_law_k22 ?k_law_k22 ?z_len ?z_isinstance ?z_all ?z_abs ?z_max ?z_min ?z_range ?z_str ?z_int ?z_bool ?z_tuple ?z_list ?z_set ?z_sorted ?y_LETTERS ?y_MOST_ROWS ?y_MOST_COLUMNS
  (case d_is_whole=>(refine' K1.DF.mk ?a ?l ?c ?k;(case a=>k_is);(case l=>k_is);(case c=>k_is);(case k=>k_is)))
  (case d_is_letter=>(refine' K1.DF.mk ?a ?l ?c ?k;(case a=>k_is);(case l=>k_is);(case c=>k_is);(case k=>k_is)))
  (case d_letter_of=>(refine' K1.DF.mk ?a ?l ?c ?k;(case a=>k_is);(case l=>k_is);(case c=>k_is);(case k=>k_is)))
  (case d_are_next=>(refine' K1.DF.mk ?a ?l ?c ?k;(case a=>k_is);(case l=>k_is);(case c=>k_is);(case k=>k_is)))
  (case d_keyed=>(refine' K1.DF.mk ?a ?l ?c ?k;(case a=>k_is);(case l=>k_is);(case c=>k_is);(case k=>k_is)))
  (case d_law_cell=>(refine' K1.DF.mk ?a ?l ?c ?k;(case a=>k_is);(case l=>k_is);(case c=>k_is);(case k=>k_is)))
  (case d_is_row=>(refine' K1.DF.mk ?a ?l ?c ?k;(case a=>k_is);(case l=>k_is);(case c=>k_is);(case k=>k_is)))
  (case d_is_cell=>(refine' K1.DF.mk ?a ?l ?c ?k;(case a=>k_is);(case l=>k_is);(case c=>k_is);(case k=>k_is)))
  (case d_need_ways=>(refine' K1.DF.mk ?a ?l ?c ?k;(case a=>k_is);(case l=>k_is);(case c=>k_is);(case k=>k_is)))
  (case d_next_cells=>(refine' K1.DF.mk ?a ?l ?c ?k;(case a=>k_is);(case l=>k_is);(case c=>k_is);(case k=>k_is)))
  (case d_law_drawn=>(refine' K1.DF.mk ?a ?l ?c ?k;(case a=>k_is);(case l=>k_is);(case c=>k_is);(case k=>k_is)))
  (case d_is_board=>(refine' K1.DF.mk ?a ?l ?c ?k;(case a=>k_is);(case l=>k_is);(case c=>k_is);(case k=>k_is)))
  (case d_is_list_of_cells=>(refine' K1.DF.mk ?a ?l ?c ?k;(case a=>k_is);(case l=>k_is);(case c=>k_is);(case k=>k_is)))
  (case d_need_cell=>(refine' K1.DF.mk ?a ?l ?c ?k;(case a=>k_is);(case l=>k_is);(case c=>k_is);(case k=>k_is)))
  (case d_like_cells=>(refine' K1.DF.mk ?a ?l ?c ?k;(case a=>k_is);(case l=>k_is);(case c=>k_is);(case k=>k_is)))
  (case d_law_board=>(refine' K1.DF.mk ?a ?l ?c ?k;(case a=>k_is);(case l=>k_is);(case c=>k_is);(case k=>k_is)))
  (case d_law_cell_in=>(refine' K1.DF.mk ?a ?l ?c ?k;(case a=>k_is);(case l=>k_is);(case c=>k_is);(case k=>k_is)))
  (case d_need_board=>(refine' K1.DF.mk ?a ?l ?c ?k;(case a=>k_is);(case l=>k_is);(case c=>k_is);(case k=>k_is)))
  (case d_steps_back=>(refine' K1.DF.mk ?a ?l ?c ?k;(case a=>k_is);(case l=>k_is);(case c=>k_is);(case k=>k_is)))
  (case d_need_two_cells=>(refine' K1.DF.mk ?a ?l ?c ?k;(case a=>k_is);(case l=>k_is);(case c=>k_is);(case k=>k_is)))
  (case d_patch_of=>(refine' K1.DF.mk ?a ?l ?c ?k;(case a=>k_is);(case l=>k_is);(case c=>k_is);(case k=>k_is)))
  (case d_are_one=>(refine' K1.DF.mk ?a ?l ?c ?k;(case a=>k_is);(case l=>k_is);(case c=>k_is);(case k=>k_is)))
  (case d_way=>(refine' K1.DF.mk ?a ?l ?c ?k;(case a=>k_is);(case l=>k_is);(case c=>k_is);(case k=>k_is)))
  (case d_is_way=>(refine' K1.DF.mk ?a ?l ?c ?k;(case a=>k_is);(case l=>k_is);(case c=>k_is);(case k=>k_is)))
  (case d_is_fence=>(refine' K1.DF.mk ?a ?l ?c ?k;(case a=>k_is);(case l=>k_is);(case c=>k_is);(case k=>k_is)))
  (case d_law_is_told=>(refine' K1.DF.mk ?a ?l ?c ?k;(case a=>k_is);(case l=>k_is);(case c=>k_is);(case k=>k_is)))
  (case a_law_k22=>k_is)
  (case l_law_k22=>k_is)
  (case c_law_k22=>k_is)
  (case k_law_k22=>k_is)
  (case z_len=>k_is)
  (case z_isinstance=>k_is)
  (case z_all=>k_is)
  (case z_abs=>k_is)
  (case z_max=>k_is)
  (case z_min=>k_is)
  (case z_range=>k_is)
  (case z_str=>k_is)
  (case z_int=>k_is)
  (case z_bool=>k_is)
  (case z_tuple=>k_is)
  (case z_list=>k_is)
  (case z_set=>k_is)
  (case z_sorted=>k_is)
  (case y_LETTERS=>k_is)
  (case y_MOST_ROWS=>k_is)
  (case y_MOST_COLUMNS=>k_is)
