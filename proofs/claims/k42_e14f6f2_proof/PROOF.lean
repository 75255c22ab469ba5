import PyProof.Rows.All
import Wide.All
import OpenK.AllK
import Wide.FinOn
import Lean
import PyProof.EqAt
import PyProof.EqKinds
import PyProof.TupleCall
import KE.KIntText
import KE.KRevIter
import PySem.Challenge.RW_commonform_k42_widest_that_doubles
set_option Elab.async false
set_option linter.all false
set_option maxRecDepth 100000
namespace L2
open PySem PySem.Spec PyProof.Rows
noncomputable abbrev Key:=Sum Int Str
noncomputable def jk:Key→Value→Bool
 |.inl k,v=>Value.isInt k v
 |.inr x,v=>Value.isStrOf x v
noncomputable def HA (w:World):Key→Int
 |.inl k=>hashInt k
 |.inr x=>hashStr w x
theorem eA:∀{k:Key} {v:Value},jk k v=true→(∃i t,k=Sum.inl i∧v=Value.int i t)∨(∃x t,k=Sum.inr x∧v=Value.str x t)
 |.inl i,v,h=>by
  obtain ⟨t,e⟩:=Value.isInt_shape (k:=i) (v:=v) h
  exact .inl ⟨i,t,rfl,e⟩
 |.inr x,v,h=>by
  obtain ⟨t,e⟩:=Value.isStrOf_shape (x:=x) (v:=v) h
  exact .inr ⟨x,t,rfl,e⟩
theorem zW (i:Int) (t:Tok):jk (.inl i) (.int i t)=true:=by simp [jk,Value.isInt]
theorem EI (x:Str) (t:Tok):jk (.inr x) (.str x t)=true:=by simp [jk,Value.isStrOf]
theorem xQ (a b:Int):decide ((Sum.inl a:Key)=Sum.inl b)=(a ==b):=by
 by_cases e:a=b
 ·subst e;simp
 ·have h:¬(Sum.inl a:Key)=Sum.inl b:=fun q=>e (Sum.inl.inj q)
  rw [decide_eq_false h]
  exact (beq_eq_false_iff_ne.mpr e).symm
theorem Hx (a b:Str):decide ((Sum.inr a:Key)=Sum.inr b)=decide (a=b):=by
 by_cases e:a=b
 ·subst e;simp
 ·have h:¬(Sum.inr a:Key)=Sum.inr b:=fun q=>e (Sum.inr.inj q)
  rw [decide_eq_false h,decide_eq_false e]
theorem y7 (a:Int) (b:Str):decide ((Sum.inl a:Key)=Sum.inr b)=false:=decide_eq_false (fun q=>nomatch q)
theorem CD (a:Str) (b:Int):decide ((Sum.inr a:Key)=Sum.inl b)=false:=decide_eq_false (fun q=>nomatch q)
noncomputable def ck (prog:Program) (w:World):PySem.KeyKind prog w Key where
 is:=jk
 hash:=HA w
 inj:=fun v a b ha hb=>by
  rcases eA ha with ⟨i,t,rfl,rfl⟩|⟨x,t,rfl,rfl⟩
  ·rcases eA hb with ⟨j,u,rfl,e⟩|⟨y,u,rfl,e⟩
   ·injection e with e1 _;rw [e1]
   ·exact nomatch e
  ·rcases eA hb with ⟨j,u,rfl,e⟩|⟨y,u,rfl,e⟩
   ·exact nomatch e
   ·injection e with e1 _;rw [e1]
 byValue:=fun k v h=>by
  rcases eA h with ⟨i,t,rfl,rfl⟩|⟨x,t,rfl,rfl⟩<;>rfl
 pyHash:=fun hv h=>by
  rcases eA hv with ⟨i,t,rfl,rfl⟩|⟨x,t,rfl,rfl⟩
  ·exact wpAny_pyHash_int h
  ·exact wpAny_pyHash_str h
 eqBool:=fun hu hv h=>by
  rcases eA hu with ⟨i,t,rfl,rfl⟩|⟨x,t,rfl,rfl⟩
  ·rcases eA hv with ⟨j,u,rfl,rfl⟩|⟨y,u,rfl,rfl⟩
   ·rw [xQ] at h;exact wpAny_eqBool_int h
   ·rw [y7] at h;exact SeqAt.EqAt.int_str i t y u _ _ _ _ h
  ·rcases eA hv with ⟨j,u,rfl,rfl⟩|⟨y,u,rfl,rfl⟩
   ·rw [CD] at h;exact SeqAt.EqAt.str_int x t j u _ _ _ _ h
   ·rw [Hx] at h;exact wpAny_eqBool_str h
 «strs»:=fun k x t v h=>by
  rcases eA h with ⟨i,u,rfl,e⟩|⟨y,u,rfl,e⟩
  ·exact nomatch e
  ·injection e with e1 _
   subst e1
   cases v<;>rfl
theorem ql (prog:Program) (w:World) (i:Int) (t:Tok):(ck prog w).is (.inl i) (.int i t)=true:=zW i t
theorem pW (prog:Program) (w:World) (x:Str) (t:Tok):(ck prog w).is (.inr x) (.str x t)=true:=EI x t
end L2
namespace L2
open PySem PySem.Spec PyProof.Rows
inductive V where
 |non|bl (b:Bool)|int (i:Int)|str (x:Str)|byt (b:Array UInt8)|flt (b:UInt64)|ref (a:Addr)|ty (n:String)
 deriving DecidableEq
noncomputable def RelV:V→Value→Prop
 |.non,u=>u=Value.none
 |.bl b,u=>u=Value.bool b
 |.int i,u=>∃t,u=Value.int i t
 |.str x,u=>∃t,u=Value.str x t
 |.byt b,u=>∃t,u=Value.bytes b t
 |.flt b,u=>∃t,u=Value.float b t
 |.ref a,u=>u=Value.ref a
 |.ty n,u=>u=Value.type n
noncomputable abbrev Vals:List V→List Value→Prop:=Paired RelV
theorem Vals.length {xs:List V} {us:List Value} (r:Vals xs us):xs.length=us.length:=Paired.length r
theorem Vals.get:∀{xs:List V} {us:List Value} {i:Nat} {x:V},Vals xs us→xs[i]?=some x→∃u,us[i]?=some u∧RelV x u
 |_,_,_,_,.nil,e=>by simp at e
 |_,_,0,_,.cons r _,e=>by simp at e;subst e;exact ⟨_,rfl,r⟩
 |_,_,i+1,x,.cons _ t,e=>by
  obtain ⟨u,h1,h2⟩:=Vals.get (i:=i) (x:=x) t (by simpa using e)
  exact ⟨u,by simpa using h1,h2⟩
theorem Vals.set {x:V} {u:Value} (r:RelV x u):∀{xs:List V} {us:List Value} (i:Nat),Vals xs us→Vals (xs.set i x) (us.set i u)
 |_,_,_,.nil=>.nil
 |_,_,0,.cons _ t=>.cons r t
 |_,_,i+1,.cons q t=>.cons q (Vals.set r i t)
theorem Vals.append {xs ys:List V} {us ws:List Value} (h:Vals xs us) (s:Vals ys ws):Vals (xs++ys) (us++ws):=by
 induction h with
 |nil=>exact s
 |cons r t ih=>exact .cons r ih
theorem Vals.take {xs:List V} {us:List Value} (n:Nat) (h:Vals xs us):Vals (xs.take n) (us.take n):=by
 induction h generalizing n with
 |nil=>cases n<;>exact .nil
 |cons r t ih=>cases n with
  |zero=>exact .nil
  |succ n=>exact .cons r (ih n)
theorem Vals.drop {xs:List V} {us:List Value} (n:Nat) (h:Vals xs us):Vals (xs.drop n) (us.drop n):=by
 induction h generalizing n with
 |nil=>cases n<;>exact .nil
 |cons r t ih=>cases n with
  |zero=>exact .cons r t
  |succ n=>exact ih n
noncomputable def cK:Option V→Option Value→Prop
 |some v,some u=>RelV v u
 |none,none=>True
 |_,_=>False
noncomputable def KV {κ:Type}:List (κ×V)→List (κ×Value)→Prop:=Paired fun (p:κ×V) (q:κ×Value)=>p.1=q.1∧RelV p.2 q.2
noncomputable def kV:Key→V
 |.inl i=>.int i
 |.inr x=>.str x
inductive HO where
 |lst (xs:List V)
 |tup (xs:List V)
 |dK (ae:List (Key×V))|dT (ae:List (List Key×V))
 |set (S:Int→Bool) (n:Nat)
 |ins (C dx:Addr) (fs:List (Str×V))
 |own (x:Addr)
 |xd (fs:List (Str×V))
 |met (f x:Addr)
 |rng (lo hi:Int)
 |frz (o:Obj) (u:HO)
 |tbl (ps:Array Value)
 |ext (φ:Heap→Prop)
noncomputable abbrev Hp:=Addr→Option HO
noncomputable def upd (H:Hp) (a:Addr) (o:HO):Hp:=fun b=>if b=a then some o else H b
theorem bV {H:Hp} {a:Addr} {o:HO}:upd H a o a=some o:=by unfold upd;rw [if_pos rfl]
theorem aK {H:Hp} {a b:Addr} {o:HO} (h:b≠a):upd H a o b=H b:=by unfold upd;rw [if_neg h]
theorem fY {H:Hp} {a b:Addr} {o u:HO} (h:H a=some o) (h':H b=some u) (d:o≠u):a≠b:=by
 intro e;subst e;rw [h] at h';exact d (Option.some.inj h')
theorem gh {H:Hp} {a b:Addr} {o:HO} (h:H a=some o) (h':H b=none):a≠b:=by
 intro e;subst e;rw [h] at h';cases h'
section
variable (P:Program) (w:World)
noncomputable def bS (H:Hp) (h:Heap) (a:Addr):HO→Prop
 |.lst xs=>xs.length≤sizeLine∧∃(ai:List Value) (n:Nat),Vals xs ai∧h.get? a=some { cls:=.type "list",data:=.seq ai.toArray n }
 |.tup xs=>xs.length≤sizeLine∧∃ai:List Value,Vals xs ai∧IsTup h a ai.toArray
 |.dK ae=>ae.length≤sizeLine∧(a ==sysModules)=false∧∃vs,KV ae vs∧h.DictOf (ck P w) a vs
 |.dT ae=>ae.length≤sizeLine∧(a ==sysModules)=false∧∃xs:List (List Key×Addr×Value),
   Paired (fun (p:List Key×V) (q:List Key×Addr×Value)=>p.1=q.1∧H q.2.1=some (.tup (p.1.map kV))∧RelV p.2 q.2.2) ae xs ∧
   ∃o es ep,h.get? a=some o∧o.ExactDict∧o.data=.dict es ep∧es.toList=xs.map (entryOfKey (tupleKind (ck P w)))∧(xs.map (·.1)).Nodup
 |.set S n=>h.SetOf (intKind P w) a S n
 |.ins C dx fs=>H dx=some (.own a)∧fs.length≤1000∧dx≠a∧h.get? a=some (PySem.W.instObj C dx) ∧
   ∃mA,h.Ns1 dx mA∧(∀f,cK (fs.lookup f) (mA f))∧PySem.Within mA (fs.map (·.1))
 |.own _=>∃o,h.get? a=some o
 |.xd fs=>∃mA,h.Ns1 a mA∧∀f,cK (fs.lookup f) (mA f)
 |.rng lo hi=>∃t u v,h.get? a=some { cls:=.type "range",data:=.fields #[.int lo t,.int hi u,.int 1 v] }
 |.frz o u=>h.get? a=some o∧bS H h a u
 |.tbl ps=>h.get? a=some { cls:=.none,data:=.fields ps }
 |.met f x=>h.get? a=some (PySem.W.methodObj (.ref f) (.ref x))
 |.ext φ=>φ h∧(∃o,h.get? a=some o)∧∀h1 h2:Heap,φ h1→(∀o,h1.get? a=some o→h2.get? a=some o)→φ h2
noncomputable def bM (H:Hp) (h:Heap):Prop:=∀a o,H a=some o→bS P w H h a o
end
section
variable {P:Program} {w:World} {H H':Hp} {h h':Heap} {a:Addr} {o:HO}
theorem bS.lt (x:bS P w H h a o):a < h.objs.size:=by
 cases o with
 |lst xs=>obtain ⟨_,_,_,_,e⟩:=x;exact Heap.lt_size e
 |tup xs=>obtain ⟨_,_,_,p⟩:=x;exact p.lt
 |dK ae=>obtain ⟨_,_,_,_,o,_,_,e,_⟩:=x;exact Heap.lt_size e
 |dT ae=>obtain ⟨_,_,_,_,o,_,_,e,_⟩:=x;exact Heap.lt_size e
 |set S n=>obtain ⟨o,_,_,_,e,_⟩:=x;exact Heap.lt_size e
 |ins C dx fs=>obtain ⟨_,_,_,e,_⟩:=x;exact Heap.lt_size e
 |own y=>obtain ⟨_,e⟩:=x;exact Heap.lt_size e
 |xd fs=>obtain ⟨_,⟨_,_,_,e,_⟩,_⟩:=x;exact Heap.lt_size e
 |rng lo hi=>obtain ⟨_,_,_,e⟩:=x;exact Heap.lt_size e
 |frz ob u=>obtain ⟨e,_⟩:=x;exact Heap.lt_size e
 |tbl ps=>exact Heap.lt_size (show h.get? a=some _ from x)
 |met f y=>exact Heap.lt_size (show h.get? a=some _ from x)
 |ext φ=>obtain ⟨_,⟨_,e⟩,_⟩:=x;exact Heap.lt_size e
theorem Paired.mapP {α β:Type} {F G:α→β→Prop} {l₁:List α} {l₂:List β} (h:Paired F l₁ l₂) (f:∀a b,F a b→G a b):Paired G l₁ l₂:=by
 induction h with
 |nil=>exact .nil
 |cons r t ih=>exact .cons (f _ _ r) ih
theorem bS.stay (x:bS P w H h a o) (k:∀b u,(b=a∨H b=some (.own a))→h.get? b=some u→h'.get? b=some u)
  (ho:∀b,H b=some (.own a)→H' b=some (.own a)) (ht:∀b xs,H b=some (.tup xs)→H' b=some (.tup xs)):bS P w H' h' a o:=by
 induction o with
 |lst xs=>obtain ⟨z,ai,n,r,e⟩:=x;exact ⟨z,ai,n,r,k _ _ (.inl rfl) e⟩
 |tup xs=>obtain ⟨z,ai,r,ob,e,c⟩:=x;exact ⟨z,ai,r,ob,k _ _ (.inl rfl) e,c⟩
 |dK ae=>obtain ⟨z,y,vs,r,ob,es,ep,e,c⟩:=x;exact ⟨z,y,vs,r,ob,es,ep,k _ _ (.inl rfl) e,c⟩
 |dT ae =>
  obtain ⟨z,y,xs,r,ob,es,ep,e,c⟩:=x
  exact ⟨z,y,xs,Paired.mapP r fun p q z=>⟨z.1,ht _ _ z.2.1,z.2.2⟩,ob,es,ep,k _ _ (.inl rfl) e,c⟩
 |set S n=>obtain ⟨ob,es,ep,t,e,c⟩:=x;exact ⟨ob,es,ep,t,k _ _ (.inl rfl) e,c⟩
 |ins C dx fs =>
  obtain ⟨d,z,ne,e,mA,⟨od,es,ep,e2,c⟩,r⟩:=x
  exact ⟨ho _ d,z,ne,k _ _ (.inl rfl) e,mA,⟨od,es,ep,k _ _ (.inr d) e2,c⟩,r⟩
 |own y=>obtain ⟨ob,e⟩:=x;exact ⟨ob,k _ _ (.inl rfl) e⟩
 |xd fs=>obtain ⟨mA,⟨od,es,ep,e,c⟩,r⟩:=x;exact ⟨mA,⟨od,es,ep,k _ _ (.inl rfl) e,c⟩,r⟩
 |rng lo hi=>obtain ⟨t,u,v,e⟩:=x;exact ⟨t,u,v,k _ _ (.inl rfl) e⟩
 |frz ob u ih=>obtain ⟨e,q⟩:=x;exact ⟨k _ _ (.inl rfl) e,ih q⟩
 |tbl ps =>
  have e:h.get? a=some { cls:=.none,data:=.fields ps }:=x
  show h'.get? a=some { cls:=.none,data:=.fields ps }
  exact k a _ (.inl rfl) e
 |met f y =>
  have e:h.get? a=some (PySem.W.methodObj (.ref f) (.ref y)):=x
  show h'.get? a=some (PySem.W.methodObj (.ref f) (.ref y))
  exact k a _ (.inl rfl) e
 |ext φ=>obtain ⟨p,⟨o,e⟩,st⟩:=x;exact ⟨st _ _ p fun o q=>k _ _ (.inl rfl) q,⟨o,k _ _ (.inl rfl) e⟩,st⟩
theorem bM.lt (x:bM P w H h) (e:H a=some o):a < h.objs.size:=(x a o e).lt
theorem bM.fresh (x:bM P w H h) (e:h.objs.size≤a):H a=none:=by
 cases q:H a with
 |none=>rfl
 |some u=>exact absurd (Nat.lt_of_lt_of_le (x.lt q) e) (Nat.lt_irrefl _)
theorem bM.kept (x:bM P w H h) (k:∀b u,h.get? b=some u→h'.get? b=some u):bM P w H h':=fun a o e =>
 (x a o e).stay (fun b u _ q=>k b u q) (fun _ q=>q) fun _ _ q=>q
theorem bM.laid (x:bM P w H h) (k:∀b u,h.get? b=some u→h'.get? b=some u) (hp:h.objs.size≤a) (new:bS P w (upd H a o) h' a o):bM P w (upd H a o) h':=fun b u e=>by
 have hn:=x.fresh hp
 by_cases hb:b=a
 ·subst hb;rw [bV] at e;cases e;exact new
 ·rw [aK hb] at e
  exact (x b u e).stay (fun c v _ q=>k c v q) (fun c q=>by rw [aK (gh q hn)];exact q) fun c xs q=>by rw [aK (gh q hn)];exact q
end
noncomputable def Rd (H:Hp) (a:Addr) (u:HO):Prop:=H a=some u∨∃o,H a=some (.frz o u)
theorem Rd.ok {P:Program} {w:World} {H:Hp} {h:Heap} {a:Addr} {u:HO} (r:Rd H a u) (x:bM P w H h):bS P w H h a u:=by
 rcases r with r|⟨o,r⟩
 ·exact x a u r
 ·obtain ⟨_,q⟩:=x a _ r
  exact q
noncomputable def kd:Option HO→Prop
 |some (.lst _)=>True
 |some (.dK _)=>True
 |some (.dT _)=>True
 |some (.set _ _)=>True
 |some (.ins _ _ _)=>True
 |some (.ext _)=>True
 |_=>False
section
variable {P:Program} {w:World} {H:Hp} {h h':Heap} {x e:Addr} {o':HO}
theorem bM.write (ok:bM P w H h) (mu:kd (H x)) (he:e=x∨H e=some (.own x)) (k:∀b u,b≠e→h.get? b=some u→h'.get? b=some u) (heo:∃u,h'.get? e=some u)
  (new:bS P w (upd H x o') h' x o'):bM P w (upd H x o') h':=fun b u q=>by
 have nown:∀c y,H c=some (.own y)→c≠x:=fun c y r z=>by subst z;rw [r] at mu;exact mu
 have ntup:∀c xs,H c=some (.tup xs)→c≠x:=fun c xs r z=>by subst z;rw [r] at mu;exact mu
 by_cases hb:b=x
 ·subst hb;rw [bV] at q;cases q;exact new
 ·rw [aK hb] at q
  by_cases hbe:b=e
  ·have q':H b=some (.own x):=by
    rcases he with z|z
    ·exact absurd (hbe.trans z) hb
    ·rw [hbe];exact z
   rw [q] at q';cases q'
   obtain ⟨v,hv⟩:=heo
   exact ⟨v,by rw [hbe];exact hv⟩
  ·refine (ok b u q).stay (fun c v hc r=>k c v ?_ r) (fun c r=>by rw [aK (nown c b r)];exact r) fun c xs r=>by rw [aK (ntup c xs r)];exact r
   rcases hc with rfl|hc
   ·exact hbe
   ·rintro rfl
    rcases he with z|z
    ·exact nown c b hc z
    ·rw [hc] at z;cases z;exact hb rfl
end
structure Un (fs ex:List Addr) (H H':Hp) (h h':Heap):Prop where
 keep:∀b o,h.get? b=some o→H b=none→b ∉ fs→b ∉ ex→h'.get? b=some o
 slot:∀b o,h.get? b=some o→H b=none→b∈fs→b ∉ ex→∃sl,h'.get? b=some { o with slots:=sl }
 free:∀b o,h.get? b=some o→H b=none→b ∉ ex→H' b=none
 there:∀b o,h.get? b=some o→b ∉ ex→∃o',h'.get? b=some o'
 tups:∀b xs,H b=some (.tup xs)→H' b=some (.tup xs)
 frzs:∀b o u,H b=some (.frz o u)→H' b=some (.frz o u)
 tbls:∀b ps,H b=some (.tbl ps)→∃more,H' b=some (.tbl (ps++more))
section
variable {fs fs' ex ex':List Addr} {H H1 H2:Hp} {h h1 h2 h':Heap} {a x e:Addr} {o:HO}
theorem Un.any (u:Un fs ex H H1 h h1) {b:Addr} {ob:Obj} (q:h.get? b=some ob) (n:H b=none) (hx:b ∉ ex):∃sl,h1.get? b=some { ob with slots:=sl }:=by
 by_cases hb:b∈fs
 ·exact u.slot b ob q n hb hx
 ·exact ⟨ob.slots,u.keep b ob q n hb hx⟩
theorem Un.kept (k:∀b u,h.get? b=some u→h'.get? b=some u):Un fs ex H H h h' :=
 ⟨fun b ob q _ _ _=>k b ob q,fun b ob q _ _ _=>⟨ob.slots,k b ob q⟩,fun _ _ _ n _=>n,fun b ob q _=>⟨ob,k b ob q⟩,fun _ _ q=>q,fun _ _ _ q=>q,fun _ ps q=>⟨#[],by rw [q];simp⟩⟩
theorem Un.refl:Un fs ex H H h h:=Un.kept fun _ _ q=>q
theorem Un.laid (k:∀b u,h.get? b=some u→h'.get? b=some u) (hp:h.objs.size≤a) (hn:H a=none):Un fs ex H (upd H a o) h h' where
 keep:=fun b u q _ _ _=>k b u q
 slot:=fun b u q _ _ _=>⟨u.slots,k b u q⟩
 free:=fun b u q n _=>by rw [aK (Nat.ne_of_lt (Nat.lt_of_lt_of_le (Heap.lt_size q) hp))];exact n
 there:=fun b u q _=>⟨u,k b u q⟩
 tups:=fun b xs q=>by rw [aK (gh q hn)];exact q
 frzs:=fun b u xs q=>by rw [aK (gh q hn)];exact q
 tbls:=fun b ps q=>⟨#[],by rw [aK (gh q hn),q];simp⟩
theorem Un.write (mu:kd (H x)) (he:e=x∨H e=some (.own x)) (k:∀b u,b≠e→h.get? b=some u→h'.get? b=some u) (heo:∃u,h'.get? e=some u):Un fs ex H (upd H x o) h h':=by
 have hx:∀b,H b=none→b≠x:=fun b n z=>by subst z;rw [n] at mu;exact mu
 have hb:∀b,H b=none→b≠e:=fun b n z=>by
  subst z
  rcases he with r|r
  ·exact hx b n r
  ·rw [n] at r;cases r
 have hm:∀b u,H b=some u→¬kd (some u)→b≠x:=fun b u q nm z=>by subst z;rw [q] at mu;exact nm mu
 refine ⟨fun b u q n _ _=>k b u (hb b n) q,fun b u q n _ _=>⟨u.slots,k b u (hb b n) q⟩,fun b u q n _=>by rw [aK (hx b n)];exact n,fun b u q _=>?_,
  fun b xs q=>by rw [aK (hm b _ q fun z=>z)];exact q,fun b u xs q=>by rw [aK (hm b _ q fun z=>z)];exact q,fun b ps q=>⟨#[],by rw [aK (hm b _ q fun z=>z),q];simp⟩⟩
 by_cases hbe:b=e
 ·subst hbe;exact heo
 ·exact ⟨u,k b u hbe q⟩
end
noncomputable def dC (h:Heap) (H:Hp):List Addr:=(List.range h.objs.size).filter fun a=>(H a).isSome
noncomputable def fJ (h:Heap) (H:Hp):Heap:=PySem.W.hideAll h (dC h H)
theorem CQ (h:Heap) (H:Hp):(fJ h H).objs.size=h.objs.size:=PySem.W.hideAll_size _ _
theorem BS {h:Heap} {H:Hp} {b:Addr} {o:Obj} (e:h.get? b=some o) (n:H b=none):(fJ h H).get? b=some o :=
 PySem.W.hideAll_get _ e fun hm=>by
  have q:(H b).isSome=true:=(List.mem_filter.mp hm).2
  rw [n] at q;simp at q
theorem Cs {h:Heap} {H:Hp} {b:Addr} {o:Obj} (e:(fJ h H).get? b=some o):h.get? b=some o∧H b=none:=by
 have e':h.get? b=some o:=PySem.W.of_hideAll (dC h H) e
 refine ⟨e',?_⟩
 cases q:H b with
 |none=>rfl
 |some x =>
  have hm:b∈dC h H:=List.mem_filter.mpr ⟨List.mem_range.mpr (Heap.lt_size e'),by simp [q]⟩
  have z:(fJ h H).get? b=none:=PySem.W.hideAll_none (dC h H) hm
  rw [z] at e;cases e
noncomputable def EB (g h:Heap) (L:Addr):List (Addr×Obj):=(List.range h.objs.size).filterMap fun a=>if a=L∨(g.get? a).isSome=true then none else (h.get? a).map fun o=>(a,o)
noncomputable def rest (g h:Heap) (L d:Addr):List (Addr×Obj):=(EB g h L).filter fun p=>decide (p.1≠d)
end L2
namespace L2
open PySem PySem.Spec PyProof.Rows
structure Mod (K:PySem.W.Frag) (mg:Str→Option Value) (base:Heap):Prop where
 kin:K.In base
 glob:base.Ns mainGlobals mg
 blt:∃mb,base.Ns builtinsNs mb∧∀x:Str,x≠ "__name__" → mb x=bootBuiltins x
 nolimit:base.NoLimit
structure Cx where
 prog:Program
 w:World
 K:PySem.W.Frag
 mg:Str→Option Value
 base:Heap
 A:Around
 N:List Str
 s₀:Shared
 H₀:Hp
 env:Env
 outer:List Env
 stack:List Env
 ex:List Addr
 fn:Str→Bool
 calm:Bool
 pn:List (Addr×Obj)
 xe:Value→Shared→Prop
noncomputable def bw (l:List Env):List Addr:=l.filterMap (·.frame)
noncomputable abbrev Cx.fs (X:Cx):List Addr:=bw X.outer
noncomputable def kE (sc:Scope) (x:Str):Prop:=sc.names.lookup x=some .local∨sc.names.lookup x=some .cell∨sc.names.lookup x=some .free
noncomputable def Loc (sc:Scope) (x:Str):Prop:=sc.names.lookup x=some .local∨sc.names.lookup x=some .cell
noncomputable def Look (env:Env) (h:Heap) (m:Str→Option Value) (x:Str) (u:Value):Prop :=
 (env.kindOf x=some .local∧m x=some u)∨((env.kindOf x=some .cell∨env.kindOf x=some .free)∧∃c,env.cells.lookup x=some c∧h.IsCell c (some u))
structure Cx.Ok (X:Cx):Prop where
 mod:Mod X.K X.mg X.base
 kind:X.env.scope.kind=.function
 glob:X.env.globals=mainGlobals
 blt:X.env.builtins=builtinsNs
 above:X.s₀.heap.objs.size≤X.env.locals
 inj:∀x y c,X.env.cells.lookup x=some c→X.env.cells.lookup y=some c→x=y
 has:∀x,(X.env.kindOf x=some .cell∨X.env.kindOf x=some .free)→∃c,X.env.cells.lookup x=some c
 cab:∀x c,X.fn x=true→X.env.cells.lookup x=some c→X.s₀.heap.objs.size≤c
 hd:X.calm=true→X.A.handled=none
 frames:X.A.frames=some X.stack
 stk:X.stack=X.outer∨(X.stack=X.env::X.outer∧X.env.frame=some X.env.locals)
 exf:∀b∈X.ex,b≠X.env.locals∧∀x c,X.env.cells.lookup x=some c→c≠b
 bs:∀b o,X.base.get? b=some o→X.s₀.heap.get? b=some o∧X.H₀ b=none
 bsz:X.base.objs.size≤X.s₀.heap.objs.size
 noex:∀b o,X.base.get? b=some o→b ∉ X.ex
 exfs:∀b∈X.ex,b ∉ X.fs
 funs:X.s₀.heap.FunFrames X.base X.outer
 frf:∀b∈X.fs,X.H₀ b=none
structure Inv (X:Cx) (aa:List (Addr×Obj)) (σ:List (Option V)) (H:Hp) (s:Shared):Prop where
 ok:X.Ok
 os:s.os=X.s₀.os
 bare:AllBare s.gens
 base:Un X.fs X.ex X.H₀ H X.s₀.heap s.heap
 loc:∃m,s.heap.Ns X.env.locals m∧∀(i:Nat) (x:Str) (v:V),X.N[i]?=some x→σ[i]?=some (some v)→kE X.env.scope x→∃u,RelV v u∧Look X.env s.heap m x u
 cell:∀x c,X.env.cells.lookup x=some c→∃v,s.heap.IsCell c v
 free:H X.env.locals=none
 freeC:∀x c,X.env.cells.lookup x=some c→H c=none
 pin:∀p∈X.pn++aa,s.heap.get? p.1=some p.2∧H p.1=none∧p.1≠X.env.locals∧p.1 ∉ X.fs∧∀v,p.2.data≠.cell v
 ao:bM X.prog X.w H s.heap
 len:σ.length=X.N.length
section
variable {X:Cx} {aa:List (Addr×Obj)} {σ:List (Option V)} {H H':Hp} {s:Shared} {h':Heap}
theorem Cx.Ok.nofr (ok:X.Ok) {b:Addr} {o:Obj} (e:X.base.get? b=some o):b ∉ X.fs:=fun hb=>by
 have:=(ok.funs.mem hb).1
 rw [e] at this;cases this
theorem Inv.bs (I:Inv X aa σ H s):∀b o,X.base.get? b=some o→s.heap.get? b=some o∧H b=none:=fun b o e =>
 ⟨I.base.keep b o (I.ok.bs b o e).1 (I.ok.bs b o e).2 (I.ok.nofr e) (I.ok.noex b o e),I.base.free b o (I.ok.bs b o e).1 (I.ok.bs b o e).2 (I.ok.noex b o e)⟩
theorem Inv.bk (I:Inv X aa σ H s):∀b o,X.base.get? b=some o→s.heap.get? b=some o:=fun b o e=>(I.bs b o e).1
theorem Inv.mod (I:Inv X aa σ H s):Mod X.K X.mg X.base:=I.ok.mod
theorem Inv.kIn (I:Inv X aa σ H s):X.K.In s.heap:=I.ok.mod.kin.keeps I.bk
theorem Inv.lt (I:Inv X aa σ H s):X.env.locals < s.heap.objs.size:=let ⟨_,hn,_⟩:=I.loc;hn.lt
theorem Inv.sz (I:Inv X aa σ H s):X.s₀.heap.objs.size≤s.heap.objs.size:=Nat.le_trans I.ok.above (Nat.le_of_lt I.lt)
theorem Inv.nofs (I:Inv X aa σ H s) {a:Addr} (h:s.heap.objs.size≤a):a ∉ X.fs:=fun hb=>by
 obtain ⟨_,o,ho,_⟩:=I.ok.funs.mem hb
 exact absurd (Nat.lt_of_lt_of_le (Heap.lt_size ho) (Nat.le_trans I.sz h)) (Nat.lt_irrefl _)
theorem Inv.cne (I:Inv X aa σ H s):∀x c,X.env.cells.lookup x=some c→c≠X.env.locals:=fun x c e z=>by
 obtain ⟨v,o,ho,hd⟩:=I.cell x c e
 obtain ⟨m,⟨o',es,ep,ho',hd',_⟩,_⟩:=I.loc
 rw [z,ho'] at ho;cases ho;rw [hd'] at hd;cases hd
theorem Inv.funs (I:Inv X aa σ H s):s.heap.FunFrames X.base X.outer:=by
 have all:∀(l:List Env),(∀b∈bw l,b∈X.fs)→X.s₀.heap.FunFrames X.base l→s.heap.FunFrames X.base l:=by
  intro l
  induction l with
  |nil=>intro _ _;trivial
  |cons env r ih =>
   intro hs hl
   obtain ⟨hk,⟨L,o,hf,hn,ho,hd⟩,hr⟩:=hl
   have hL:L∈X.fs:=hs L (by unfold bw;rw [List.filterMap_cons,hf];exact List.mem_cons_self)
   obtain ⟨sl,e⟩:=I.base.slot L o ho (I.ok.frf L hL) hL fun z=>I.ok.exfs L z hL
   exact ⟨hk,⟨L,_,hf,hn,e,hd⟩,ih (fun b hb=>hs b (by unfold bw;rw [List.filterMap_cons,hf];exact List.mem_cons_of_mem _ hb)) hr⟩
 exact all X.outer (fun _ hb=>hb) I.ok.funs
theorem Inv.stack (I:Inv X aa σ H s):s.heap.FunFrames X.base X.stack:=by
 rcases I.ok.stk with e|⟨e,hf⟩
 ·rw [e];exact I.funs
 ·rw [e]
  obtain ⟨m,hn,_⟩:=I.loc
  refine .cons (by rw [I.ok.kind];decide) hf hn ?_ I.funs
  exact Heap.get?_none_of_le (Nat.le_trans I.ok.bsz I.ok.above)
theorem Inv.stkSub (I:Inv X aa σ H s):∀b∈bw X.stack,b∈X.env.locals::X.fs:=fun b hb=>by
 rcases I.ok.stk with e|⟨e,hf⟩
 ·rw [e] at hb;exact List.mem_cons_of_mem _ hb
 ·rw [e] at hb
  unfold bw at hb
  rw [List.filterMap_cons,hf] at hb
  exact hb
theorem Inv.stkFree (I:Inv X aa σ H s):∀b∈bw X.stack,H b=none:=fun b hb=>by
 rcases List.mem_cons.mp (I.stkSub b hb) with e|hb
 ·rw [e];exact I.free
 ·obtain ⟨_,o,ho,_⟩:=I.ok.funs.mem hb
  exact I.base.free b o ho (I.ok.frf b hb) fun z=>I.ok.exfs b z hb
theorem Inv.step {g':Array GenState} {t':Nat} {d':Drawn} {ch:List Addr} (I:Inv X aa σ H s)
  (hch:∀b∈ch,(b∈X.ex∨X.s₀.heap.objs.size≤b)∧b≠X.env.locals∧(∀x c,X.env.cells.lookup x=some c→c≠b)∧∀p∈X.pn++aa,p.1≠b)
  (keep:∀b o,b≠X.env.locals→b ∉ X.fs→b ∉ ch→s.heap.get? b=some o→H b=none→h'.get? b=some o)
  (slot:∀b o,b≠X.env.locals→b∈X.fs→b ∉ ch→s.heap.get? b=some o→H b=none→∃sl,h'.get? b=some { o with slots:=sl }) (free:∀b o,b ∉ ch→s.heap.get? b=some o→H b=none→H' b=none)
  (there:∀b o,b ∉ ch→s.heap.get? b=some o→∃o',h'.get? b=some o')
  (tups:∀b xs,H b=some (.tup xs)→H' b=some (.tup xs)) (frzs:∀b o u,H b=some (.frz o u)→H' b=some (.frz o u)) (tbls:∀b ps,H b=some (.tbl ps)→∃more,H' b=some (.tbl (ps++more)))
  (ns:∀m,s.heap.Ns X.env.locals m→h'.Ns X.env.locals m) (ao:bM X.prog X.w H' h') (hg:AllBare g') :
  Inv X aa σ H' { s with heap:=h',gens:=g',drawn:=d',toks:=t' }:=by
 have neL:∀b o,X.s₀.heap.get? b=some o→b≠X.env.locals:=fun b o e=>Nat.ne_of_lt (Nat.lt_of_lt_of_le (Heap.lt_size e) I.ok.above)
 have neC:∀b o,X.s₀.heap.get? b=some o→b ∉ X.ex→b ∉ ch:=fun b o e hx hb=>by
  rcases (hch b hb).1 with z|z
  ·exact hx z
  ·exact absurd (Nat.lt_of_lt_of_le (Heap.lt_size e) z) (Nat.lt_irrefl _)
 have cellK:∀x c,X.env.cells.lookup x=some c→∀v,s.heap.IsCell c v→h'.IsCell c v:=fun x c e v ⟨o,ho,hd⟩=>by
  have nch:c ∉ ch:=fun z=>(hch c z).2.2.1 x c e rfl
  by_cases hc:c∈X.fs
  ·obtain ⟨sl,q⟩:=slot c o (I.cne x c e) hc nch ho (I.freeC x c e)
   exact ⟨_,q,hd⟩
  ·exact ⟨o,keep c o (I.cne x c e) hc nch ho (I.freeC x c e),hd⟩
 refine ⟨I.ok,I.os,hg,⟨fun b o e n hb hx=>?_,fun b o e n hb hx=>?_,fun b o e n hx=>?_,fun b o e hx=>?_,fun b xs e=>tups b xs (I.base.tups b xs e),fun b o xs e=>frzs b o xs (I.base.frzs b o xs e),fun b ps e=>?_⟩,?_,fun x c e=>?_,?_,fun x c e=>?_,fun p hp=>?_,ao,I.len⟩
 ·exact keep b o (neL b o e) hb (neC b o e hx) (I.base.keep b o e n hb hx) (I.base.free b o e n hx)
 ·obtain ⟨sl,e1⟩:=I.base.slot b o e n hb hx
  obtain ⟨sl',e2⟩:=slot b _ (neL b o e) hb (neC b o e hx) e1 (I.base.free b o e n hx)
  exact ⟨sl',e2⟩
 ·obtain ⟨o',e1⟩:=I.base.there b o e hx
  exact free b o' (neC b o e hx) e1 (I.base.free b o e n hx)
 ·obtain ⟨o',e1⟩:=I.base.there b o e hx
  exact there b o' (neC b o e hx) e1
 ·obtain ⟨m1,e1⟩:=I.base.tbls b ps e
  obtain ⟨m2,e2⟩:=tbls b _ e1
  exact ⟨m1++m2,by rw [e2,Array.append_assoc]⟩
 ·obtain ⟨m,hn,hl⟩:=I.loc
  refine ⟨m,ns m hn,fun i x v e1 e2 e3=>?_⟩
  obtain ⟨u,r,l⟩:=hl i x v e1 e2 e3
  refine ⟨u,r,?_⟩
  rcases l with l|⟨k,c,e,z⟩
  ·exact .inl l
  ·exact .inr ⟨k,c,e,cellK x c e _ z⟩
 ·obtain ⟨v,z⟩:=I.cell x c e
  exact ⟨v,cellK x c e v z⟩
 ·obtain ⟨m,⟨o,_,_,ho,_⟩,_⟩:=I.loc
  exact free _ o (fun z=>(hch _ z).2.1 rfl) ho I.free
 ·obtain ⟨v,o,ho,hd⟩:=I.cell x c e
  exact free c o (fun z=>(hch c z).2.2.1 x c e rfl) ho (I.freeC x c e)
 ·obtain ⟨e,n,ne,nf,d⟩:=I.pin p hp
  have nch:p.1 ∉ ch:=fun z=>(hch p.1 z).2.2.2 p hp rfl
  exact ⟨keep p.1 p.2 ne nf nch e n,free p.1 p.2 nch e n,ne,nf,d⟩
theorem Inv.un {t':Nat} (I:Inv X aa σ H s) (u:Un X.fs [] H H' s.heap h') (ao:bM X.prog X.w H' h'):Inv X aa σ H' { s with heap:=h',toks:=t' }:=by
 obtain ⟨m,⟨o,es,ep,ho,r⟩,_⟩:=id I.loc
 obtain ⟨sl,hL⟩:=u.any ho I.free (by simp)
 exact I.step (g':=s.gens) (d':=s.drawn) (ch:=[]) (fun _ z=>nomatch z) (fun b o _ hb _ e n=>u.keep b o e n hb (by simp)) (fun b o _ hb _ e n=>u.slot b o e n hb (by simp)) (fun b o _ e n=>u.free b o e n (by simp)) (fun b o _ e=>u.there b o e (by simp)) u.tups u.frzs u.tbls (fun m' hm=>by
  obtain ⟨o',es',ep',ho',r'⟩:=hm
  rw [ho] at ho';cases ho'
  exact ⟨_,es',ep',hL,r'⟩) ao I.bare
theorem Inv.call {g':Array GenState} {t':Nat} {d':Drawn} {ch:List Addr} (I:Inv X aa σ H s) (u:Un (bw X.stack) ch H H' s.heap h') (ao:bM X.prog X.w H' h') (hg:AllBare g')
  (hch:∀b∈ch,(b∈X.ex∨X.s₀.heap.objs.size≤b)∧b≠X.env.locals∧(∀x c,X.env.cells.lookup x=some c→c≠b)∧∀p∈X.pn++aa,p.1≠b) :
  Inv X aa σ H' { s with heap:=h',gens:=g',drawn:=d',toks:=t' }:=by
 obtain ⟨m,⟨o,es,ep,ho,r⟩,_⟩:=id I.loc
 obtain ⟨sl,hL⟩:=u.any ho I.free fun z=>(hch _ z).2.1 rfl
 exact I.step (ch:=ch) hch (fun b o hL hb hc e n=>u.keep b o e n (fun z=>(List.mem_cons.mp (I.stkSub b z)).elim hL hb) hc) (fun b o _ _ hc e n=>u.any e n hc) (fun b o hc e n=>u.free b o e n hc) (fun b o hc e=>u.there b o e hc) u.tups u.frzs u.tbls (fun m' hm=>by
  obtain ⟨o',es',ep',ho',r'⟩:=hm
  rw [ho] at ho';cases ho'
  exact ⟨_,es',ep',hL,r'⟩) ao hg
theorem Inv.turned {t':Nat} {it:Addr} (I:Inv X aa σ H s) (k:∀b o,b≠it→s.heap.get? b=some o→h'.get? b=some o) (hn:H it=none) (hL:it≠X.env.locals)
  (h1:it∈X.ex∨X.s₀.heap.objs.size≤it) (h2:∀x c,X.env.cells.lookup x=some c→c≠it) (h3:∀p∈X.pn++aa,p.1≠it):Inv X aa σ H { s with heap:=h',toks:=t' }:=by
 have nit:∀b u,H b=some u→b≠it:=fun b u e z=>by rw [z,hn] at e;cases e
 refine I.step (g':=s.gens) (d':=s.drawn) (ch:=[it]) (fun b hb=>?_) (fun b o _ _ hc e _=>k b o (fun z=>hc (by simp [z])) e) (fun b o _ _ hc e _=>⟨o.slots,k b o (fun z=>hc (by simp [z])) e⟩) (fun _ _ _ _ n=>n)
  (fun b o hc e=>⟨o,k b o (fun z=>hc (by simp [z])) e⟩) (fun _ _ e=>e) (fun _ _ _ e=>e) (fun b ps e=>⟨#[],by rw [e];simp⟩) (fun m hm=>?_) (fun b u e=>?_) I.bare
 ·have e:b=it:=by simpa using hb
  subst e
  exact ⟨h1,hL,h2,h3⟩
 ·obtain ⟨o,es,ep,ho,r⟩:=hm
  exact ⟨o,es,ep,k _ o (Ne.symm hL) ho,r⟩
 ·refine (I.ao b u e).stay (fun c v hc q=>k c v ?_ q) (fun _ q=>q) fun _ _ q=>q
  rcases hc with z|z
  ·rw [z];exact nit b u e
  ·exact nit c _ z
theorem Inv.tok (I:Inv X aa σ H s) (t:Nat):Inv X aa σ H { s with toks:=t }:=I.un (h':=s.heap) (t':=t) Un.refl I.ao
theorem Inv.kept {t':Nat} (I:Inv X aa σ H s) (k:∀b u,s.heap.get? b=some u→h'.get? b=some u):Inv X aa σ H { s with heap:=h',toks:=t' }:=I.un (Un.kept k) (I.ao.kept k)
theorem Inv.laid {a:Addr} {o:HO} {t':Nat} (I:Inv X aa σ H s) (k:∀b u,s.heap.get? b=some u→h'.get? b=some u) (hp:s.heap.objs.size≤a) (new:bS X.prog X.w (upd H a o) h' a o) :
  Inv X aa σ (upd H a o) { s with heap:=h',toks:=t' }:=I.un (Un.laid k hp (I.ao.fresh hp)) (I.ao.laid k hp new)
theorem Inv.write {x e:Addr} {o:HO} {t':Nat} (I:Inv X aa σ H s) (mu:kd (H x)) (he:e=x∨H e=some (.own x)) (k:∀b u,b≠e→s.heap.get? b=some u→h'.get? b=some u) (heo:∃u,h'.get? e=some u)
  (new:bS X.prog X.w (upd H x o) h' x o):Inv X aa σ (upd H x o) { s with heap:=h',toks:=t' }:=I.un (Un.write mu he k heo) (I.ao.write mu he k heo new)
theorem Inv.pins_of {pins':List (Addr×Obj)} (I:Inv X aa σ H s) (h:∀p∈pins',s.heap.get? p.1=some p.2∧H p.1=none∧p.1≠X.env.locals∧p.1 ∉ X.fs∧∀v,p.2.data≠.cell v):Inv X pins' σ H s :=
 ⟨I.ok,I.os,I.bare,I.base,I.loc,I.cell,I.free,I.freeC,fun p hp=>(List.mem_append.mp hp).elim (fun z=>I.pin p (List.mem_append_left _ z)) (h p),I.ao,I.len⟩
theorem nW {N:List Str} (hN:N.Nodup) {i j:Nat} {x:Str} (a:N[i]?=some x) (b:N[j]?=some x):i=j:=by
 obtain ⟨h1,e1⟩:=List.getElem?_eq_some_iff.mp a
 obtain ⟨h2,e2⟩:=List.getElem?_eq_some_iff.mp b
 exact (List.getElem_inj hN).mp (e1.trans e2.symm)
theorem sY {M:Model} {A:Around} {E:Value→Shared→Prop} {i:Nat} {x:Str} {v:V} {u:Value} {Q:Unit→Shared→Prop} (I:Inv X aa σ H s) (hN:X.N.Nodup) (hi:X.N[i]?=some x) (hx:Loc X.env.scope x) (r:RelV v u)
  (h:∀s',Inv X aa (σ.set i (some v)) H s'→(∃a,Heap.SameBut a s.heap s'.heap∧(a=X.env.locals∨X.env.cells.lookup x=some a))→Q () s') (hf:X.fn x=true∨X.env.scope.names.lookup x=some .local:=by first|exact .inl rfl|exact .inr rfl|assumption):wpAny M A (storeName X.env x u) Q E s:=by
 obtain ⟨m,hn,hl⟩:=id I.loc
 have hcls:(X.env.scope.kind ==.class ||(X.env.scope.kind ==.module && X.env.locals !=X.env.globals))=false:=by rw [I.ok.kind];rfl
 have hiσ:i < σ.length:=by rw [I.len];exact (List.getElem?_eq_some_iff.mp hi).1
 have cne:=I.cne
 have tracked:∀{a:Addr} {h':Heap},(∃o,s.heap.get? a=some o∧H a=none)→Heap.SameBut a s.heap h'→bM X.prog X.w H h':=fun {a h'} ha hs b ob e=>by
  obtain ⟨_,_,hfree⟩:=ha
  refine (I.ao b ob e).stay (fun c w' hc q=>(hs.2 c ?_).trans q) (fun _ q=>q) fun _ _ q=>q
  rintro rfl
  rcases hc with rfl|hc
  ·rw [hfree] at e;cases e
  ·rw [hfree] at hc;cases hc
 rcases hx with hk|hk
 ·refine wpAny_storeName_local hk hn (fun h' hn' hs=>?_) hcls
  obtain ⟨oL,_,_,hoL,_⟩:=id hn
  refine h _ ⟨I.ok,I.os,I.bare,⟨fun b o e n hb hx=>?_,fun b o e n hb hx=>?_,I.base.free,fun b o e hx=>?_,I.base.tups,I.base.frzs,I.base.tbls⟩,⟨_,hn',fun j y v' e1 e2 e3=>?_⟩,fun y c e=>?_,I.free,I.freeC,fun p hp=>?_,tracked ⟨oL,hoL,I.free⟩ hs,by simpa using I.len⟩ ⟨_,hs,.inl rfl⟩
  ·exact (hs.2 b (Nat.ne_of_lt (Nat.lt_of_lt_of_le (Heap.lt_size e) I.ok.above))).trans (I.base.keep b o e n hb hx)
  ·obtain ⟨sl,e1⟩:=I.base.slot b o e n hb hx
   exact ⟨sl,(hs.2 b (Nat.ne_of_lt (Nat.lt_of_lt_of_le (Heap.lt_size e) I.ok.above))).trans e1⟩
  ·obtain ⟨o',e1⟩:=I.base.there b o e hx
   exact ⟨o',(hs.2 b (Nat.ne_of_lt (Nat.lt_of_lt_of_le (Heap.lt_size e) I.ok.above))).trans e1⟩
  ·by_cases hj:j=i
   ·subst hj
    rw [hi] at e1;cases e1
    rw [List.getElem?_set_self hiσ] at e2
    cases e2
    exact ⟨u,r,.inl ⟨hk,by simp⟩⟩
   ·rw [List.getElem?_set_ne (Ne.symm hj)] at e2
    obtain ⟨u',r',q⟩:=hl j y v' e1 e2 e3
    refine ⟨u',r',?_⟩
    rcases q with ⟨k,e⟩|⟨k,c,e,z⟩
    ·refine .inl ⟨k,?_⟩
     have:y≠x:=fun e=>hj (nW hN e1 (e▸hi))
     simp [this,e]
    ·exact .inr ⟨k,c,e,z.sameBut hs (cne y c e)⟩
  ·obtain ⟨w',z⟩:=I.cell y c e
   exact ⟨w',z.sameBut hs (cne y c e)⟩
  ·obtain ⟨e,n,ne,nf,d⟩:=I.pin p hp
   exact ⟨(hs.2 p.1 ne).trans e,n,ne,nf,d⟩
 ·have hfn:X.fn x=true:=by
   rcases hf with z|z
   ·exact z
   ·rw [z] at hk;cases hk
  obtain ⟨c,hc⟩:=I.ok.has x (.inl hk)
  obtain ⟨w',z⟩:=I.cell x c hc
  refine wpAny_storeName_cell I.ok.kind hk hc z (fun h' hc' hs=>?_)
  obtain ⟨oc,hoc,hocd⟩:=id z
  refine h { s with heap:=h' } ⟨I.ok,I.os,I.bare,⟨fun b o e n hb hx=>?_,fun b o e n hb hx=>?_,I.base.free,fun b o e hx=>?_,I.base.tups,I.base.frzs,I.base.tbls⟩,⟨m,hn.sameBut hs (Ne.symm (cne x c hc)),fun j y v' e1 e2 e3=>?_⟩,fun y c' e=>?_,I.free,I.freeC,fun p hp=>?_,tracked ⟨oc,hoc,I.freeC x c hc⟩ hs,by simpa using I.len⟩ ⟨c,hs,.inr hc⟩
  ·exact (hs.2 b (Nat.ne_of_lt (Nat.lt_of_lt_of_le (Heap.lt_size e) (I.ok.cab x c hfn hc)))).trans (I.base.keep b o e n hb hx)
  ·obtain ⟨sl,e1⟩:=I.base.slot b o e n hb hx
   exact ⟨sl,(hs.2 b (Nat.ne_of_lt (Nat.lt_of_lt_of_le (Heap.lt_size e) (I.ok.cab x c hfn hc)))).trans e1⟩
  ·obtain ⟨o',e1⟩:=I.base.there b o e hx
   exact ⟨o',(hs.2 b (Nat.ne_of_lt (Nat.lt_of_lt_of_le (Heap.lt_size e) (I.ok.cab x c hfn hc)))).trans e1⟩
  ·by_cases hj:j=i
   ·subst hj
    rw [hi] at e1;cases e1
    rw [List.getElem?_set_self hiσ] at e2
    cases e2
    exact ⟨u,r,.inr ⟨.inl hk,c,hc,hc'⟩⟩
   ·rw [List.getElem?_set_ne (Ne.symm hj)] at e2
    obtain ⟨u',r',q⟩:=hl j y v' e1 e2 e3
    refine ⟨u',r',?_⟩
    rcases q with q|⟨k,c',e,z'⟩
    ·exact .inl q
    ·refine .inr ⟨k,c',e,z'.sameBut hs ?_⟩
     rintro rfl
     exact hj (nW hN e1 (I.ok.inj _ _ _ e hc▸hi))
  ·by_cases hcc:c'=c
   ·subst hcc;exact ⟨_,hc'⟩
   ·obtain ⟨w2,z2⟩:=I.cell y c' e
    exact ⟨w2,z2.sameBut hs hcc⟩
  ·obtain ⟨e,n,ne,nf,d⟩:=I.pin p hp
   refine ⟨(hs.2 p.1 ?_).trans e,n,ne,nf,d⟩
   intro q
   rw [q,hoc] at e
   have q':oc=p.2:=Option.some.inj e
   exact d w' (by rw [←q'];exact hocd)
theorem kq {M:Model} {A:Around} {E:Value→Shared→Prop} {i:Nat} {x:Str} {v:V} {u:Value} {Q:Unit→Shared→Prop} (I:Inv X aa σ H s) (hN:X.N.Nodup) (hi:X.N[i]?=some x) (hx:Loc X.env.scope x) (r:RelV v u)
  (h:∀s',Inv X aa (σ.set i (some v)) H s'→Q () s') (hf:X.fn x=true∨X.env.scope.names.lookup x=some .local:=by first|exact .inl rfl|exact .inr rfl|assumption):wpAny M A (storeName X.env x u) Q E s :=
 sY I hN hi hx r (fun s' I' _=>h s' I') hf
theorem Inv.call' {s':Shared} {ch:List Addr} (I:Inv X aa σ H s) (ho:s'.os=s.os) (u:Un (bw X.stack) ch H H' s.heap s'.heap) (ao:bM X.prog X.w H' s'.heap) (hg:AllBare s'.gens)
  (hch:∀b∈ch,(b∈X.ex∨X.s₀.heap.objs.size≤b)∧b≠X.env.locals∧(∀x c,X.env.cells.lookup x=some c→c≠b)∧∀p∈X.pn++aa,p.1≠b):Inv X aa σ H' s':=by
 obtain ⟨h',g',d',t',o'⟩:=s'
 have e:o'=s.os:=ho
 subst e
 exact I.call (g':=g') (t':=t') (d':=d') u ao hg hch
end
noncomputable abbrev XK:=Value→Option Addr→Hp→Prop
noncomputable abbrev St:=List (Option V)
noncomputable abbrev VK:=V→Hp→Prop
noncomputable abbrev TE:=St→Hp→VK→Prop
noncomputable abbrev TT:=St→Hp→(Bool→Hp→Prop)→Prop
noncomputable abbrev TA:=St→Hp→(List V→Hp→Prop)→Prop
structure Ends where
 nx:St→Hp→Prop
 rt:VK
 bk:St→Hp→Prop:=fun _ _=>False
 ct:St→Hp→Prop:=fun _ _=>False
noncomputable abbrev TS:=Ends→St→Hp→Prop
noncomputable def EP (X:Cx) (aa:List (Addr×Obj)) (σ:St) (Q:VK) (u:Value) (s':Shared):Prop:=∃v H',Inv X aa σ H' s'∧RelV v u∧Q v H'
noncomputable def TP (X:Cx) (aa:List (Addr×Obj)) (σ:St) (Q:Bool→Hp→Prop) (b:Bool) (s':Shared):Prop:=∃H',Inv X aa σ H' s'∧Q b H'
noncomputable def AP (X:Cx) (aa:List (Addr×Obj)) (σ:St) (Q:List V→Hp→Prop) (us:List Value) (s':Shared):Prop:=∃vs H',Inv X aa σ H' s'∧Vals vs us∧Q vs H'
noncomputable def SP (X:Cx) (aa:List (Addr×Obj)) (D:Ends) (f:Flow) (s':Shared):Prop :=
 match f with
 |.next=>∃σ' H',Inv X aa σ' H' s'∧D.nx σ' H'
 |.brk=>∃σ' H',Inv X aa σ' H' s'∧D.bk σ' H'
 |.cont=>∃σ' H',Inv X aa σ' H' s'∧D.ct σ' H'
 |.ret u=>∃v σ' H',Inv X aa σ' H' s'∧RelV v u∧D.rt v H'
noncomputable def PE (X:Cx) (e:Expr) (t:TE):Prop :=
 ∀(aa:List (Addr×Obj)) (s:Shared) (σ:St) (H:Hp) (Q:VK),Inv X aa σ H s→t σ H Q→wpAny (model X.prog X.w) X.A (eval e X.env) (EP X aa σ Q) X.xe s
noncomputable def PT (X:Cx) (e:Expr) (t:TT):Prop :=
 ∀(aa:List (Addr×Obj)) (s:Shared) (σ:St) (H:Hp) (Q:Bool→Hp→Prop),Inv X aa σ H s→t σ H Q→wpAny (model X.prog X.w) X.A (isTrue e X.env (eval e X.env)) (TP X aa σ Q) X.xe s
noncomputable def PW (X:Cx) (e:Expr) (t:TT):Prop :=
 ∀(whole:Sem Value) (aa:List (Addr×Obj)) (s:Shared) (σ:St) (H:Hp) (Q:Bool→Hp→Prop),Inv X aa σ H s→t σ H Q→wpAny (model X.prog X.w) X.A (isTrue e X.env whole) (TP X aa σ Q) X.xe s
theorem PW.pt {X:Cx} {e:Expr} {t:TT} (h:PW X e t):PT X e t:=h _
noncomputable def PA (X:Cx) (es:List Expr) (t:TA):Prop :=
 ∀(pos:Pos) (aa:List (Addr×Obj)) (s:Shared) (σ:St) (H:Hp) (Q:List V→Hp→Prop),Inv X aa σ H s→t σ H Q→wpAny (model X.prog X.w) X.A (spliced (backTo pos (starEach es X.env))) (AP X aa σ Q) X.xe s
noncomputable def PS (X:Cx) (st:Stmt) (t:TS):Prop :=
 ∀(aa:List (Addr×Obj)) (s:Shared) (σ:St) (H:Hp) (D:Ends),Inv X aa σ H s→t D σ H→wpAny (model X.prog X.w) X.A (exec st X.env) (SP X aa D) X.xe s
noncomputable def bx (X:Cx) (st:List Stmt) (t:TS):Prop :=
 ∀(aa:List (Addr×Obj)) (s:Shared) (σ:St) (H:Hp) (D:Ends),Inv X aa σ H s→t D σ H→wpAny (model X.prog X.w) X.A (execs st X.env) (SP X aa D) X.xe s
theorem aC {α:Type} {t:Sem α} {Q Q':α→Shared→Prop} {M:Model} {A:Around} {E:Value→Shared→Prop} {s:Shared} (h:wpAny M A t Q E s) (hQ:∀a s,Q a s→Q' a s):wpAny M A t Q' E s:=wpAny_mono h hQ fun _ _ x=>x
end L2
namespace L2
open PySem PySem.Spec PyProof.Rows
section
variable {X:Cx}
noncomputable def zC (i:Nat):TE:=fun σ H Q=>∃v,σ[i]?=some (some v)∧Q v H
noncomputable def tC (v:V):TE:=fun _ H Q=>Q v H
theorem yp {i:Nat} {x:Str} {pos:Pos} (hN:X.N[i]?=some x) (hv:kE X.env.scope x) (hd:(x ==("__debug__" : Str))=false:=by decide) (hcd:(x ==("__classdict__" : Str))=false:=by decide):PE X (.Name x pos) (zC i):=by
 intro aa s σ H Q I h
 obtain ⟨v,e,h⟩:=h
 obtain ⟨m,hn,hl⟩:=I.loc
 obtain ⟨u,r,l⟩:=hl i x v hN e hv
 have fin:EP X aa σ Q u s:=⟨v,H,I,r,h⟩
 rcases l with ⟨hk,hm⟩|⟨hk,c,hc,hcell⟩
 ·exact wpAny_Name (wpAny_loadName_local I.ok.kind hk hn hm fin) hd
 ·rcases hk with hk|hk
  ·exact wpAny_Name (wpAny_loadName_cell I.ok.kind hk hc hcell fin) hd
  ·exact wpAny_Name (wpAny_loadName_free I.ok.kind hk hc hcell fin hcd) hd
theorem pC {i j pos}:PE X (.Constant (.int i) j pos) (tC (.int i)):=fun _ _ _ H _ I h=>wpAny_Constant_int ⟨.int i,H,I.tok _,⟨_,rfl⟩,h⟩
theorem Dn {b j pos}:PE X (.Constant (.bool b) j pos) (tC (.bl b)):=fun _ _ _ H _ I h=>Constant_bool ⟨.bl b,H,I,rfl,h⟩
theorem FI {j pos}:PE X (.Constant .none j pos) (tC .non):=fun _ _ _ H _ I h=>Constant_none ⟨.non,H,I,rfl,h⟩
theorem ye {x j pos}:PE X (.Constant (.str x) j pos) (tC (.str x)):=fun _ _ _ H _ I h=>Calls.Constant_str ⟨.str x,H,I.tok _,⟨_,rfl⟩,h⟩
noncomputable def Gl (X:Cx) (x:Str):Prop:=X.env.kindOf x=some .globalImplicit
theorem gf {E:Value→Shared→Prop} {aa:List (Addr×Obj)} {s:Shared} {σ:St} {H:Hp} {x:Str} {u:Value} {pos:Pos} {Q:Value→Shared→Prop} (I:Inv X aa σ H s) (hg:Gl X x) (hm:X.mg x=some u) (h:Q u s)
  (hd:(x ==("__debug__" : Str))=false:=by decide):wpAny (model X.prog X.w) X.A (eval (.Name x pos) X.env) Q E s :=
 Calls.Name_function_global I.ok.kind hg (Calls.loadGlobal_global (by rw [I.ok.glob];exact I.mod.glob.keeps I.bk) hm h) hd
theorem fj {E:Value→Shared→Prop} {aa:List (Addr×Obj)} {s:Shared} {σ:St} {H:Hp} {x:Str} {u:Value} {pos:Pos} {Q:Value→Shared→Prop} (I:Inv X aa σ H s) (hg:Gl X x) (hm:X.mg x=none) (hv:bootBuiltins x=some u) (h:Q u s)
  (hn:x≠ "__name__" :=by decide) (hd:(x ==("__debug__" : Str))=false:=by decide):wpAny (model X.prog X.w) X.A (eval (.Name x pos) X.env) Q E s:=by
 obtain ⟨mb,h1,h2⟩:=I.mod.blt
 exact Calls.Name_function_global I.ok.kind hg (Calls.loadGlobal_builtin (by rw [I.ok.glob];exact I.mod.glob.keeps I.bk) hm (by rw [I.ok.blt];exact h1.keeps I.bk) ((h2 x hn).trans hv) h) hd
theorem wq {x:Str} {v:V} {u:Value} {pos:Pos} (hg:Gl X x) (hm:X.mg x=some u) (r:RelV v u) (hd:(x ==("__debug__" : Str))=false:=by decide):PE X (.Name x pos) (tC v) :=
 fun _ _ _ H _ I h=>gf I hg hm ⟨v,H,I,r,h⟩ hd
theorem G6 {x:Str} {v:V} {u:Value} {pos:Pos} (hg:Gl X x) (hm:X.mg x=none) (hv:bootBuiltins x=some u) (r:RelV v u) (hn:x≠ "__name__" :=by decide) (hd:(x ==("__debug__" : Str))=false:=by decide):PE X (.Name x pos) (tC v) :=
 fun _ _ _ H _ I h=>fj I hg hm hv ⟨v,H,I,r,h⟩ hn hd
variable {a b:Expr} {ta tb:TE} {pos:Pos}
noncomputable def tB (t:TE):TT:=fun σ H Q=>t σ H fun x H1=>∃c,x=.bl c∧Q c H1
variable {tA tB':TT} {rest:List Expr}
noncomputable def xR (t u:TT):TT:=fun σ H Q=>t σ H fun c H1=>if c=true then u σ H1 Q else Q false H1
noncomputable def Fh (t u:TT):TT:=fun σ H Q=>t σ H fun c H1=>if c=true then Q true H1 else u σ H1 Q
noncomputable def FD (t:TT):TT:=fun σ H Q=>t σ H fun c H1=>Q (!c) H1
theorem CP (ha:PT X a tA):PW X (.BoolOp .And [a] pos) tA:=by
 intro wh aa s σ H Q I h
 refine isTrue_and (aC (ha aa s σ H Q I h) fun c s1 e=>?_)
 cases c with
 |true=>exact isTrue_and_nil e
 |false=>exact e
theorem Hk (ha:PT X a tA):PW X (.BoolOp .Or [a] pos) tA:=by
 intro wh aa s σ H Q I h
 refine isTrue_or (aC (ha aa s σ H Q I h) fun c s1 e=>?_)
 cases c with
 |false=>exact isTrue_or_nil e
 |true=>exact e
theorem zF (ha:PT X a tA) (hb:PW X (.BoolOp .And (b::rest) pos) tB'):PW X (.BoolOp .And (a::b::rest) pos) (xR tA tB'):=by
 intro wh aa s σ H Q I h
 refine isTrue_and (aC (ha aa s σ H _ I h) fun c s1 zz0=>?_)
 obtain ⟨H1,I1,q1⟩:=zz0
 cases c with
 |true=>exact hb wh aa s1 σ H1 Q I1 q1
 |false=>exact ⟨H1,I1,q1⟩
theorem xF (ha:PT X a tA) (hb:PW X (.BoolOp .Or (b::rest) pos) tB'):PW X (.BoolOp .Or (a::b::rest) pos) (Fh tA tB'):=by
 intro wh aa s σ H Q I h
 refine isTrue_or (aC (ha aa s σ H _ I h) fun c s1 zz0=>?_)
 obtain ⟨H1,I1,q1⟩:=zz0
 cases c with
 |true=>exact ⟨H1,I1,q1⟩
 |false=>exact hb wh aa s1 σ H1 Q I1 q1
theorem yr (ha:PT X a tA):PT X (.UnaryOp .Not a pos) (FD tA):=by
 intro aa s σ H Q I h
 exact isTrue_not (ha aa s σ H (fun c H1=>Q (!c) H1) I h)
noncomputable def HG (ta tb:TE):TE:=fun σ H Q=>ta σ H fun x H1=>∃c,x=.bl c∧if c=true then tb σ H1 Q else Q (.bl false) H1
noncomputable def Gx (ta:TE):TE:=fun σ H Q=>ta σ H fun x H1=>∃c,x=.bl c∧Q (.bl (!c)) H1
theorem DW {op} {t:TE} (h:PE X a t):PE X (.BoolOp op [a] pos) t:=fun aa s σ H Q I hw=>BoolOp_one (h aa s σ H Q I hw)
theorem xC (ha:PE X a ta) (hb:PE X (.BoolOp .And (b::rest) pos) tb):PE X (.BoolOp .And (a::b::rest) pos) (HG ta tb):=by
 intro aa s σ H Q I h
 refine BoolOp_and (aC (ha aa s σ H _ I h) fun v s1 zz0=>?_)
 obtain ⟨x,H1,I1,r1,q1⟩:=zz0
 obtain ⟨c,rfl,q1⟩:=q1
 cases r1
 refine wpAny_truthy_bool ?_
 cases c with
 |true=>exact hb aa s1 σ H1 Q I1 q1
 |false=>exact ⟨.bl false,H1,I1,rfl,q1⟩
theorem EJ (ha:PE X a ta):PE X (.UnaryOp .Not a pos) (Gx ta):=by
 intro aa s σ H Q I h
 refine UnaryOp_ (aC (ha aa s σ H _ I h) fun v s1 zz0=>?_)
 obtain ⟨x,H1,I1,r1,q1⟩:=zz0
 obtain ⟨c,rfl,q1⟩:=q1
 cases r1
 exact not_of (wpAny_truthy_bool ⟨.bl (!c),H1,I1,rfl,q1⟩)
end
end L2
namespace L2
open PySem PySem.Spec PyProof.Rows
noncomputable def bG (K:PySem.W.Frag) (H:Hp) (a:Addr) (xs:List V):Prop :=
 Rd H a (.lst xs) ∨
  ∃(o:Obj) (ai:Array Value) (n:Nat),K.lookup a=some o∧o.cls=.type "list" ∧ o.dict=none∧o.data=.seq ai n∧ai.size≤sizeLine∧Vals xs ai.toList
noncomputable def aZ (K:PySem.W.Frag) (H:Hp) (a:Addr) (xs:List V):Prop :=
 Rd H a (.tup xs) ∨
  ∃(o:Obj) (ai:Array Value) (n:Nat),K.lookup a=some o∧o.cls=.type "tuple" ∧ o.data=.seq ai n∧ai.size≤sizeLine∧Vals xs ai.toList
noncomputable def yj:Value→Option V
 |.none=>some .non
 |.bool b=>some (.bl b)
 |.int i _=>some (.int i)
 |.str x _=>some (.str x)
 |.bytes b _=>some (.byt b)
 |.float b _=>some (.flt b)
 |.ref a=>some (.ref a)
 |.type n=>some (.ty n)
 |_=>none
theorem RelV.abs {x:V} {u:Value} (r:RelV x u):yj u=some x:=by
 cases x with
 |non=>cases r;rfl
 |bl _=>cases r;rfl
 |int _=>obtain ⟨t,rfl⟩:=r;rfl
 |str _=>obtain ⟨t,rfl⟩:=r;rfl
 |byt _=>obtain ⟨t,rfl⟩:=r;rfl
 |flt _=>obtain ⟨t,rfl⟩:=r;rfl
 |ref _=>cases r;rfl
 |ty _=>cases r;rfl
theorem RelV.inj {x y:V} {u:Value} (r:RelV x u) (q:RelV y u):x=y:=Option.some.inj (r.abs.symm.trans q.abs)
theorem Vals.inj {xs ys:List V} {us:List Value} (h:Vals xs us) (h':Vals ys us):xs=ys:=by
 induction h generalizing ys with
 |nil=>cases h';rfl
 |cons r t ih=>cases h' with
  |cons r' t'=>rw [r.inj r',ih t']
section
variable {X:Cx} {aa:List (Addr×Obj)} {σ:St} {H:Hp} {s:Shared} {a:Addr} {xs ys:List V}
theorem bG.of {K:PySem.W.Frag} (h:H a=some (.lst xs)):bG K H a xs:=.inl (.inl h)
theorem aZ.of {K:PySem.W.Frag} (h:H a=some (.tup xs)):aZ K H a xs:=.inl (.inl h)
theorem Inv.list (I:Inv X aa σ H s) (h:bG X.K H a xs):∃ai:List Value,Vals xs ai∧PlainL s.heap a ai.toArray∧xs.length≤sizeLine:=by
 rcases h with h|⟨o,ai,n,hk,hc,hd,hs,hz,r⟩
 ·obtain ⟨z,ai,n,r,e⟩:=h.ok I.ao
  exact ⟨ai,r,⟨_,n,e,rfl,rfl,rfl⟩,z⟩
 ·refine ⟨ai.toList,r,⟨o,n,I.kIn a o hk,hc,hd,by simpa using hs⟩,?_⟩
  have e:=r.length
  simp only [Array.length_toList] at e
  (first|lia|omega)
theorem Inv.tuple (I:Inv X aa σ H s) (h:aZ X.K H a xs):∃ai:List Value,Vals xs ai∧IsTup s.heap a ai.toArray∧xs.length≤sizeLine:=by
 rcases h with h|⟨o,ai,n,hk,hc,hs,hz,r⟩
 ·obtain ⟨z,ai,r,p⟩:=h.ok I.ao
  exact ⟨ai,r,p,z⟩
 ·refine ⟨ai.toList,r,⟨o,I.kIn a o hk,hc,n,by simpa using hs⟩,?_⟩
  have e:=r.length
  simp only [Array.length_toList] at e
  (first|lia|omega)
theorem Inv.list_inj (I:Inv X aa σ H s) (h:bG X.K H a xs) (h':bG X.K H a ys):xs=ys:=by
 obtain ⟨ai,r,⟨o,n,e,_,_,d⟩,_⟩:=I.list h
 obtain ⟨its',r',⟨o',n',e',_,_,d'⟩,_⟩:=I.list h'
 rw [e] at e';cases e'
 rw [d] at d'
 injection d' with d1 _
 have:ai=its':=by simpa using congrArg Array.toList d1
 subst this
 exact r.inj r'
theorem Inv.tuple_inj (I:Inv X aa σ H s) (h:aZ X.K H a xs) (h':aZ X.K H a ys):xs=ys:=by
 obtain ⟨ai,r,⟨o,e,_,n,d⟩,_⟩:=I.tuple h
 obtain ⟨its',r',⟨o',e',_,n',d'⟩,_⟩:=I.tuple h'
 rw [e] at e';cases e'
 rw [d] at d'
 injection d' with d1 _
 have:ai=its':=by simpa using congrArg Array.toList d1
 subst this
 exact r.inj r'
end
noncomputable abbrev Cx.wish (X:Cx) (E:Value→Shared→Prop):Cx:={ X with xe:=E }
noncomputable abbrev Cx.nox (X:Cx):Cx:=X.wish fun _ _=>False
theorem Cx.Ok.wish {X:Cx} (ok:X.Ok) (E:Value→Shared→Prop):(X.wish E).Ok :=
 ⟨ok.mod,ok.kind,ok.glob,ok.blt,ok.above,ok.inj,ok.has,ok.cab,ok.hd,ok.frames,ok.stk,ok.exf,ok.bs,ok.bsz,ok.noex,ok.exfs,ok.funs,ok.frf⟩
theorem Cx.Ok.unwish {X:Cx} {E:Value→Shared→Prop} (ok:(X.wish E).Ok):X.Ok :=
 ⟨ok.mod,ok.kind,ok.glob,ok.blt,ok.above,ok.inj,ok.has,ok.cab,ok.hd,ok.frames,ok.stk,ok.exf,ok.bs,ok.bsz,ok.noex,ok.exfs,ok.funs,ok.frf⟩
section
variable {X:Cx} {aa:List (Addr×Obj)} {σ:St} {H:Hp} {s:Shared} {E:Value→Shared→Prop}
theorem Inv.wish (I:Inv X aa σ H s) (E:Value→Shared→Prop):Inv (X.wish E) aa σ H s:=⟨I.ok.wish E,I.os,I.bare,I.base,I.loc,I.cell,I.free,I.freeC,I.pin,I.ao,I.len⟩
theorem Inv.unwish (I:Inv (X.wish E) aa σ H s):Inv X aa σ H s:=⟨I.ok.unwish,I.os,I.bare,I.base,I.loc,I.cell,I.free,I.freeC,I.pin,I.ao,I.len⟩
theorem SP.unwish {D:Ends} {f:Flow} {s':Shared} (h:SP (X.wish E) aa D f s'):SP X aa D f s':=by
 cases f with
 |next=>obtain ⟨σ',H',I,q⟩:=h;exact ⟨σ',H',I.unwish,q⟩
 |brk=>obtain ⟨σ',H',I,q⟩:=h;exact ⟨σ',H',I.unwish,q⟩
 |cont=>obtain ⟨σ',H',I,q⟩:=h;exact ⟨σ',H',I.unwish,q⟩
 |ret u=>obtain ⟨v,σ',H',I,r,q⟩:=h;exact ⟨v,σ',H',I.unwish,r,q⟩
theorem bx.nox {st:List Stmt} {t:TS} (h:bx X.nox st t):bx X st t:=fun aa s σ H D I hw =>
 wpAny_mono (h aa s σ H D (I.wish _) hw) (fun _ _ q=>q.unwish) fun _ _ z=>False.elim z
end
section
variable {X:Cx} {st:Stmt} {rest:List Stmt} {t u:TS} {e:Expr} {te:TE} {pos:Pos}
noncomputable def zS:TS:=fun D σ H=>D.nx σ H
noncomputable def AL (t u:TS):TS:=fun D σ H=>t { D with nx:=u D } σ H
theorem yP:bx X [] zS:=fun _ _ σ H _ I h=>wpAny_execs_nil ⟨σ,H,I,h⟩
theorem AA (h1:PS X st t) (h2:bx X rest u):bx X (st::rest) (AL t u):=by
 intro aa s σ H D I h
 refine wpAny_execs_cons (aC (h1 aa s σ H { D with nx:=u D } I h) fun f s1 q=>?_)
 cases f with
 |next =>
  obtain ⟨σ',H',I',q⟩:=q
  exact h2 aa s1 σ' H' D I' q
 |ret v=>exact q
 |brk=>exact q
 |cont=>exact q
theorem EF (h1:PS X st t):bx X [st] t:=by
 intro aa s σ H D I h
 refine wpAny_execs_cons (aC (h1 aa s σ H D I h) fun f s1 q=>?_)
 cases f with
 |next=>exact wpAny_execs_nil q
 |ret v=>exact q
 |brk=>exact q
 |cont=>exact q
theorem Inv.quiet {aa:List (Addr×Obj)} {σ:St} {H:Hp} {s:Shared} (I:Inv X aa σ H s):interactive X.env=false:=by simp [interactive,I.ok.kind]
noncomputable def yh (te:TE):TS:=fun D σ H=>te σ H fun _ H1=>D.nx σ H1
theorem FG (he:PE X e te) (hs:swapsWith e none pos.line X.env=pure false:=by rfl):PS X (.Expr e pos) (yh te):=by
 intro aa s σ H D I h
 refine wpAny_Expr_any (aC (he aa s σ H _ I h) fun v s1 zz0=>?_) I.quiet hs
 obtain ⟨x,H1,I1,r1,q1⟩:=zz0
 exact ⟨σ,H1,I1,q1⟩
noncomputable def yq (te:TE):TS:=fun D σ H=>te σ H D.rt
theorem AK (he:PE X e te):PS X (.Return (some e) pos) (yq te):=by
 intro aa s σ H D I h
 refine wpAny_Return_some (aC (he aa s σ H _ I h) fun v s1 zz0=>?_)
 obtain ⟨x,H1,I1,r1,q1⟩:=zz0
 exact ⟨x,σ,H1,I1,r1,q1⟩
noncomputable def Cv (c:TT) (t u:TS):TS:=fun D σ H=>c σ H fun b H1=>if b=true then t D σ H1 else u D σ H1
theorem Cp {c:Expr} {a b:List Stmt} {tc:TT} (hc:PT X c tc) (ha:bx X a t) (hb:bx X b u):PS X (.If c a b pos) (Cv tc t u):=by
 intro aa s σ H D I h
 refine wpAny_If (aC (hc aa s σ H _ I h) fun d s1 zz0=>?_)
 obtain ⟨H1,I1,q1⟩:=zz0
 cases d with
 |true=>exact ha aa s1 σ H1 D I1 q1
 |false=>exact hb aa s1 σ H1 D I1 q1
end
noncomputable abbrev TG:=V→St→Hp→(St→Hp→Prop)→Prop
noncomputable abbrev fQ:=List V→St→Hp→(St→Hp→Prop)→Prop
noncomputable def PG (X:Cx) (target:Expr) (t:TG):Prop :=
 ∀(aa:List (Addr×Obj)) (s:Shared) (σ:St) (H:Hp) (v:V) (u:Value) (Q:St→Hp→Prop),Inv X aa σ H s→RelV v u→t v σ H Q →
  wpAny (model X.prog X.w) X.A (assign target X.env u) (fun _ s'=>∃σ' H',Inv X aa σ' H' s'∧Q σ' H') X.xe s
noncomputable def er (X:Cx) (ts:List Expr) (t:fQ):Prop :=
 ∀(aa:List (Addr×Obj)) (s:Shared) (σ:St) (H:Hp) (vs:List V) (us:List Value) (Q:St→Hp→Prop),Inv X aa σ H s→Vals vs us→t vs σ H Q →
  wpAny (model X.prog X.w) X.A (assignInOrder ((assignEach ts X.env).map (·.2)) us) (fun _ s'=>∃σ' H',Inv X aa σ' H' s'∧Q σ' H') X.xe s
noncomputable abbrev km:=V→V→V→Hp→(Hp→Prop)→Prop
noncomputable def nX (X:Cx) (t:km):Prop :=
 ∀(aa:List (Addr×Obj)) (s:Shared) (σ:St) (H:Hp) (o i v:V) (ov iv u:Value) (Q:Hp→Prop),Inv X aa σ H s→RelV o ov→RelV i iv→RelV v u→t o i v H Q →
  wpAny (model X.prog X.w) X.A (setItem ov iv u) (fun _ s'=>∃H',Inv X aa σ H' s'∧Q H') X.xe s
noncomputable abbrev nG:=V→V→Hp→VK→Prop
noncomputable def uN (X:Cx) (op:Operator) (t:nG):Prop :=
 ∀(aa:List (Addr×Obj)) (s:Shared) (σ:St) (H:Hp) (x y:V) (v u:Value) (Q:VK),Inv X aa σ H s→RelV x v→RelV y u→t x y H Q →
  wpAny (model X.prog X.w) X.A (inplaceOp op v u) (EP X aa σ Q) X.xe s
section
variable {X:Cx} {pos:Pos}
noncomputable def pE (i:Nat):TG:=fun v σ H Q=>Q (σ.set i (some v)) H
theorem Er {i:Nat} {x:Str} (hN:X.N.Nodup) (hi:X.N[i]?=some x) (hx:Loc X.env.scope x) (hf:X.fn x=true∨X.env.scope.names.lookup x=some .local:=by first|exact .inl rfl|exact .inr rfl|assumption):PG X (.Name x pos) (pE i):=by
 intro aa s σ H v u Q I r h
 exact wpAny_assign_Name (kq I hN hi hx r (fun s' I'=>⟨_,H,I',h⟩) hf)
noncomputable def BZ:fQ:=fun vs σ H Q=>vs=[]∧Q σ H
noncomputable def zp (t:TG) (u:fQ):fQ:=fun vs σ H Q=>∃v r,vs=v::r∧t v σ H fun σ' H'=>u r σ' H' Q
theorem xH:er X [] BZ:=by
 intro aa s σ H vs us Q I r h
 obtain ⟨e,h⟩:=h
 subst e
 cases r
 exact assignInOrder_nil ⟨σ,H,I,h⟩
theorem Fy {e:Expr} {es:List Expr} {t:TG} {u:fQ} (h1:PG X e t) (h2:er X es u)
  (hs:(assignEach (e::es) X.env).map (·.2)=assign e X.env::(assignEach es X.env).map (·.2):=by rfl):er X (e::es) (zp t u):=by
 intro aa s σ H vs us Q I r h
 obtain ⟨v,vr,e1,h⟩:=h
 subst e1
 cases r with
 |cons r rr =>
  rw [hs]
  refine assignInOrder_cons (aC (h1 aa s σ H _ _ _ I r h) fun _ s1 zz0=>?_)
  obtain ⟨σ1,H1,I1,q1⟩:=zz0
  exact h2 aa s1 σ1 H1 _ _ Q I1 rr q1
noncomputable def HV (K:PySem.W.Frag) (n:Nat) (t:fQ):TG:=fun v σ H Q=>∃a xs,v=.ref a∧aZ K H a xs∧xs.length=n∧t xs σ H Q
theorem zK {es:List Expr} {k:Nat} {t:fQ} {n:Nat} (hc:X.calm=true) (h:er X es t)
  (hn:(assignEach es X.env).length=n:=by rfl) (hst:(assignEach es X.env).findIdx? (·.1)=none:=by rfl):PG X (.Tuple es k pos) (HV X.K n t):=by
 intro aa s σ H v u Q I r hw
 obtain ⟨a,xs,e1,hq,hl,hw⟩:=hw
 subst e1
 cases r
 obtain ⟨ai,rv,ht,hz⟩:=I.tuple hq
 refine assign_Tuple_tuple (I.ok.hd hc) ht (by simp [hn,←hl,rv.length]) hst fun h' hx=>?_
 have I1:Inv X aa σ H { s with heap:=h' }:=I.kept (t':=s.toks) fun b o e=>hx b o (Nat.ne_of_lt (Heap.lt_size e)) e
 exact h aa _ σ H xs _ Q I1 (by simpa using rv) hw
noncomputable def DD (to ti:TE) (t:km):TG:=fun v σ H Q=>to σ H fun o H1=>ti σ H1 fun i H2=>t o i v H2 fun H3=>Q σ H3
theorem rZ {o i:Expr} {to ti:TE} {t:km} (ho:PE X o to) (hi:PE X i ti) (hs:nX X t)
  (ha:∀v,assign (.Subscript o i pos) X.env v=(do
   let ov ←holding [v] (eval o X.env)
   let iv ←holding [v,ov] (eval i X.env)
   standAt pos
   holding [v,ov,iv] (setItem ov iv v)
   release [v,ov,iv] []):=by intro _;rfl):PG X (.Subscript o i pos) (DD to ti t):=by
 intro aa s σ H v u Q I r h
 rw [ha]
 refine wpAny_bind (wpAny_holding (aC (ho aa s σ H _ I h) fun ov s1 zz0=>?_))
 obtain ⟨x,H1,I1,r1,q1⟩:=zz0
 refine wpAny_bind (wpAny_holding (aC (hi aa s1 σ H1 _ I1 q1) fun iv s2 zz0=>?_))
 obtain ⟨y,H2,I2,r2,q2⟩:=zz0
 refine wpAny_bind (wpAny_standAt (wpAny_bind (wpAny_holding (aC (hs aa s2 σ H2 x y v ov iv u _ I2 r1 r2 r q2) fun _ s3 zz0=>?_))))
 obtain ⟨H3,I3,q3⟩:=zz0
 exact wpAny_release ⟨σ,H3,I3,q3⟩
noncomputable def nq (te:TE) (g:TG):TS:=fun D σ H=>te σ H fun x H1=>g x σ H1 D.nx
theorem De {tg e:Expr} {te:TE} {g:TG} (he:PE X e te) (hg:PG X tg g) (hs:swapsWithSole [tg] e pos.line X.env=pure false:=by rfl) (hw:swappedStores [tg] e X.env=pure none:=by rfl)
  (h1:(assignEach [tg] X.env).map (·.2)=[assign tg X.env]:=by rfl):PS X (.Assign [tg] e pos) (nq te g):=by
 intro aa s σ H D I h
 refine wpAny_Assign_stores (aC (he aa s σ H _ I h) fun v s1 zz0=>?_) hs hw
 obtain ⟨x,H1,I1,r1,q1⟩:=zz0
 rw [h1]
 exact aC (hg aa s1 σ H1 x v _ I1 r1 q1) fun _ s2 q=>q
theorem BI {i:Nat} {x:Str} {e:Expr} {te:TE} {pos':Pos} (hN:X.N.Nodup) (hi:X.N[i]?=some x) (hx:Loc X.env.scope x) (he:PE X e te) (hs:swapsWith e (some (.Name x pos')) pos.line X.env=pure false:=by rfl) (hf:X.fn x=true∨X.env.scope.names.lookup x=some .local:=by first|exact .inl rfl|exact .inr rfl|assumption) :
  PS X (.Assign [.Name x pos'] e pos) (nq te (pE i)):=by
 intro aa s σ H D I h
 refine wpAny_Assign_Name (aC (he aa s σ H _ I h) fun v s1 zz0=>?_) hs
 obtain ⟨y,H1,I1,r1,q1⟩:=zz0
 exact kq I1 hN hi hx r1 (fun s2 I2=>⟨_,H1,I2,q1⟩) hf
noncomputable def G0 (i:Nat) (te:TE) (ti:nG):TS:=fun D σ H=>∃x,σ[i]?=some (some x)∧te σ H fun y H1=>ti x y H1 fun z H2=>D.nx (σ.set i (some z)) H2
theorem zE {i:Nat} {x:Str} {e:Expr} {te:TE} {op:Operator} {ti:nG} {pos':Pos} (hN:X.N.Nodup) (hi:X.N[i]?=some x) (hx:Loc X.env.scope x) (he:PE X e te) (ho:uN X op ti) (hf:X.fn x=true∨X.env.scope.names.lookup x=some .local:=by first|exact .inl rfl|exact .inr rfl|assumption) :
  PS X (.AugAssign (.Name x pos') op e pos) (G0 i te ti):=by
 intro aa s σ H D I h
 obtain ⟨v,e1,h⟩:=h
 obtain ⟨m,hn,hl⟩:=I.loc
 have vis:kE X.env.scope x:=by rcases hx with k|k;exact .inl k;exact .inr (.inl k)
 obtain ⟨u,r,l⟩:=hl i x v hi e1 vis
 refine wpAny_AugAssign_Name ?_
 have go:wpAny (model X.prog X.w) X.A (eval e X.env) (fun w s₂=>wpAny (model X.prog X.w) X.A (inplaceOp op u w) (fun r s₃=>wpAny (model X.prog X.w) X.A (storeName X.env x r) (fun _=>SP X aa D .next) X.xe s₃) X.xe s₂) X.xe s:=by
  refine aC (he aa s σ H _ I h) fun w s1 zz0=>?_
  obtain ⟨y,H1,I1,r1,q1⟩:=zz0
  refine aC (ho aa s1 σ H1 v y u w _ I1 r r1 q1) fun z s2 zz0=>?_
  obtain ⟨zv,H2,I2,r2,q2⟩:=zz0
  exact kq I2 hN hi hx r2 (fun s3 I3=>⟨_,H2,I3,q2⟩) hf
 rcases l with ⟨hk,hm⟩|⟨hk,c,hc,hcell⟩
 ·exact wpAny_loadName_local I.ok.kind hk hn hm go
 ·rcases hk with hk|hk
  ·exact wpAny_loadName_cell I.ok.kind hk hc hcell go
  ·rcases hx with k|k
   ·have:X.env.scope.names.lookup x=some .free:=hk
    rw [k] at this;cases this
   ·have:X.env.scope.names.lookup x=some .free:=hk
    rw [k] at this;cases this
end
section
variable {X:Cx} {pos:Pos}
noncomputable def FP (c:TT) (tb:TS):TS:=fun D σ H=>∃W:Nat→St→Hp→Prop,(∃m,W m σ H)∧∀m σ H,W m σ H →
 c σ H fun b H1=>if b=true then ∃N:St→Hp→Prop,(∀σ' H',N σ' H'→∃m',m' < m∧W m' σ' H')∧tb { D with nx:=N,ct:=N,bk:=D.nx } σ H1 else D.nx σ H1
theorem CT {c:Expr} {body:List Stmt} {tc:TT} {tb:TS} (hp:PassesOwn (model X.prog X.w) X.A X.env X.xe) (hc:PT X c tc) (hb:bx X body tb):PS X (.While c body [] pos) (FP tc tb):=by
 intro aa s σ H D I h
 obtain ⟨W,⟨m0,w0⟩,turn⟩:=h
 refine wpAny_While (codeAny_whileLoop (fun n s'=>∃σ' H',Inv X aa σ' H' s'∧W n σ' H') ?_ m0 ⟨σ,H,I,w0⟩)
 rintro n s1 ⟨σ1,H1,I1,w1⟩
 refine wpAny_passesOwn hp (aC (hc aa s1 σ1 H1 _ I1 (turn n σ1 H1 w1)) fun b s2 zz0=>?_)
 obtain ⟨H2,I2,q2⟩:=zz0
 cases b with
 |true =>
  obtain ⟨N,hN,q2⟩:=q2
  rw [if_pos rfl]
  refine wpAny_passesOwn hp (aC (hb aa s2 σ1 H2 _ I2 q2) fun f s3 q3=>?_)
  cases f with
  |next =>
   obtain ⟨σ3,H3,I3,n3⟩:=q3
   obtain ⟨m',hm,w3⟩:=hN σ3 H3 n3
   exact ⟨m',hm,σ3,H3,I3,w3⟩
  |cont =>
   obtain ⟨σ3,H3,I3,n3⟩:=q3
   obtain ⟨m',hm,w3⟩:=hN σ3 H3 n3
   exact ⟨m',hm,σ3,H3,I3,w3⟩
  |brk=>exact q3
  |ret v=>exact q3
 |false =>
  rw [if_neg Bool.false_ne_true]
  exact wpAny_execs_nil ⟨σ1,H2,I2,q2⟩
end
structure It where
 go:Nat→Hp→Prop
 yld:Nat→Hp→V→Hp→Prop
 stop:Nat→Hp→Prop
noncomputable def eG (X:Cx) (aa:List (Addr×Obj)) (H:Hp) (b:Addr):Prop :=
 H b=none∧b≠X.env.locals∧b ∉ X.fs∧(b∈X.ex∨X.s₀.heap.objs.size≤b)∧(∀x c,X.env.cells.lookup x=some c→c≠b)∧∀p∈X.pn++aa,p.1≠b
theorem Inv.fpOk {X:Cx} {aa:List (Addr×Obj)} {σ:St} {H H':Hp} {s:Shared} {b:Addr} (I:Inv X aa σ H s) (hb:s.heap.objs.size≤b) (hn:H' b=none):eG X aa H' b:=by
 refine ⟨hn,Nat.ne_of_gt (Nat.lt_of_lt_of_le I.lt hb),I.nofs hb,.inr (Nat.le_trans I.sz hb),fun x c e z=>?_,fun p hp z=>?_⟩
 ·obtain ⟨v,q⟩:=I.cell x c e
  exact absurd (Nat.lt_of_lt_of_le q.lt (by rw [z];exact hb)) (Nat.lt_irrefl _)
 ·exact absurd (Nat.lt_of_lt_of_le (Heap.lt_size (I.pin p hp).1) (by rw [z];exact hb)) (Nat.lt_irrefl _)
structure Turn (P:Program) (w:World) (K:PySem.W.Frag) (tg:Expr) (J:It) (fp:List Addr) (it:Addr) (tn:Nat→Heap→Prop):Prop where
 mem:it∈fp
 obj:∀i h,tn i h→∀b∈fp,∃o,h.get? b=some o∧∀v,o.data≠.cell v
 keep:∀i h h',tn i h→(∀b∈fp,∀o,h.get? b=some o→h'.get? b=some o)→tn i h'
 item:∀(X:Cx),X.prog=P→X.w=w→X.K=K→X.calm=true→∀(i:Nat) (aa:List (Addr×Obj)) (s:Shared) (σ:St) (H:Hp) (E:Value→Shared→Prop),Inv X aa σ H s→(∀b∈fp,eG X aa H b)→tn i s.heap→J.go i H →
  wpAny (model P w) X.A (pyNext (.ref it)) (fun r s1=>∃u,r=some u ∧
   wpAny (model P w) X.A (letOwnedTupleGo tg (.ref it) u) (fun _ s2=>∃x H',Inv X aa σ H' s2∧RelV x u∧J.yld i H x H'∧tn (i+1) s2.heap∧∀b∈fp,H' b=none) E s1) E s
 done:∀(X:Cx),X.prog=P→X.w=w→X.K=K→X.calm=true→∀(i:Nat) (aa:List (Addr×Obj)) (s:Shared) (σ:St) (H:Hp) (E:Value→Shared→Prop),Inv X aa σ H s→(∀b∈fp,eG X aa H b)→tn i s.heap→J.stop i H →
  wpAny (model P w) X.A (pyNext (.ref it)) (fun r s1=>r=none∧Inv X aa σ H s1) E s
 self:∀(A:Around) (i:Nat) (s:Shared) (Q:Value→Shared→Prop) (E:Value→Shared→Prop),tn i s.heap→Q (.ref it) s→wpAny (model P w) A (pyIter (.ref it)) Q E s
noncomputable abbrev TI:=St→Hp→(It→Hp→Prop)→Prop
noncomputable def sV (X:Cx) (aa:List (Addr×Obj)) (σ:St) (tg:Expr) (R:It→Hp→Prop) (itv:Value) (s2:Shared):Prop :=
 ∃(it:Addr) (fp:List Addr) (tn:Nat→Heap→Prop) (J:It) (H':Hp),itv=.ref it∧Inv X aa σ H' s2∧Turn X.prog X.w X.K tg J fp it tn∧tn 0 s2.heap∧(∀b∈fp,eG X aa H' b)∧R J H'
noncomputable def PI (X:Cx) (tg iter:Expr) (wi:TI):Prop :=
 ∀(aa:List (Addr×Obj)) (s:Shared) (σ:St) (H:Hp) (R:It→Hp→Prop),Inv X aa σ H s→wi σ H R →
  wpAny (model X.prog X.w) X.A (eval iter X.env) (fun v s1=>wpAny (model X.prog X.w) X.A (pyIter v) (sV X aa σ tg R) X.xe s1) X.xe s
theorem iG {M:Model} {A:Around} {E:Value→Shared→Prop} {s:Shared} {tg:Expr} {it:Addr} {u:Value} {o:Obj} {n:String} {vs:Array Value} {Q:Unit→Shared→Prop} (ho:s.heap.get? it=some o) (hc:o.cls=.type n) (hd:o.data=.fields vs)
  (hn:["enumerate", "zip", "dict_itemiterator", "dict_reverseitemiterator", "odict_iterator", "itertools.zip_longest", "itertools.pairwise"].contains n=false) (hQ:Q () s):wpAny M A (letOwnedTupleGo tg (.ref it) u) Q E s:=by
 unfold letOwnedTupleGo
 cases tg<;>first
  |exact wpAny_pure hQ
  |(cases u<;>first
    |exact wpAny_pure hQ
    |(refine wpAny_bind (wpAny_load ho ?_)
      rw [hc,hd]
      show wpAny M A (if (["enumerate", "zip", "dict_itemiterator", "dict_reverseitemiterator", "odict_iterator", "itertools.zip_longest", "itertools.pairwise"].contains n && vs[0]? ==some (rawInt _))=true then _ else _) Q E s
      rw [if_neg (by intro h;rw [hn,Bool.false_and] at h;cases h)]
      exact wpAny_pure hQ))
noncomputable def oK (K:PySem.W.Frag) (a:Addr):It :=
 ⟨fun i H=>∃xs x,bG K H a xs∧xs[i]?=some x,fun i H x H'=>H'=H∧∀xs,bG K H a xs→xs[i]?=some x,fun i H=>∃xs,bG K H a xs∧xs.length≤i⟩
noncomputable def nN (K:PySem.W.Frag) (a:Addr):It :=
 ⟨fun i H=>∃xs x,aZ K H a xs∧xs[i]?=some x,fun i H x H'=>H'=H∧∀xs,aZ K H a xs→xs[i]?=some x,fun i H=>∃xs,aZ K H a xs∧xs.length≤i⟩
noncomputable def fD (lo:Int) (n:Nat):It:=⟨fun i _=>i < n,fun i H x H'=>H'=H∧x=.int (lo+i),fun i _=>n≤i⟩
theorem GQ {P:Program} {w:World} {K:PySem.W.Frag} {tg:Expr} (a it:Addr):Turn P w K tg (oK K a) [it] it (fun i h=>h.IsListIter it a i) where
 mem:=by simp
 obj:=fun i h st b hb=>by
  have e:b=it:=by simpa using hb
  subst e
  obtain ⟨o,e,c,d⟩:=st
  exact ⟨o,e,fun v z=>by rw [d] at z;cases z⟩
 keep:=fun i h h' st k=>st.at fun o e=>k it (by simp) o e
 item:=by
  intro X hP hw hK hc i aa s σ H E I hf st hg
  subst hP hw hK
  obtain ⟨xs,x,hq,hx⟩:=hg
  obtain ⟨ai,rv,p,hz⟩:=I.list hq
  obtain ⟨u,hu,ru⟩:=rv.get hx
  obtain ⟨f0,f1,f2,f3,f4,f5⟩:=hf it (by simp)
  refine wpAny_pyNext_list_item st p.isList (x:=u) (by simpa using hu) fun h' st' sb=>?_
  have I1:Inv X aa σ H { s with heap:=h' }:=I.turned (t':=s.toks) (fun b o hb e=>(sb.2 b hb).trans e) f0 f1 f3 f4 f5
  obtain ⟨o,e,c,d⟩:=id st'
  exact ⟨u,rfl,iG (s:={ s with heap:=h' }) e c d (by decide) ⟨x,H,I1,ru,⟨rfl,fun ys hy=>by rw [I.list_inj hy hq];exact hx⟩,st',fun b hb=>(hf b hb).1⟩⟩
 done:=by
  intro X hP hw hK hc i aa s σ H E I hf st hg
  subst hP hw hK
  obtain ⟨xs,hq,hx⟩:=hg
  obtain ⟨ai,rv,p,hz⟩:=I.list hq
  obtain ⟨f0,f1,f2,f3,f4,f5⟩:=hf it (by simp)
  have hl:=rv.length
  exact wpAny_pyNext_list_end (I.ok.hd hc) st p.isList (by simp;(first|lia|omega)) fun h' eb=>⟨rfl,I.turned (t':=s.toks) (fun b o hb e=>eb b o hb e) f0 f1 f3 f4 f5⟩
 self:=fun _ _ _ _ _ st h=>wpAny_pyIter_listiter st h
theorem AY {P:Program} {w:World} {K:PySem.W.Frag} {tg:Expr} (a it:Addr):Turn P w K tg (nN K a) [it] it (fun i h=>h.IsTupleIter it a i) where
 mem:=by simp
 obj:=fun i h st b hb=>by
  have e:b=it:=by simpa using hb
  subst e
  obtain ⟨o,e,c,d⟩:=st
  exact ⟨o,e,fun v z=>by rw [d] at z;cases z⟩
 keep:=fun i h h' st k=>st.at fun o e=>k it (by simp) o e
 item:=by
  intro X hP hw hK hc i aa s σ H E I hf st hg
  subst hP hw hK
  obtain ⟨xs,x,hq,hx⟩:=hg
  obtain ⟨ai,rv,p,hz⟩:=I.tuple hq
  obtain ⟨u,hu,ru⟩:=rv.get hx
  obtain ⟨f0,f1,f2,f3,f4,f5⟩:=hf it (by simp)
  refine wpAny_pyNext_tuple_item st (show s.heap.IsTuple a ai.toArray from p) (x:=u) (by simpa using hu) fun h' st' sb=>?_
  have I1:Inv X aa σ H { s with heap:=h' }:=I.turned (t':=s.toks) (fun b o hb e=>(sb.2 b hb).trans e) f0 f1 f3 f4 f5
  obtain ⟨o,e,c,d⟩:=id st'
  exact ⟨u,rfl,iG (s:={ s with heap:=h' }) e c d (by decide) ⟨x,H,I1,ru,⟨rfl,fun ys hy=>by rw [I.tuple_inj hy hq];exact hx⟩,st',fun b hb=>(hf b hb).1⟩⟩
 done:=by
  intro X hP hw hK hc i aa s σ H E I hf st hg
  subst hP hw hK
  obtain ⟨xs,hq,hx⟩:=hg
  obtain ⟨ai,rv,p,hz⟩:=I.tuple hq
  obtain ⟨f0,f1,f2,f3,f4,f5⟩:=hf it (by simp)
  have hl:=rv.length
  exact wpAny_pyNext_tuple_end (I.ok.hd hc) st (show s.heap.IsTuple a ai.toArray from p) (by simp;(first|lia|omega)) fun h' eb=>⟨rfl,I.turned (t':=s.toks) (fun b o hb e=>eb b o hb e) f0 f1 f3 f4 f5⟩
 self:=fun _ _ _ _ _ st h=>wpAny_pyIter_tupleiter st h
theorem Fc {P:Program} {w:World} {K:PySem.W.Frag} {tg:Expr} (it:Addr) (lo:Int) (n:Nat):Turn P w K tg (fD lo n) [it] it (fun i h=>IsRangeIter h it (lo+(i:Nat)*1) ((n:Int)-(i:Nat)) 1) where
 mem:=by simp
 obj:=fun i h st b hb=>by
  have e:b=it:=by simpa using hb
  subst e
  exact ⟨_,st,fun v z=>by
   have z':Data.fields _=Data.cell v:=z
   cases z'⟩
 keep:=fun i h h' st k=>k it (by simp) _ st
 item:=by
  intro X hP hw hK hc i aa s σ H E I hf st hg
  subst hP hw hK
  obtain ⟨f0,f1,f2,f3,f4,f5⟩:=hf it (by simp)
  have W:=Walks.range (prog:=X.prog) (w:=X.w) (I.ok.hd hc) it lo 1 n
  refine W.item i s _ _ hg st fun v h' tk hv st' kk=>?_
  obtain ⟨t,rfl⟩:=hv
  have I1:Inv X aa σ H { s with heap:=h',toks:=tk }:=I.turned (fun b o hb e=>kk b o (by simpa using hb) e) f0 f1 f3 f4 f5
  refine ⟨_,rfl,iG (s:={ s with heap:=h',toks:=tk }) (n:= "range_iterator") st' rfl rfl (by decide) ⟨.int (lo+i),H,I1,⟨t,?_⟩,⟨rfl,rfl⟩,st',fun b hb=>(hf b hb).1⟩⟩
  rw [Int.mul_one]
 done:=by
  intro X hP hw hK hc i aa s σ H E I hf st hg
  subst hP hw hK
  obtain ⟨f0,f1,f2,f3,f4,f5⟩:=hf it (by simp)
  exact wpAny_pyNext_range_end (I.ok.hd hc) st (by have:n≤i:=hg;(first|lia|omega)) fun h' eb=>⟨rfl,I.turned (t':=s.toks) (fun b o hb e=>eb b o hb e) f0 f1 f3 f4 f5⟩
 self:=fun _ _ _ _ _ st h=>wpAny_pyIter_rangeiter st h
end L2
namespace L2
open PySem PySem.Spec PyProof.Rows
section
variable {X:Cx} {tg:Expr}
theorem zU {aa:List (Addr×Obj)} {σ:St} {H:Hp} {s:Shared} {R:It→Hp→Prop} {E:Value→Shared→Prop} {lo hi:Int} {t u v:Tok} {tk:Nat} (I:Inv X aa σ H s) (h1:-(2 ^ 62)≤lo) (h2:lo < 2 ^ 62) (h3:-(2 ^ 62)≤hi) (h4:hi < 2 ^ 62)
  (q:R (fD lo (hi-lo).toNat) H):wpAny (model X.prog X.w) X.A (pyIter (.ref s.heap.objs.size)) (sV X aa σ tg R) E { s with heap:=s.heap.push { cls:=.type "range",data:=.fields #[.int lo t,.int hi u,.int 1 v] },toks:=tk }:=by
 refine wpAny_pyIter_range (IsRange.new ..) (small_one h1 h2 h3 h4) ?_
 have I1:Inv X aa σ H { s with heap:=s.heap.push { cls:=.type "range",data:=.fields #[.int lo t,.int hi u,.int 1 v] },toks:=tk }:=I.kept fun b o e=>Heap.get?_push_of_some _ e
 refine ⟨(s.heap.push { cls:=.type "range",data:=.fields #[.int lo t,.int hi u,.int 1 v] }).objs.size,[(s.heap.push { cls:=.type "range",data:=.fields #[.int lo t,.int hi u,.int 1 v] }).objs.size],_,_,H,rfl,
  I1.kept (t':=tk) fun b o e=>Heap.get?_push_of_some _ e,Fc _ lo (hi-lo).toNat,?_,fun b hb=>?_,q⟩
 ·have e1:lo+((0:Nat):Int)*1=lo:=by simp
  have e2:(((hi-lo).toNat:Nat):Int)-((0:Nat):Int)=Builtin.Range.rangeSize lo hi 1:=by rw [rangeSize_one];split<;>(first|lia|omega)
  show IsRangeIter _ _ (lo+((0:Nat):Int)*1) ((((hi-lo).toNat:Nat):Int)-((0:Nat):Int)) 1
  rw [e1,e2]
  exact Heap.get?_push_size _ rfl
 ·have e:b=(s.heap.push { cls:=.type "range",data:=.fields #[.int lo t,.int hi u,.int 1 v] }).objs.size:=by simpa using hb
  subst e
  exact I1.fpOk (Nat.le_refl _) (I1.ao.fresh (Nat.le_refl _))
noncomputable def uc (ta:TA):TI:=fun σ H R=>ta σ H fun vs H1=>∃j:Int,vs=[.int j]∧-(2 ^ 62)≤j∧j < 2 ^ 62∧R (fD 0 j.toNat) H1
theorem mR {a:Expr} {ta:TA} {p pos:Pos} (hg:Gl X "range") (hm:X.mg "range" = none) (ha:PA X [a] ta) (hs:starEach [a] X.env=[(false,eval a X.env)]:=by rfl):PI X tg (.Call (.Name "range" p) [a] [] pos) (uc ta):=by
 intro aa s σ H R I h
 refine Call_ (fj I hg hm boot_range (PyProof.Rows.callWith_type1 (aC (ha pos aa s σ H _ I h) fun us s1 zz0=>?_) hs rfl))
 obtain ⟨vs,H1,I1,r1,q1⟩:=zz0
 obtain ⟨j,e,q1,q2,q⟩:=q1
 subst e
 cases r1 with
 |cons r rr =>
  cases rr
  obtain ⟨t,rfl⟩:=r
  exact call_range_1 (zU I1 (by first|lia|omega) (by first|lia|omega) q1 q2 (by simpa using q))
noncomputable def rE (wi:TI) (g:TG) (tb:TS):TS:=fun D σ H=>wi σ H fun J H1=>∃W:Nat→Nat→St→Hp→Prop,(∃m,W 0 m σ H1)∧∀i m σ H,W i m σ H →
 (J.stop i H∧D.nx σ H)∨(J.go i H∧∃N:St→Hp→Prop,(∀σ' H',N σ' H'→∃m',m' < m∧W (i+1) m' σ' H')∧∀x H',J.yld i H x H'→g x σ H' fun σ2 H2=>tb { D with nx:=N,ct:=N,bk:=D.nx } σ2 H2)
noncomputable def iW (fp:List Addr) (h:Heap):List (Addr×Obj):=fp.filterMap fun b=>(h.get? b).map fun o=>(b,o)
theorem kI {fp:List Addr} {h:Heap} {b:Addr} {o:Obj} (hb:b∈fp) (e:h.get? b=some o):(b,o)∈iW fp h:=List.mem_filterMap.mpr ⟨b,hb,by rw [e];rfl⟩
theorem xY {fp:List Addr} {h:Heap} {p:Addr×Obj} (hp:p∈iW fp h):p.1∈fp∧h.get? p.1=some p.2:=by
 obtain ⟨b,hb,e⟩:=List.mem_filterMap.mp hp
 cases q:h.get? b with
 |none=>rw [q] at e;cases e
 |some o =>
  rw [q] at e
  have e':(b,o)=p:=Option.some.inj e
  subst e'
  exact ⟨hb,q⟩
theorem Inv.pinned {aa:List (Addr×Obj)} {σ:St} {H:Hp} {s:Shared} {fp:List Addr} (I:Inv X aa σ H s) (hf:∀b∈fp,eG X aa H b) (ho:∀b∈fp,∃o,s.heap.get? b=some o∧∀v,o.data≠.cell v):Inv X (aa++iW fp s.heap) σ H s :=
 I.pins_of fun p hp=>(List.mem_append.mp hp).elim (fun z=>I.pin p (List.mem_append_right _ z)) fun z=>by
  obtain ⟨hb,e⟩:=xY z
  obtain ⟨f0,f1,f2,_⟩:=hf p.1 hb
  obtain ⟨o,e',d⟩:=ho p.1 hb
  rw [e] at e';cases e'
  exact ⟨e,f0,f1,f2,d⟩
theorem Inv.unpinned {aa pl:List (Addr×Obj)} {σ:St} {H:Hp} {s:Shared} (I:Inv X (aa++pl) σ H s):Inv X aa σ H s:=I.pins_of fun p hp=>I.pin p (List.mem_append_right _ (List.mem_append_left _ hp))
theorem gS {iter:Expr} {body:List Stmt} {wi:TI} {g:TG} {tb:TS} {pos:Pos} (hp:PassesOwn (model X.prog X.w) X.A X.env X.xe) (hc:X.calm=true) (hi:PI X tg iter wi) (hg:PG X tg g) (hb:bx X body tb)
  (hs:∀x,foldedSetIterable iter X.env x=pure x:=by intro _;rfl):PS X (.For tg iter body [] pos) (rE wi g tb):=by
 intro aa s σ H D I h
 refine wpAny_For (aC (hi aa s σ H _ I h) fun v s1 h1=>aC h1 fun itv s2 h2=>?_) hs
 obtain ⟨it,fp,tn,J,H2,e,I2,T,st2,f2,W,⟨m0,w0⟩,turn⟩:=h2
 subst e
 have stat:∀{H':Hp},(∀b∈fp,H' b=none)→∀b∈fp,eG X aa H' b:=fun hn b hb=>⟨hn b hb,(f2 b hb).2⟩
 refine codeAny_forLoop_any (fun n s'=>∃i σ' H',Inv X aa σ' H' s'∧tn i s'.heap∧(∀b∈fp,H' b=none)∧W i n σ' H') ?_ m0 ⟨0,σ,H2,I2,st2,fun b hb=>(f2 b hb).1,w0⟩
 rintro n s3 ⟨i,σ3,H3,I3,st3,fr3,w3⟩
 rcases turn i n σ3 H3 w3 with ⟨stop,qn⟩|⟨go,N,hN,step⟩
 ·refine wpAny_passesOwn hp (aC (T.done X rfl rfl rfl hc i aa s3 σ3 H3 X.xe I3 (stat fr3) st3 stop) fun r s4 zz0=>?_)
  obtain ⟨hr,I4⟩:=zz0
  subst hr
  exact wpAny_execs_nil ⟨σ3,H3,I4,qn⟩
 ·refine wpAny_passesOwn hp (aC (T.item X rfl rfl rfl hc i aa s3 σ3 H3 X.xe I3 (stat fr3) st3 go) fun r s4 zz0=>?_)
  obtain ⟨u,hr,h4⟩:=zz0
  subst hr
  refine wpAny_passesOwn hp (aC h4 fun _ s5 zz0=>?_)
  obtain ⟨x,H5,I5,r5,y5,st5,fr5⟩:=zz0
  have I5':=I5.pinned (stat fr5) (T.obj _ _ st5)
  refine wpAny_passesOwn hp (aC (hg _ s5 σ3 H5 x u _ I5' r5 (step x H5 y5)) fun _ s6 zz0=>?_)
  obtain ⟨σ6,H6,I6,q6⟩:=zz0
  refine wpAny_passesOwn hp (aC (hb _ s6 σ6 H6 _ I6 q6) fun f s7 q7=>?_)
  have again:∀{σ7:St} {H7:Hp},Inv X (aa++iW fp s5.heap) σ7 H7 s7→N σ7 H7→∃m,m < n∧∃i σ' H',Inv X aa σ' H' s7∧tn i s7.heap∧(∀b∈fp,H' b=none)∧W i m σ' H':=fun {σ7 H7} I7 n7=>by
   obtain ⟨m',hm,w7⟩:=hN σ7 H7 n7
   refine ⟨m',hm,i+1,σ7,H7,I7.unpinned,T.keep _ _ _ st5 fun b hb o e=>(I7.pin (b,o) (List.mem_append_right _ (List.mem_append_right _ (kI hb e)))).1,fun b hb=>?_,w7⟩
   obtain ⟨o,e,d⟩:=T.obj _ _ st5 b hb
   exact (I7.pin (b,o) (List.mem_append_right _ (List.mem_append_right _ (kI hb e)))).2.1
  cases f with
  |next=>obtain ⟨σ7,H7,I7,n7⟩:=q7;exact again I7 n7
  |cont=>obtain ⟨σ7,H7,I7,n7⟩:=q7;exact again I7 n7
  |brk=>obtain ⟨σ7,H7,I7,q7⟩:=q7;exact ⟨σ7,H7,I7.unpinned,q7⟩
  |ret v=>obtain ⟨x7,σ7,H7,I7,r7,q7⟩:=q7;exact ⟨x7,σ7,H7,I7.unpinned,r7,q7⟩
end
theorem zR {lo:Int} {n:Nat} {g:TG} {tb:TS} {D:Ends} {σ:St} {H:Hp} (Pv:Nat→St→Hp→Prop) (h0:Pv 0 σ H)
  (hs:∀i σ H,i < n→Pv i σ H→g (.int (lo+i)) σ H fun σ2 H2=>tb { D with nx:=Pv (i+1),ct:=Pv (i+1),bk:=D.nx } σ2 H2) (hd:∀σ H,Pv n σ H→D.nx σ H) :
  ∃W:Nat→Nat→St→Hp→Prop,(∃m,W 0 m σ H)∧∀i m σ H,W i m σ H →
   ((fD lo n).stop i H∧D.nx σ H)∨((fD lo n).go i H∧∃N:St→Hp→Prop,(∀σ' H',N σ' H'→∃m',m' < m∧W (i+1) m' σ' H')∧∀x H',(fD lo n).yld i H x H'→g x σ H' fun σ2 H2=>tb { D with nx:=N,ct:=N,bk:=D.nx } σ2 H2):=by
 refine ⟨fun i m σ H=>m=n-i∧i≤n∧Pv i σ H,⟨n,by simp,Nat.zero_le _,h0⟩,?_⟩
 rintro i m σ H ⟨rfl,hi,p⟩
 by_cases hlt:i < n
 ·refine .inr ⟨hlt,Pv (i+1),fun σ' H' p'=>⟨n-(i+1),by first|lia|omega,rfl,hlt,p'⟩,fun x H' y=>?_⟩
  obtain ⟨e,y⟩:=y
  subst e y
  exact hs i σ _ hlt p
 ·have e:i=n:=by (first|lia|omega)
  subst e
  exact .inl ⟨Nat.le_refl _,hd σ H p⟩
end L2
namespace L2
open PySem PySem.Spec PyProof.Rows
noncomputable abbrev R2:=V→V→Hp→VK→Prop
noncomputable def bU (X:Cx) (f:Value→Value→Sem Value) (r:R2):Prop :=
 ∀(aa:List (Addr×Obj)) (s:Shared) (σ:St) (H:Hp) (x y:V) (v u:Value) (Q:VK),Inv X aa σ H s→RelV x v→RelV y u→r x y H Q →
  wpAny (model X.prog X.w) X.A (f v u) (EP X aa σ Q) X.xe s
noncomputable def n8 (X:Cx) (f:Value→Sem Value) (r:V→Hp→VK→Prop):Prop :=
 ∀(aa:List (Addr×Obj)) (s:Shared) (σ:St) (H:Hp) (x:V) (v:Value) (Q:VK),Inv X aa σ H s→RelV x v→r x H Q →
  wpAny (model X.prog X.w) X.A (f v) (EP X aa σ Q) X.xe s
noncomputable def gy (X:Cx) (f:Value) (r:List V→Hp→VK→Prop):Prop :=
 ∀(aa:List (Addr×Obj)) (s:Shared) (σ:St) (H:Hp) (xs:List V) (us:List Value) (Q:VK),Inv X aa σ H s→Vals xs us→r xs H Q →
  wpAny (model X.prog X.w) X.A (call f us) (EP X aa σ Q) X.xe s
noncomputable def yt (X:Cx) (r:V→Hp→(Bool→Hp→Prop)→Prop):Prop :=
 ∀(aa:List (Addr×Obj)) (s:Shared) (σ:St) (H:Hp) (x:V) (v:Value) (Q:Bool→Hp→Prop),Inv X aa σ H s→RelV x v→r x H Q →
  wpAny (model X.prog X.w) X.A (truthy v) (TP X aa σ Q) X.xe s
noncomputable def kB (r:R2) (ta tb:TE):TE:=fun σ H Q=>ta σ H fun x H1=>tb σ H1 fun y H2=>r x y H2 Q
noncomputable def Fe (r:V→Hp→VK→Prop) (ta:TE):TE:=fun σ H Q=>ta σ H fun x H1=>r x H1 Q
noncomputable def rI (C:Int→Int→Prop) (g:Int→Int→V):R2:=fun x y H Q=>∃i j,x=.int i∧y=.int j∧C i j∧Q (g i j) H
noncomputable def fL (g:Int→Int→V):R2:=fun x y H Q=>∃i j,x=.int i∧y=.int j∧Q (g i j) H
noncomputable def rU (g:Int→V):V→Hp→VK→Prop:=fun x H Q=>∃i,x=.int i∧Q (g i) H
section
variable {X:Cx} {a b c:Expr} {ta tb tc:TE} {pos:Pos}
theorem qy (ha:PE X a ta) (hb:PE X b tb) {aa:List (Addr×Obj)} {s:Shared} {σ:St} {H:Hp} {R:V→V→Hp→Prop} (I:Inv X aa σ H s)
  (h:ta σ H fun x H1=>tb σ H1 fun y H2=>R x y H2) {Q:Value→Shared→Prop} {f:Value→Value→Sem Value}
  (hf:∀v u s2 x y H2,Inv X aa σ H2 s2→RelV x v→RelV y u→R x y H2→wpAny (model X.prog X.w) X.A (f v u) Q X.xe s2) :
  wpAny (model X.prog X.w) X.A (eval a X.env) (fun v s₁=>wpAny (model X.prog X.w) X.A (eval b X.env) (fun u s₂=>wpAny (model X.prog X.w) X.A (f v u) Q X.xe s₂) X.xe s₁) X.xe s:=by
 refine aC (ha aa s σ H _ I h) fun v s1 zz0=>?_
 obtain ⟨x,H1,I1,r1,q1⟩:=zz0
 refine aC (hb aa s1 σ H1 _ I1 q1) fun u s2 zz0=>?_
 obtain ⟨y,H2,I2,r2,q2⟩:=zz0
 exact hf v u s2 x y H2 I2 r1 r2 q2
theorem Hu {op:Operator} {r:R2} (ho:bU X (binaryOp op) r) (ha:PE X a ta) (hb:PE X b tb):PE X (.BinOp a op b pos) (kB r ta tb):=by
 intro aa s σ H Q I h
 exact wpAny_BinOp (qy ha hb I h fun v u s2 x y H2 I2 rx ry q=>ho aa s2 σ H2 x y v u Q I2 rx ry q)
theorem Ak {op:UnaryOp} {r:V→Hp→VK→Prop} (ho:n8 X (unaryOp op) r) (ha:PE X a ta):PE X (.UnaryOp op a pos) (Fe r ta):=by
 intro aa s σ H Q I h
 refine UnaryOp_ (aC (ha aa s σ H _ I h) fun v s1 zz0=>?_)
 obtain ⟨x,H1,I1,r1,q1⟩:=zz0
 exact ho aa s1 σ H1 x v Q I1 r1 q1
theorem oY {f:Value→Value→Sem Value} {C:Int→Int→Prop} {g:Int→Int→Int}
  (rule:∀(i j:Int) (t u:Tok) (s:Shared) (Q:Value→Shared→Prop) (E:Value→Shared→Prop),C i j→Q (.int (g i j) s.toks) { s with toks:=s.toks+1 }→wpAny (model X.prog X.w) X.A (f (.int i t) (.int j u)) Q E s) :
  bU X f (rI C fun i j=>.int (g i j)):=by
 intro aa s σ H x y v u Q I rx ry h
 obtain ⟨i,j,rfl,rfl,hc,q⟩:=h
 obtain ⟨t,rfl⟩:=rx
 obtain ⟨t',rfl⟩:=ry
 exact rule i j t t' s _ _ hc ⟨.int (g i j),H,I.tok _,⟨_,rfl⟩,q⟩
theorem oh {f:Value→Value→Sem Value} {g:Int→Int→Int}
  (rule:∀(i j:Int) (t u:Tok) (s:Shared) (Q:Value→Shared→Prop) (E:Value→Shared→Prop),Q (.int (g i j) s.toks) { s with toks:=s.toks+1 }→wpAny (model X.prog X.w) X.A (f (.int i t) (.int j u)) Q E s) :
  bU X f (fL fun i j=>.int (g i j)):=by
 intro aa s σ H x y v u Q I rx ry h
 obtain ⟨i,j,rfl,rfl,q⟩:=h
 obtain ⟨t,rfl⟩:=rx
 obtain ⟨t',rfl⟩:=ry
 exact rule i j t t' s _ _ ⟨.int (g i j),H,I.tok _,⟨_,rfl⟩,q⟩
theorem vE {f:Value→Value→Sem Value} {g:Int→Int→Bool}
  (rule:∀(i j:Int) (t u:Tok) (s:Shared) (Q:Value→Shared→Prop) (E:Value→Shared→Prop),Q (.bool (g i j)) s→wpAny (model X.prog X.w) X.A (f (.int i t) (.int j u)) Q E s) :
  bU X f (fL fun i j=>.bl (g i j)):=by
 intro aa s σ H x y v u Q I rx ry h
 obtain ⟨i,j,rfl,rfl,q⟩:=h
 obtain ⟨t,rfl⟩:=rx
 obtain ⟨t',rfl⟩:=ry
 exact rule i j t t' s _ _ ⟨.bl (g i j),H,I,rfl,q⟩
noncomputable def qk (i j:Int):Prop:=0≤j∧j≤1000000∧i.natAbs < 2 ^ 64
noncomputable def nh (i j:Int):Prop:=(-(2 ^ 64) < i∧i < 2 ^ 64)∨(-(2 ^ 64) < j∧j < 2 ^ 64)
theorem nh.ok {i j:Int} (h:nh i j):IntMulOk i j:=by
 rcases h with ⟨h1,h2⟩|⟨h1,h2⟩
 ·exact .of_left (intBits_le_64 h1 h2)
 ·exact .of_right (intBits_le_64 h1 h2)
theorem DC:bU X (binaryOp .Add) (fL fun i j=>.int (i+j)):=oh fun _ _ _ _ _ _ _ q=>add_int q
theorem AV:bU X (binaryOp .Sub) (fL fun i j=>.int (i-j)):=oh fun _ _ _ _ _ _ _ q=>sub_int q
theorem y4:bU X (binaryOp .Mult) (rI nh fun i j=>.int (i*j)):=oY fun _ _ _ _ _ _ _ hc q=>mul_int q hc.ok
theorem CH:bU X (binaryOp .Mod) (rI (fun _ j=>0 < j) fun i j=>.int (i % j)):=oY fun i j _ _ _ _ _ hc q=>by
 have h1:(0:Int) < j:=hc
 exact mod_int' (by first|lia|omega) (by rw [Int.fmod_eq_emod_of_nonneg i (by first|lia|omega)];exact q)
theorem xJ:bU X (binaryOp .Pow) (rI qk fun i j=>.int (i ^ j.toNat)):=oY fun _ _ _ _ _ _ _ hc q=>pow_int_small hc.1 hc.2.1 hc.2.2 q
theorem HK:bU X (inplaceOp .Add) (fL fun i j=>.int (i+j)):=oh fun _ _ _ _ _ _ _ q=>iadd_int q
theorem D2 {f:Value→Sem Value} {g:Int→Int}
  (rule:∀(i:Int) (t:Tok) (s:Shared) (Q:Value→Shared→Prop) (E:Value→Shared→Prop),Q (.int (g i) s.toks) { s with toks:=s.toks+1 }→wpAny (model X.prog X.w) X.A (f (.int i t)) Q E s) :
  n8 X f (rU fun i=>.int (g i)):=by
 intro aa s σ H x v Q I rx h
 obtain ⟨i,rfl,q⟩:=h
 obtain ⟨t,rfl⟩:=rx
 exact rule i t s _ _ ⟨.int (g i),H,I.tok _,⟨_,rfl⟩,q⟩
theorem EA:n8 X (unaryOp .USub) (rU fun i=>.int (-i)):=D2 fun _ _ _ _ _ q=>neg_int q
end
noncomputable def rJ:V→V→Bool
 |.non,.non=>true|.non,.int _=>true|.int _,.non=>true|.non,.bl _=>true|.bl _,.non=>true|.non,.str _=>true|.str _,.non=>true
 |.int _,.int _=>true|.bl _,.bl _=>true|.str _,.str _=>true|.byt _,.byt _=>true
 |.int _,.str _=>true|.str _,.int _=>true|.bl _,.str _=>true|.str _,.bl _=>true
 |_,_=>false
noncomputable def Du:R2:=fun x y H Q=>rJ x y=true∧Q (.bl (decide (x=y))) H
noncomputable def B6:R2:=fun x y H Q=>rJ x y=true∧Q (.bl (!decide (x=y))) H
theorem vQ {i j:Int}:decide (V.int i=V.int j)=(i ==j):=by
 rw [Bool.eq_iff_iff]
 simp
theorem wb {i j:Bool}:decide (V.bl i=V.bl j)=(i ==j):=by
 rw [Bool.eq_iff_iff]
 simp
theorem tq {i j:Str}:decide (V.str i=V.str j)=(i ==j):=by
 rw [Bool.eq_iff_iff]
 simp
theorem qI {i j:Array UInt8}:decide (V.byt i=V.byt j)=(i.toList ==j.toList):=by
 rw [Bool.eq_iff_iff]
 cases i
 cases j
 simp
section
variable {X:Cx} {a b c:Expr} {ta tb tc:TE} {pos:Pos}
theorem bL {aa:List (Addr×Obj)} {σ:St} {H:Hp} {s:Shared} {Q:VK} {k k':Bool} (I:Inv X aa σ H s) (q:Q (.bl k) H) (e:k=k'):EP X aa σ Q (.bool k') s:=by
 subst e
 exact ⟨.bl k,H,I,rfl,q⟩
theorem mD:bU X (compareOp .Eq) Du:=by
 intro aa s σ H x y v u Q I rx ry h
 obtain ⟨hs,q⟩:=h
 cases x with
 |non =>
  cases rx
  cases y with
  |non=>cases ry;exact PySem.EqNone.eq_none_none (bL I q (by simp))
  |bl j=>cases ry;exact PySem.EqNone.eq_none_bool (bL I q (by simp))
  |int j=>obtain ⟨t',rfl⟩:=ry;exact PySem.EqNone.eq_none_int (bL I q (by simp))
  |str j=>obtain ⟨t',rfl⟩:=ry;exact PySem.EqNone.eq_none_str (bL I q (by simp))
  |_=>exact absurd (show false=true from hs) Bool.false_ne_true
 |bl i =>
  cases rx
  cases y with
  |non=>cases ry;exact PySem.EqNone.eq_bool_none (bL I q (by simp))
  |bl j=>cases ry;exact eq_bool (bL I q wb)
  |str j=>obtain ⟨t',rfl⟩:=ry;exact PySem.EqMixed.eq_bool_str (bL I q (by simp))
  |_=>exact absurd (show false=true from hs) Bool.false_ne_true
 |int i =>
  obtain ⟨t,rfl⟩:=rx
  cases y with
  |non=>cases ry;exact PySem.EqNone.eq_int_none (bL I q (by simp))
  |int j=>obtain ⟨t',rfl⟩:=ry;exact eq_int (bL I q vQ)
  |str j=>obtain ⟨t',rfl⟩:=ry;exact PySem.EqMixed.eq_int_str (bL I q (by simp))
  |_=>exact absurd (show false=true from hs) Bool.false_ne_true
 |str i =>
  obtain ⟨t,rfl⟩:=rx
  cases y with
  |non=>cases ry;exact PySem.EqNone.eq_str_none (bL I q (by simp))
  |bl j=>cases ry;exact PySem.EqMixed.eq_str_bool (bL I q (by simp))
  |int j=>obtain ⟨t',rfl⟩:=ry;exact PySem.EqMixed.eq_str_int (bL I q (by simp))
  |str j=>obtain ⟨t',rfl⟩:=ry;exact eq_str (bL I q tq)
  |_=>exact absurd (show false=true from hs) Bool.false_ne_true
 |byt i =>
  obtain ⟨t,rfl⟩:=rx
  cases y with
  |byt j=>obtain ⟨t',rfl⟩:=ry;exact PySem.W.eq_bytes (bL I q qI)
  |_=>exact absurd (show false=true from hs) Bool.false_ne_true
 |_=>cases y<;>exact absurd (show false=true from hs) Bool.false_ne_true
theorem nA:bU X (compareOp .NotEq) B6:=by
 intro aa s σ H x y v u Q I rx ry h
 obtain ⟨hs,q⟩:=h
 cases x with
 |non =>
  cases rx
  cases y with
  |non=>cases ry;exact PySem.EqNone.ne_none_none (bL I q (by simp))
  |bl j=>cases ry;exact PySem.EqNone.ne_none_bool (bL I q (by simp))
  |int j=>obtain ⟨t',rfl⟩:=ry;exact PySem.EqNone.ne_none_int (bL I q (by simp))
  |str j=>obtain ⟨t',rfl⟩:=ry;exact PySem.EqNone.ne_none_str (bL I q (by simp))
  |_=>exact absurd (show false=true from hs) Bool.false_ne_true
 |bl i =>
  cases rx
  cases y with
  |non=>cases ry;exact PySem.EqNone.ne_bool_none (bL I q (by simp))
  |bl j=>cases ry;exact ne_bool (bL I q (congrArg not wb))
  |str j=>obtain ⟨t',rfl⟩:=ry;exact PySem.EqMixed.ne_bool_str (bL I q (by simp))
  |_=>exact absurd (show false=true from hs) Bool.false_ne_true
 |int i =>
  obtain ⟨t,rfl⟩:=rx
  cases y with
  |non=>cases ry;exact PySem.EqNone.ne_int_none (bL I q (by simp))
  |int j=>obtain ⟨t',rfl⟩:=ry;exact ne_int (bL I q (congrArg not vQ))
  |str j=>obtain ⟨t',rfl⟩:=ry;exact PySem.EqMixed.ne_int_str (bL I q (by simp))
  |_=>exact absurd (show false=true from hs) Bool.false_ne_true
 |str i =>
  obtain ⟨t,rfl⟩:=rx
  cases y with
  |non=>cases ry;exact PySem.EqNone.ne_str_none (bL I q (by simp))
  |bl j=>cases ry;exact PySem.EqMixed.ne_str_bool (bL I q (by simp))
  |int j=>obtain ⟨t',rfl⟩:=ry;exact PySem.EqMixed.ne_str_int (bL I q (by simp))
  |str j=>obtain ⟨t',rfl⟩:=ry;exact ne_str (bL I q (congrArg not tq))
  |_=>exact absurd (show false=true from hs) Bool.false_ne_true
 |byt i =>
  obtain ⟨t,rfl⟩:=rx
  cases y with
  |byt j=>obtain ⟨t',rfl⟩:=ry;exact PySem.W.ne_bytes (bL I q (congrArg not qI))
  |_=>exact absurd (show false=true from hs) Bool.false_ne_true
 |_=>cases y<;>exact absurd (show false=true from hs) Bool.false_ne_true
theorem Ig:bU X (compareOp .Lt) (fL fun i j=>.bl (decide (i < j))):=vE fun _ _ _ _ _ _ _ q=>lt_int q
theorem E4:bU X (compareOp .Gt) (fL fun i j=>.bl (decide (j < i))):=vE fun _ _ _ _ _ _ _ q=>gt_int q
theorem yC:bU X (compareOp .In) (fun x y H Q=>∃i j,x=.str i∧y=.str j∧Q (.bl (!(Builtin.Str.occurrences j i 0 j.length 1).isEmpty)) H):=by
 intro aa s σ H x y v u Q I rx ry h
 obtain ⟨i,j,rfl,rfl,q⟩:=h
 obtain ⟨t,rfl⟩:=rx
 obtain ⟨t',rfl⟩:=ry
 exact in_str (bL I q rfl)
theorem Ay:bU X (compareOp .Is) (fun x y H Q=>y=.non∧Q (.bl (decide (x=.non))) H):=by
 intro aa s σ H x y v u Q I rx ry h
 obtain ⟨rfl,q⟩:=h
 cases ry
 refine is_none_gen (bL I q ?_)
 cases x<;>first
  |(cases rx;rfl)
  |(obtain ⟨t,rfl⟩:=rx;rfl)
theorem EM:bU X (compareOp .IsNot) (fun x y H Q=>y=.non∧Q (.bl (!decide (x=.non))) H):=by
 intro aa s σ H x y v u Q I rx ry h
 obtain ⟨rfl,q⟩:=h
 cases ry
 refine isnot_none_gen (bL I q ?_)
 cases x<;>first
  |(cases rx;rfl)
  |(obtain ⟨t,rfl⟩:=rx;rfl)
theorem ET:bU X (compareOp .NotIn) (fun x y H Q=>∃i j,x=.str i∧y=.str j∧Q (.bl (!(!(Builtin.Str.occurrences j i 0 j.length 1).isEmpty))) H):=by
 intro aa s σ H x y v u Q I rx ry h
 obtain ⟨i,j,rfl,rfl,q⟩:=h
 obtain ⟨t,rfl⟩:=rx
 obtain ⟨t',rfl⟩:=ry
 exact notIn_str (bL I q rfl)
theorem bj (b:Expr) {op:CmpOp} (h:op≠.In:=by decide) (h2:op≠.NotIn:=by decide):behindInMarks op b=false:=by
 have e1:(op ==CmpOp.In)=false:=by cases op<;>first|rfl|exact absurd rfl h
 have e2:(op ==CmpOp.NotIn)=false:=by cases op<;>first|rfl|exact absurd rfl h2
 cases b<;>simp [behindInMarks,e1,e2]
theorem Hi {op:CmpOp} {r:R2} (ho:bU X (compareOp op) r) (ha:PE X a ta) (hb:PE X b tb) (hm:behindInMarks op b=false):PE X (.Compare a [op] [b] pos) (kB r ta tb):=by
 intro aa s σ H Q I h
 exact wpAny_Compare1 (qy ha hb I h fun v u s2 x y H2 I2 rx ry q=>ho aa s2 σ H2 x y v u Q I2 rx ry q) hm
noncomputable def yG (t:TE):TT:=fun σ H Q=>t σ H fun x H'=>∃k,x=.bl k∧Q k H'
theorem CK {op:CmpOp} {r:R2} (ho:bU X (compareOp op) r) (ha:PE X a ta) (hb:PE X b tb) (hm:behindInMarks op b=false):PT X (.Compare a [op] [b] pos) (yG (kB r ta tb)):=by
 intro aa s σ H Q I h
 refine wpAny_isTrue_Compare1 (aC (ha aa s σ H _ I h) fun v s1 ⟨x,H1,I1,r1,q1⟩=>aC (hb aa s1 σ H1 _ I1 q1) fun u s2 ⟨y,H2,I2,r2,q2⟩ =>
  aC (ho aa s2 σ H2 x y v u _ I2 r1 r2 q2) fun c s3 ⟨z,H3,I3,r3,k,e,q3⟩=>?_) hm
 subst e
 cases r3
 exact wpAny_truthy_bool ⟨H3,I3,q3⟩
noncomputable def uo (K:PySem.W.Frag) (x:V) (H:Hp) (k:Bool):Prop :=
 match x with
 |.non=>k=false
 |.bl b=>k=b
 |.int i=>k=(i !=0)
 |.str y=>y.length≤sizeLine∧k=((y.length:Int) !=0)
 |.byt y=>y.size≤sizeLine∧k=((y.size:Int) !=0)
 |.ref p=>(∃xs,bG K H p xs∧k=!xs.isEmpty)∨(∃xs,aZ K H p xs∧k=!xs.isEmpty)∨∃ae,H p=some (.dK ae)∧k=!ae.isEmpty
 |_=>False
theorem DJ {κ:Type} {ae:List (κ×V)} {vs:List (κ×Value)} (r:KV ae vs):(!vs.isEmpty)=!ae.isEmpty:=by
 cases r<;>rfl
theorem tX {xs:List V} {ai:List Value} (r:Vals xs ai):(!ai.toArray.isEmpty)=!xs.isEmpty:=by
 cases r<;>simp
theorem jq:(sizeLine:Nat) < 2 ^ 63:=by rw [sizeLine_eq];decide
theorem yx:yt X (fun x H Q=>∃k,uo X.K x H k∧Q k H):=by
 intro aa s σ H x v Q I rx h
 obtain ⟨k,e,q⟩:=h
 have hl:=jq
 have hs:sizeLine=16777216:=sizeLine_eq
 cases x with
 |non =>
  cases rx
  have e':k=false:=e
  subst e'
  exact truthy_none ⟨H,I,q⟩
 |bl b =>
  cases rx
  have e':k=b:=e
  subst e'
  exact wpAny_truthy_bool ⟨H,I,q⟩
 |int i =>
  obtain ⟨t,rfl⟩:=rx
  have e':k=(i !=0):=e
  subst e'
  exact PySem.P.truthy_int ⟨H,I,q⟩
 |str y =>
  obtain ⟨t,rfl⟩:=rx
  obtain ⟨hy,e'⟩:y.length≤sizeLine∧k=((y.length:Int) !=0):=e
  subst e'
  exact PySem.P.truthy_str (by first|lia|omega) ⟨H,I.tok _,q⟩
 |byt y =>
  obtain ⟨t,rfl⟩:=rx
  obtain ⟨hy,e'⟩:y.size≤sizeLine∧k=((y.size:Int) !=0):=e
  subst e'
  exact PySem.W.truthy_bytes (by first|lia|omega) ⟨H,I.tok _,q⟩
 |ref p =>
  cases rx
  have e':(∃xs,bG X.K H p xs∧k=!xs.isEmpty)∨(∃xs,aZ X.K H p xs∧k=!xs.isEmpty)∨∃ae,H p=some (.dK ae)∧k=!ae.isEmpty:=e
  rcases e' with ⟨xs,hx,e'⟩|⟨xs,hx,e'⟩|⟨ae,hx,e'⟩
  ·subst e'
   obtain ⟨ai,r,pl,hz⟩:=I.list hx
   have hlen:=r.length
   exact wpAny_truthy_list pl.isList (by simp only [List.size_toArray];(first|lia|omega)) ⟨H,I.tok _,by rw [tX r];exact q⟩
  ·subst e'
   obtain ⟨ai,r,pl,hz⟩:=I.tuple hx
   have hlen:=r.length
   exact truthy_tuple pl (by simp only [List.size_toArray];(first|lia|omega)) ⟨H,I.tok _,by rw [tX r];exact q⟩
  ·subst e'
   obtain ⟨hz,hS,vs,r,m⟩:ae.length≤sizeLine∧(p ==sysModules)=false∧∃vs,KV ae vs∧s.heap.DictOf (ck X.prog X.w) p vs:=I.ao p _ hx
   have hlen:ae.length=vs.length:=Paired.length r
   exact wpAny_truthy_dict hS m (by first|lia|omega) ⟨H,I.tok _,by rw [DJ r];exact q⟩
 |_=>exact (show False from e).elim
theorem AX (ha:PE X a ta) (he:∀whole,isTrue a X.env whole=(do let v ←whole;standAt a.pos;holding [v] (truthy v))) :
  PT X a (fun σ H Q=>ta σ H fun x H'=>∃k,uo X.K x H' k∧Q k H'):=by
 intro aa s σ H Q I h
 refine isTrue_plain (aC (ha aa s σ H _ I h) fun v s1 zz0=>?_) (he _)
 obtain ⟨x,H1,I1,r1,q1⟩:=zz0
 exact yx aa s1 σ H1 x v Q I1 r1 q1
theorem DF:bU X (binaryOp .Add) (fun x y H Q=>∃i j,x=.str i∧y=.str j∧i.length+j.length≤sizeLine∧Q (.str (i++j)) H):=by
 intro aa s σ H x y v u Q I rx ry h
 obtain ⟨i,j,rfl,rfl,hz,q⟩:=h
 obtain ⟨t,rfl⟩:=rx
 obtain ⟨t',rfl⟩:=ry
 exact add_str (fun t' tk=>⟨.str (i++j),H,I.tok _,⟨_,rfl⟩,q⟩) hz
theorem C4:bU X (inplaceOp .Add) (fun x y H Q=>∃i j,x=.str i∧y=.str j∧i.length+j.length≤sizeLine∧Q (.str (i++j)) H):=by
 intro aa s σ H x y v u Q I rx ry h
 obtain ⟨i,j,rfl,rfl,hz,q⟩:=h
 obtain ⟨t,rfl⟩:=rx
 obtain ⟨t',rfl⟩:=ry
 exact iadd_str (fun t' tk=>⟨.str (i++j),H,I.tok _,⟨_,rfl⟩,q⟩) hz
theorem vals1 {x:V} {us:List Value} (r:Vals [x] us):∃u,us=[u]∧RelV x u:=by
 cases r with
 |cons r1 r2=>cases r2;exact ⟨_,rfl,r1⟩
theorem vals2 {x y:V} {us:List Value} (r:Vals [x,y] us):∃u w',us=[u,w']∧RelV x u∧RelV y w':=by
 cases r with
 |cons r1 r2 =>
  cases r2 with
  |cons r3 r4=>cases r4;exact ⟨_,_,rfl,r1,r3⟩
theorem AJ (hc:X.calm=true):gy X (.builtin "max") (fun xs H Q=>∃i j,xs=[.int i,.int j]∧Q (.int (if j > i then j else i)) H):=by
 intro aa s σ H xs us Q I r h
 obtain ⟨i,j,rfl,q⟩:=h
 obtain ⟨u,w',rfl,⟨t,rfl⟩,⟨t',rfl⟩⟩:=vals2 r
 refine max_two_ints (I.ok.hd hc) fun h' tk k=>⟨_,H,I.kept k,?_,q⟩
 by_cases hj:j > i
 ·rw [if_pos hj,if_pos hj];exact ⟨_,rfl⟩
 ·rw [if_neg hj,if_neg hj];exact ⟨_,rfl⟩
theorem uE:gy X (.type "int") (fun xs H Q=>(∃i,xs=[.int i]∧Q (.int i) H)∨∃k,xs=[.bl k]∧Q (.int (if k then 1 else 0)) H):=by
 intro aa s σ H xs us Q I r h
 rcases h with ⟨i,rfl,q⟩|⟨k,rfl,q⟩
 ·obtain ⟨u,rfl,t,rfl⟩:=vals1 r
  exact call_int_int ⟨.int i,H,I,⟨_,rfl⟩,q⟩
 ·obtain ⟨u,rfl,r1⟩:=vals1 r
  cases r1
  exact call_int_bool ⟨.int (if k then 1 else 0),H,I.tok _,⟨_,rfl⟩,q⟩
end
end L2
namespace L2
open PySem PySem.Spec PyProof.Rows
structure gW (h:Heap) (x dx C:Addr) (mA:Str→Option Value):Prop where
 obj:h.get? x=some (PySem.W.instObj C dx)
 ns:h.Ns1 dx mA
 ne:dx≠x
theorem Af {h:Heap} {dx:Addr} {mA:Str→Option Value} (n:h.Ns1 dx mA):∃od,h.get? dx=some od∧∀name,PySem.W.lookIn name od=some (mA name):=by
 obtain ⟨o,es,ep,ho,hd,hk,_,hm⟩:=n
 refine ⟨o,ho,fun name=>?_⟩
 have e:=hm name
 unfold nsFind findBy at e
 rw [←Array.find?_toList] at e
 unfold PySem.W.lookIn
 rw [hd]
 dsimp only
 split
 ·rename_i y q
  rw [q] at e
  exact congrArg some e
 ·rename_i q
  rw [q] at e
  have a:es.toList.any (·.refKey)=false:=by
   rw [List.any_eq_false]
   intro y hy
   obtain ⟨z,t,hkey⟩:=hk y (Array.mem_toList_iff.mp hy)
   simp [DictEntry.refKey,hkey]
  have a':¬es.toList.any (·.refKey)=true:=by rw [a];exact Bool.false_ne_true
  rw [if_neg a']
  exact congrArg some e
theorem gW.look {h:Heap} {x dx C:Addr} {mA:Str→Option Value} (I:gW h x dx C mA):∃od,PySem.W.InstAt h x (PySem.W.instObj C dx) C (some od)∧∀name,PySem.W.lookIn name od=some (mA name) :=
 let ⟨od,ho,hl⟩:=Af I.ns
 ⟨od,⟨I.obj,rfl,rfl,ho⟩,hl⟩
section
variable {prog:Program} {w:World} {A:Around} {E:Value→Shared→Prop} {s:Shared} {K:PySem.W.Frag} {x dx C f:Addr} {mA:Str→Option Value} {name:Str} {v:Value}
theorem get_map {expr:Bool} {Q:Value→Shared→Prop} (X:K.In s.heap) (I:gW s.heap x dx C mA) (hg:PySem.W.plainGet K C name=true) (hh:PySem.W.hasDictIn K C=true)
  (ha:PySem.W.findIn K (.ref C) name=some none) (hv:mA name=some v) (hv':PySem.W.handedIn v=true) (h:Q v { s with toks:=s.toks+1 }) :
  wpAny (model prog w) A (getAttr (.ref x) name expr) Q E s:=by
 obtain ⟨od,J,hl⟩:=I.look
 exact PySem.W.get_value X J (PySem.W.plainGet_of hg).1 (PySem.W.findObj_own hh ha rfl (by rw [hl,hv])) hv' h
theorem ym {pl:Sem Bool} {Q:Value×List Value→Shared→Prop} (X:K.In s.heap) (I:gW s.heap x dx C mA) (hg:PySem.W.plainGet K C name=true)
  (hf:PySem.W.findIn K (.ref C) name=some (some (.ref f))) (ht:PySem.W.isFn K (.ref f)=true) (hv:mA name=none) (h:Q (.ref f,[.ref x]) s) :
  wpAny (model prog w) A (getMethod (.ref x) name pl) Q E s:=by
 obtain ⟨od,J,hl⟩:=I.look
 exact PySem.W.method_fn X J (PySem.W.plainGet_of hg).1 (PySem.W.plainGet_of hg).2 hf (beq_iff_eq.mp ht) (by show (PySem.W.lookIn name od).map (·.isSome)=some false;rw [hl,hv];rfl) h
theorem EH {ns:List Str} {Q:Unit→Shared→Prop} (X:K.In s.heap) (I:gW s.heap x dx C mA)
  (hs:PySem.W.findIn K (.ref C) "__setattr__" = some (some (.builtin "object.__setattr__"))) (hp:PySem.W.plainOver K C=true) (ht:PySem.W.takerIn K C name=some none) (hh:PySem.W.hasDictIn K C=true)
  (hw:PySem.Within mA ns) (hsz:ns.length≤sizeLine)
  (h:∀h',gW h' x dx C (fun y=>if y=name then some v else mA y)→Heap.SameBut dx s.heap h'→Q () { s with heap:=h',toks:=s.toks+2 }) :
  wpAny (model prog w) A (setAttr (.ref x) name v) Q E s:=by
 obtain ⟨od,J,hl⟩:=I.look
 refine PySem.W.set_plain X J hs (PySem.W.osa_open (s:={ s with toks:=s.toks+1 }) (r:=none) X J hp ht fun b=>?_)
 obtain ⟨cd,hc,hd'⟩:=PySem.W.any_some hh
 have hx:s.heap.get? x=some ⟨.ref C,some dx,.plain,#[]⟩:=I.obj
 refine wpAny_bind (wpAny_pure (wpAny_bind (wpAny_bind (wpAny_loadPart hx (wpAny_bind (PySem.W.Looks.here (s:={ s with toks:=s.toks+1 }) (PySem.W.looks_clsIn X hc) ?_))))))
 rw [hd']
 refine wpAny_pure (a:=some dx) (wpAny_bind (wpAny_pure (wpAny_bind ?_)))
 refine wpAny_nsSet1 (s:={ s with toks:=s.toks+1 }) I.ns fun h' hn2 hs2=>?_
 obtain ⟨oD,esD,epD,hoD,hdD,hcD⟩:=hn2.count (PySem.Within.cons name v hw)
 refine wpAny_bind (wpAny_lookBehind hoD (by rw [hdD];exact pastItsLine_dict (Nat.le_trans hcD (by rw [List.length_cons];(first|lia|omega)))) ?_)
 exact wpAny_pure (h _ ⟨(hs2.2 _ (Ne.symm I.ne)).trans I.obj,hn2,I.ne⟩ hs2)
theorem DK {R:Result→Shared→Prop} {vs:List Value} {kw:List (Str×Value)} (X:K.In s.heap) (hm:PySem.W.makesIn K C=true)
  (hi:PySem.W.findIn K (.ref C) "__init__" = some (some (.ref f))) (hf:PySem.W.typeIn K (.ref f)=some (.type "function"))
  (h:codeAny (model prog w) (A.under (.builtin "type.__call__" ⟨.ref C::vs,kw⟩)) (.call (.ref f) ⟨.ref (s.heap.objs.size+1)::vs,kw⟩) (PySem.W.InitBack (s.heap.objs.size+1) R)
   { s with heap:=(s.heap.push PySem.W.emptyDict).push (PySem.W.instObj C s.heap.objs.size) }) :
  codeAny (model prog w) A (.call (.ref C) ⟨vs,kw⟩) R s:=by
 obtain ⟨hh,g,d,t,os⟩:=s
 exact PySem.W.make_core (PySem.W.makes_of X hm) (PySem.W.looks_findIn X hi) (fun self=>PySem.W.bind_fn X self hf) (.inl rfl) h
end
noncomputable def cz (f:Str) (v:V):List (Str×V)→List (Str×V)
 |[]=>[(f,v)]
 |(g,x)::r=>if g=f then (g,v)::r else (g,x)::cz f v r
theorem vG (f g:Str) (v:V):∀fs:List (Str×V),(cz f v fs).lookup g=if g=f then some v else fs.lookup g
 |[]=>by
  show List.lookup g [(f,v)]=_
  by_cases h:g=f
  ·have hb:(g ==f)=true:=beq_iff_eq.mpr h
   simp only [List.lookup,hb,if_pos h]
  ·have hb:(g ==f)=false:=beq_eq_false_iff_ne.mpr h
   simp only [List.lookup,hb,if_neg h]
 |(k,x)::r=>by
  have ih:=vG f g v r
  rw [show cz f v ((k,x)::r)=(if k=f then (k,v)::r else (k,x)::cz f v r) from rfl]
  by_cases hk:k=f
  ·rw [if_pos hk]
   by_cases h:g=k
   ·have hb:(g ==k)=true:=beq_iff_eq.mpr h
    simp only [List.lookup,hb,if_pos (h.trans hk)]
   ·have hb:(g ==k)=false:=beq_eq_false_iff_ne.mpr h
    simp only [List.lookup,hb,if_neg (fun e:g=f=>h (e.trans hk.symm))]
  ·rw [if_neg hk]
   by_cases h:g=k
   ·have hb:(g ==k)=true:=beq_iff_eq.mpr h
    simp only [List.lookup,hb,if_neg (fun e:g=f=>hk (h.symm.trans e))]
   ·have hb:(g ==k)=false:=beq_eq_false_iff_ne.mpr h
    simp only [List.lookup,hb]
    exact ih
theorem pQ (f:Str) (v:V):∀fs:List (Str×V),f∈(cz f v fs).map (·.1)∧∀g,g∈fs.map (·.1)→g∈(cz f v fs).map (·.1)
 |[]=>⟨by simp [cz],fun g h=>by simp at h⟩
 |(k,x)::r=>by
  obtain ⟨i1,i2⟩:=pQ f v r
  rw [show cz f v ((k,x)::r)=(if k=f then (k,v)::r else (k,x)::cz f v r) from rfl]
  by_cases hk:k=f
  ·rw [if_pos hk]
   subst hk
   exact ⟨by simp,fun g h=>by simpa using h⟩
  ·rw [if_neg hk]
   refine ⟨?_,fun g h=>?_⟩
   ·rw [List.map_cons]
    exact List.mem_cons_of_mem _ i1
   ·rw [List.map_cons] at h ⊢
    rcases List.mem_cons.mp h with e|e
    ·exact List.mem_cons.mpr (.inl e)
    ·exact List.mem_cons_of_mem _ (i2 g e)
theorem sM (f:Str) (v:V):∀fs:List (Str×V),(cz f v fs).length≤fs.length+1
 |[]=>by simp [cz]
 |(k,x)::r=>by
  have ih:=sM f v r
  rw [show cz f v ((k,x)::r)=(if k=f then (k,v)::r else (k,x)::cz f v r) from rfl]
  by_cases hk:k=f
  ·rw [if_pos hk,List.length_cons,List.length_cons];(first|lia|omega)
  ·rw [if_neg hk,List.length_cons,List.length_cons];(first|lia|omega)
theorem cK.some_of {v:V} {o:Option Value} (r:cK (some v) o):∃u,o=some u∧RelV v u:=by
 cases o with
 |none=>exact (show False from r).elim
 |some u=>exact ⟨u,rfl,r⟩
theorem cK.none_of {o:Option Value} (r:cK none o):o=none:=by
 cases o with
 |none=>rfl
 |some u=>exact (show False from r).elim
theorem DA {v:V} {u:Value} (r:RelV v u):PySem.W.handedIn u=true:=by
 cases v with
 |non=>cases (show u=Value.none from r);rfl
 |bl b=>cases (show u=Value.bool b from r);rfl
 |int i=>obtain ⟨t,e⟩:=(show ∃t,u=Value.int i t from r);cases e;rfl
 |str x=>obtain ⟨t,e⟩:=(show ∃t,u=Value.str x t from r);cases e;rfl
 |byt b=>obtain ⟨t,e⟩:=(show ∃t,u=Value.bytes b t from r);cases e;rfl
 |flt b=>obtain ⟨t,e⟩:=(show ∃t,u=Value.float b t from r);cases e;rfl
 |ref a=>cases (show u=Value.ref a from r);rfl
 |ty n=>cases (show u=Value.type n from r);rfl
section
variable {P:Program} {w:World} {H H':Hp} {h h':Heap} {a C dx:Addr} {fs fs':List (Str×V)}
theorem pY (ao:bM P w H h) (e:H a=some (.ins C dx fs)):∃mA,gW h a dx C mA∧(∀f,cK (fs.lookup f) (mA f))∧PySem.Within mA (fs.map (·.1))∧fs.length≤1000∧H dx=some (.own a):=by
 obtain ⟨d,z,ne,ob,mA,n,r,q⟩:=(show bS P w H h a (.ins C dx fs) from ao a _ e)
 exact ⟨mA,⟨ob,n,ne⟩,r,q,z,d⟩
end
structure d7 (K:PySem.W.Frag) (C:Addr):Prop where
 pg:PySem.W.plainGet K C Str.empty=true
 hd:PySem.W.hasDictIn K C=true
 po:PySem.W.plainOver K C=true
 sa:PySem.W.findIn K (.ref C) "__setattr__" = some (some (.builtin "object.__setattr__"))
theorem d7.get {K:PySem.W.Frag} {C:Addr} (c:d7 K C) (f:Str):PySem.W.plainGet K C f=true:=c.pg
noncomputable def fb (K:PySem.W.Frag) (C:Addr) (f:Str):Prop:=PySem.W.findIn K (.ref C) f=some none
theorem fb.taker {K:PySem.W.Frag} {C:Addr} {f:Str} (n:fb K C f):PySem.W.takerIn K C f=some none:=by
 unfold PySem.W.takerIn
 rw [show PySem.W.findIn K (.ref C) f=some none from n]
 rfl
structure Meth (K:PySem.W.Frag) (C:Addr) (m:Str) (f:Addr):Prop where
 at_:PySem.W.findIn K (.ref C) m=some (some (.ref f))
 fn:PySem.W.isFn K (.ref f)=true
 kp:PySem.W.keepIn K (.ref f)=true
section
variable {X:Cx} {aa:List (Addr×Obj)} {σ:St} {H:Hp} {s:Shared} {a C dx:Addr} {fs:List (Str×V)} {f:Str} {v:V} {A:Around} {E:Value→Shared→Prop}
theorem Ha {b:Bool} {Q:Value→Shared→Prop} (I:Inv X aa σ H s) (e:H a=some (.ins C dx fs)) (c:d7 X.K C) (n:fb X.K C f) (l:fs.lookup f=some v)
  (h:∀u s',Inv X aa σ H s'→RelV v u→Q u s'):wpAny (model X.prog X.w) A (getAttr (.ref a) f b) Q E s:=by
 obtain ⟨mA,O,r,_,_,_⟩:=pY I.ao e
 obtain ⟨u,hu,ru⟩:=cK.some_of (v:=v) (o:=mA f) (by rw [←l];exact r f)
 exact get_map I.kIn O (c.get f) c.hd n hu (DA ru) (h u _ (I.tok _) ru)
theorem Em {m:Str} {g:Addr} {pl:Sem Bool} {Q:Value×List Value→Shared→Prop} (I:Inv X aa σ H s) (e:H a=some (.ins C dx fs)) (c:d7 X.K C) (k:Meth X.K C m g) (l:fs.lookup m=none)
  (h:Q (.ref g,[.ref a]) s):wpAny (model X.prog X.w) A (getMethod (.ref a) m pl) Q E s:=by
 obtain ⟨mA,O,r,_,_,_⟩:=pY I.ao e
 have hn:mA m=none:=cK.none_of (by rw [←l];exact r m)
 exact ym I.kIn O (c.get m) k.at_ k.fn hn h
theorem D6 {y:V} {u:Value} {Q:Unit→Shared→Prop} (I:Inv X aa σ H s) (e:H a=some (.ins C dx fs)) (c:d7 X.K C) (n:fb X.K C f) (hl:fs.length < 1000) (ry:RelV y u)
  (h:∀s',Inv X aa σ (upd H a (.ins C dx (cz f y fs))) s'→Q () s'):wpAny (model X.prog X.w) A (setAttr (.ref a) f u) Q E s:=by
 obtain ⟨mA,O,r,wi,_,ho⟩:=pY I.ao e
 have hz:(fs.map (·.1)).length≤sizeLine:=by rw [List.length_map,sizeLine_eq];(first|lia|omega)
 refine EH I.kIn O c.sa c.po n.taker c.hd wi hz fun h' O' sb=>h _ ?_
 have hd:∃o,h'.get? dx=some o:=let ⟨o,_,_,e',_⟩:=O'.ns;⟨o,e'⟩
 refine I.write (x:=a) (e:=dx) (by rw [e];exact True.intro) (.inr ho) (fun b q hb z=>(sb.2 b hb).trans z) hd ?_
 refine ⟨by rw [aK O.ne];exact ho,?_,O.ne,O'.obj,_,O'.ns,fun g=>?_,fun g hg=>?_⟩
 ·have:=sM f y fs;(first|lia|omega)
 ·show cK ((cz f y fs).lookup g) (if g=f then some u else mA g)
  rw [vG]
  by_cases q:g=f
  ·rw [if_pos q,if_pos q];exact ry
  ·rw [if_neg q,if_neg q];exact r g
 ·by_cases q:g=f
  ·rw [q];exact (pQ f y fs).1
  ·refine (pQ f y fs).2 g (wi g fun z=>hg ?_)
   show (if g=f then some u else mA g)=none
   rw [if_neg q];exact z
theorem Inv.made (I:Inv X aa σ H s):Inv X aa σ (upd (upd H s.heap.objs.size (.own (s.heap.objs.size+1))) (s.heap.objs.size+1) (.ins C s.heap.objs.size []))
  { s with heap:=(s.heap.push PySem.W.emptyDict).push (PySem.W.instObj C s.heap.objs.size) }:=by
 have e1:(s.heap.push PySem.W.emptyDict).get? s.heap.objs.size=some PySem.W.emptyDict:=Heap.get?_push_size s.heap rfl
 have e2:((s.heap.push PySem.W.emptyDict).push (PySem.W.instObj C s.heap.objs.size)).get? (s.heap.objs.size+1)=some (PySem.W.instObj C s.heap.objs.size):=by
  have:=Heap.get?_push_size (s.heap.push PySem.W.emptyDict) (o:=PySem.W.instObj C s.heap.objs.size) rfl
  rwa [Heap.size_push] at this
 have e3:(s.heap.push PySem.W.emptyDict).Ns s.heap.objs.size (fun _=>none):=⟨PySem.W.emptyDict,#[],_,e1,rfl,(fun e he=>absurd he (by simp)),fun _=>rfl⟩
 have I1:=I.laid (a:=s.heap.objs.size) (o:=.own (s.heap.objs.size+1)) (h':=s.heap.push PySem.W.emptyDict) (t':=s.toks) (fun b u q=>Heap.get?_push_of_some _ q) (Nat.le_refl _) ⟨_,e1⟩
 refine I1.laid (a:=s.heap.objs.size+1) (o:=.ins C s.heap.objs.size []) (t':=s.toks) (fun b u q=>Heap.get?_push_of_some _ q) (Nat.le_of_eq (Heap.size_push _ _)) ?_
 have ne:s.heap.objs.size≠s.heap.objs.size+1:=Nat.ne_of_lt (Nat.lt_succ_self _)
 refine ⟨by rw [aK ne,bV],Nat.zero_le _,ne,e2,fun _=>none,(Heap.Ns1.of_empty e3).at fun o q=>Heap.get?_push_of_some _ q,fun _=>True.intro,fun y hy=>absurd rfl hy⟩
theorem Ez {prog:Program} {w:World} {env:Env} {e:Expr} {f:Str} {pos:Pos} {s:Shared} {Q:Value→Shared→Prop} (hb:attributeBase e f env (eval e env)=eval e env)
  (h:wpAny (model prog w) A (eval e env) (fun o s₁=>wpAny (model prog w) A (getAttr o f true) Q E s₁) E s):wpAny (model prog w) A (eval (.Attribute e f pos) env) Q E s :=
 Attribute_any_ h (by rw [arm_eval_Attribute,hb])
end
noncomputable def yk (K:PySem.W.Frag) (ta:TE) (f:Str):TE:=fun σ H Q=>ta σ H fun x H1=>∃a C dx fs v,x=.ref a∧H1 a=some (.ins C dx fs)∧d7 K C∧fb K C f∧fs.lookup f=some v∧Q v H1
noncomputable def Ab (K:PySem.W.Frag) (ta tv:TE) (f:Str):TS:=fun D σ H=>tv σ H fun y H1=>ta σ H1 fun x H2=>∃a C dx fs,x=.ref a∧H2 a=some (.ins C dx fs)∧d7 K C∧fb K C f∧fs.length < 1000 ∧
 D.nx σ (upd H2 a (.ins C dx (cz f y fs)))
section
variable {X:Cx} {o e value:Expr} {f:Str} {pos pos' tpos:Pos} {ta tv:TE}
theorem ze (he:PE X e ta) (hb:attributeBase e f X.env (eval e X.env)=eval e X.env):PE X (.Attribute e f pos) (yk X.K ta f):=by
 intro aa s σ H Q I h
 refine Ez hb (aC (he aa s σ H _ I h) fun u s1 zz0=>?_)
 obtain ⟨x,H1,I1,rx,a,C,dx,fs,v,ex,ea,c,n,l,q⟩:=zz0
 subst ex
 obtain rfl:u=Value.ref a:=rx
 exact Ha I1 ea c n l fun u' s2 I2 ru=>⟨v,H1,I2,ru,q⟩
theorem Hq (ha:PE X o ta) (hv:PE X value tv) (hs:swapsWith value (some (.Attribute o f pos')) pos.line X.env=pure false):PS X (.Assign [.Attribute o f pos'] value pos) (Ab X.K ta tv f):=by
 intro aa s σ H D I h
 refine plainObj_wpAny_Assign_Attribute (aC (hv aa s σ H _ I h) fun u s1 zz0=>?_) hs
 obtain ⟨y,H1,I1,ry,q⟩:=zz0
 refine aC (ha aa s1 σ H1 _ I1 q) fun ov s2 zz1=>?_
 obtain ⟨x,H2,I2,rx,a,C,dx,fs,ex,ea,c,n,l,q2⟩:=zz1
 subst ex
 obtain rfl:ov=Value.ref a:=rx
 exact D6 I2 ea c n l ry fun s3 I3=>⟨σ,_,I3,q2⟩
end
section
variable {X:Cx} {aa:List (Addr×Obj)} {σ:St} {H:Hp} {s:Shared} {A:Around} {E:Value→Shared→Prop} {Q:Value→Shared→Prop} {c:Value} {b:Bool}
end
end L2
namespace L2
open PySem PySem.Spec PyProof.Rows
structure aW (k:Nat) (A:Around):Prop where
 hd:A.handled=none
 dp:A.depth+3*k+5 < recursionLimit
 un:A.units+16*k+200 < cLine
theorem aW.mono {j k:Nat} {A:Around} (r:aW k A) (h:j≤k):aW j A:=⟨r.hd,by have:=r.dp;(first|lia|omega),by have:=r.un;(first|lia|omega)⟩
theorem aW.deeper {k:Nat} {A:Around} (r:aW (k+1) A) (env:Env):aW k (A.deeper env) :=
 ⟨r.hd,by have:=r.dp;show A.depth+1+3*k+5 < _;(first|lia|omega),by have:=r.un;show A.units+3+16*k+200 < _;(first|lia|omega)⟩
theorem Hd {A:Around} {C:Addr} {us:List Value} {kw:List (Str×Value)}:(A.under (.builtin "type.__call__" ⟨.ref C::us,kw⟩)).depth=A.depth+1:=by
 first|rfl|simp [Around.under,Code.weight,Code.isCreation,Code.isGuard,Code.isCaller,Code.frames,Code.isFrame,guardIds]
theorem yv {A:Around} {C:Addr} {us:List Value} {kw:List (Str×Value)}:(A.under (.builtin "type.__call__" ⟨.ref C::us,kw⟩)).units=A.units+1:=by
 first|rfl|simp [Around.under,Code.cUnits,Code.frames,Code.isFrame]
theorem aW.make {k:Nat} {A:Around} (r:aW (k+1) A) (C:Addr) (us:List Value) (kw:List (Str×Value)):aW k (A.under (.builtin "type.__call__" ⟨.ref C::us,kw⟩)) :=
 ⟨r.hd,by have:=r.dp;rw [Hd];(first|lia|omega),by have:=r.un;rw [yv];(first|lia|omega)⟩
theorem aW.depth {k:Nat} {A:Around} (r:aW k A):A.depth < recursionLimit:=by have:=r.dp;(first|lia|omega)
theorem aW.units {k:Nat} {A:Around} (r:aW k A):A.units+64 < cLine:=by have:=r.un;(first|lia|omega)
noncomputable def pz:TA:=fun _ H Q=>Q [] H
noncomputable def u4 (ta:TE) (tr:TA):TA:=fun σ H Q=>ta σ H fun x H1=>tr σ H1 fun xs H2=>Q (x::xs) H2
section
variable {X:Cx} {e:Expr} {es:List Expr} {te:TE} {t:TA} {pos:Pos}
theorem Hr:PA X [] pz:=fun _ _ _ _ H Q I h=>Calls.spliced_nil ⟨[],H,I,.nil,h⟩
theorem FT (ha:PE X e te) (hr:PA X es t) (hs:starEach (e::es) X.env=(false,eval e X.env)::starEach es X.env:=by rfl):PA X (e::es) (u4 te t):=by
 intro pos aa s σ H Q I h
 rw [hs]
 show wpAny _ _ (spliced ((false,eval e X.env)::backTo pos (starEach es X.env))) _ _ s
 refine Calls.spliced_cons (aC (ha aa s σ H _ I h) fun u s1 zz0=>?_)
 obtain ⟨x,H1,I1,r1,q1⟩:=zz0
 refine aC (hr pos aa s1 σ H1 _ I1 q1) fun us s2 zz0=>?_
 obtain ⟨xs,H2,I2,r2,q2⟩:=zz0
 exact ⟨x::xs,H2,I2,.cons r1 r2,q2⟩
noncomputable def CF (t:TA):TE:=fun σ H Q=>t σ H fun xs H1=>xs.length≤sizeLine∧∀p,H1 p=none→Q (.ref p) (upd H1 p (.tup xs))
noncomputable def BM (t:TA):TE:=fun σ H Q=>t σ H fun xs H1=>xs.length≤sizeLine∧∀p,H1 p=none→Q (.ref p) (upd H1 p (.lst xs))
theorem Ah {x1} (h:PA X es t):PE X (.Tuple es x1 pos) (CF t):=by
 intro aa s σ H Q I hq
 refine wpAny_Tuple_spliced (aC (h pos aa s σ H _ I hq) fun us s1 ⟨xs,H1,I1,r,z,q⟩=>⟨by rw [←r.length];exact z,?_⟩)
 have hf:H1 s1.heap.objs.size=none:=I1.ao.fresh (Nat.le_refl _)
 refine ⟨.ref s1.heap.objs.size,upd H1 s1.heap.objs.size (.tup xs),I1.laid (t':=s1.toks) (fun b u e=>Heap.get?_push_of_some _ e) (Nat.le_refl _) ?_,rfl,q _ hf⟩
 exact ⟨z,us,r,⟨_,Heap.get?_push_size _ rfl,rfl,_,rfl⟩⟩
theorem EC (h:PA X es t):PE X (.List es pos) (BM t):=by
 intro aa s σ H Q I hq
 refine wpAny_List_spliced (aC (h pos aa s σ H _ I hq) fun us s1 ⟨xs,H1,I1,r,z,q⟩=>⟨by rw [←r.length];exact z,?_⟩)
 have hf:H1 s1.heap.objs.size=none:=I1.ao.fresh (Nat.le_refl _)
 refine ⟨.ref s1.heap.objs.size,upd H1 s1.heap.objs.size (.lst xs),I1.laid (t':=s1.toks) (fun b u e=>Heap.get?_push_of_some _ e) (Nat.le_refl _) ?_,rfl,q _ hf⟩
 exact ⟨z,us,0,r,Heap.get?_push_size _ rfl⟩
end
noncomputable abbrev Sp:=List V→Hp→VK→XK→Prop
noncomputable abbrev dD:=List Env→Hp→Shared→XK→Value→Shared→Prop
structure ic (P:Program) (w:World) (K:PySem.W.Frag) (mg:Str→Option Value) (base:Heap) (A:Around) (outer:List Env) (s:Shared) (H:Hp):Prop where
 frames:A.frames=some outer
 mod:Mod K mg base
 bs:∀b o,base.get? b=some o→s.heap.get? b=some o∧H b=none
 bsz:base.objs.size≤s.heap.objs.size
 funs:s.heap.FunFrames base outer
 frf:∀b∈bw outer,H b=none
 ao:bM P w H s.heap
 bare:AllBare s.gens
noncomputable def CE (outer:List Env) (P:Program) (w:World) (H:Hp) (s:Shared) (Q:VK) (u:Value) (s':Shared):Prop :=
 ∃v H',s'.os=s.os∧AllBare s'.gens∧Un (bw outer) [] H H' s.heap s'.heap∧bM P w H' s'.heap∧RelV v u∧Q v H'
noncomputable def CR (CX:dD) (outer:List Env) (P:Program) (w:World) (H:Hp) (s:Shared) (Q:VK) (E:XK) (r:Result) (s':Shared):Prop :=
 match r with
 |.ok (.ret u)=>CE outer P w H s Q u s'
 |.ok _=>False
 |.error e=>CX outer H s E e s'
structure cn (P:Program) (w:World) (K:PySem.W.Frag) (mg:Str→Option Value) (base:Heap) (CX:dD) (k:Nat) (f:Addr) (fd:FuncData) (ps:List Str) (sp:Sp):Prop where
 len:∀vs H Q E,sp vs H Q E→vs.length=ps.length
 run:∀(A:Around) (outer:List Env) (s:Shared) (H:Hp) (args:Args) (us:List Value) (vs:List V) (Q:VK) (E:XK),aW k A→ic P w K mg base A outer s H→BindsTo s fd args (ps.zip us)→Vals vs us→sp vs H Q E →
  codeAny (model P w) A (.call (.ref f) args) (CR CX outer P w H s Q E) s
theorem cn.mono {P:Program} {w:World} {K:PySem.W.Frag} {mg:Str→Option Value} {base:Heap} {CX:dD} {j k:Nat} {f:Addr} {fd:FuncData} {ps:List Str} {sp:Sp} (F:cn P w K mg base CX j f fd ps sp) (h:j≤k) :
  cn P w K mg base CX k f fd ps sp:=⟨F.len,fun A outer s H args us vs Q E hr=>F.run A outer s H args us vs Q E (hr.mono h)⟩
theorem cn.imp {P:Program} {w:World} {K:PySem.W.Frag} {mg:Str→Option Value} {base:Heap} {CX:dD} {k:Nat} {f:Addr} {fd:FuncData} {ps:List Str} {sp sp':Sp} (F:cn P w K mg base CX k f fd ps sp)
  (h:∀vs H Q E,sp' vs H Q E→sp vs H Q E):cn P w K mg base CX k f fd ps sp' :=
 ⟨fun vs H Q E q=>F.len vs H Q E (h _ _ _ _ q),fun A outer s H args us vs Q E hr he hb hv hs=>F.run A outer s H args us vs Q E hr he hb hv (h _ _ _ _ hs)⟩
theorem ic.make {P:Program} {w:World} {K:PySem.W.Frag} {mg:Str→Option Value} {base:Heap} {A:Around} {outer:List Env} {s:Shared} {H:Hp} (e:ic P w K mg base A outer s H) (C:Addr) (us:List Value) (kw:List (Str×Value)) :
  ic P w K mg base (A.under (.builtin "type.__call__" ⟨.ref C::us,kw⟩)) outer s H:=⟨by first|exact e.frames|(simpa [Around.under,Code.envs,Code.isFrame,pushEnvs] using e.frames),e.mod,e.bs,e.bsz,e.funs,e.frf,e.ao,e.bare⟩
section
variable {X:Cx} {aa:List (Addr×Obj)} {σ:St} {H:Hp} {s s':Shared}
theorem Inv.env0 (I:Inv X aa σ H s):ic X.prog X.w X.K X.mg X.base X.A X.stack s H :=
 ⟨I.ok.frames,I.ok.mod,I.bs,Nat.le_trans I.ok.bsz I.sz,I.stack,I.stkFree,I.ao,I.bare⟩
theorem Inv.after {Q:VK} {u:Value} (I:Inv X aa σ H s) (h:CE X.stack X.prog X.w H s Q u s'):EP X aa σ Q u s':=by
 obtain ⟨v,H',os,bare,un,ao,r,q⟩:=h
 obtain ⟨hh,g,d,t,os'⟩:=s'
 obtain rfl:os'=s.os:=os
 exact ⟨v,H',I.call (h':=hh) (g':=g) (d':=d) (t':=t) (ch:=[]) un ao bare (fun b z=>absurd z (by simp)),r,q⟩
end
noncomputable def GC (sp:Sp) (dvs:List V) (E:XK) (t:TA):TE:=fun σ H Q=>t σ H fun vs H1=>sp (vs++dvs) H1 Q E
noncomputable def G7 (C:Addr) (m:Str) (sp:Sp) (dvs:List V) (E:XK) (ta:TE) (t:TA):TE:=fun σ H Q=>ta σ H fun x H1=>∃a dx fs,x=.ref a∧H1 a=some (.ins C dx fs)∧fs.lookup m=none ∧
 t σ H1 fun vs H2=>sp (x::(vs++dvs)) H2 Q E
noncomputable def Eg (C:Addr) (sp:Sp) (dvs:List V) (E:XK) (t:TA):TE:=fun σ H Q=>t σ H fun vs H1=>∀x dx,H1 x=none→H1 dx=none→dx≠x →
 sp (.ref x::(vs++dvs)) (upd (upd H1 dx (.own x)) x (.ins C dx [])) (fun v H2=>v=.non∧Q (.ref x) H2) E
noncomputable def Binds (K:PySem.W.Frag) (fd:FuncData) (ps:List Str) (ds:List Value):Prop :=
 ∀(s:Shared) (us:List Value),K.In s.heap→(us++ds).length=ps.length→BindsTo s fd ⟨us,[]⟩ (ps.zip (us++ds))
theorem Binds.all {K:PySem.W.Frag} {fd:FuncData} {ps:List Str} (h:∀us:List Value,us.length=ps.length→bindArgs fd ⟨us,[]⟩=pure (ps.zip us)):Binds K fd ps []:=fun s us _ hl=>by
 rw [List.append_nil] at hl ⊢
 exact .of_eq (h us hl)
noncomputable def Passes (CX:dD) (X:Cx) (E:XK):Prop:=∀(aa:List (Addr×Obj)) (σ:St) (H:Hp) (s:Shared) (e:Value) (s':Shared),Inv X aa σ H s→CX X.stack H s E e s'→X.xe e s'
section
variable {X:Cx} {CX:dD} {k:Nat} {f C:Addr} {fd:FuncData} {ps:List Str} {sp:Sp} {dvs:List V} {ds:List Value} {E:XK} {x m:Str} {p pos apos:Pos} {e o:Expr} {es:List Expr} {ta:TE} {t:TA}
theorem u5 {aa:List (Addr×Obj)} {σ:St} {H:Hp} {s:Shared} {Q:VK} {us:List Value} {vs:List V} (F:cn X.prog X.w X.K X.mg X.base CX k f fd ps sp) (hr:aW k X.A) (hb:Binds X.K fd ps ds) (hd:Vals dvs ds) (hx:Passes CX X E)
  (I:Inv X aa σ H s) (r:Vals vs us) (h:sp (vs++dvs) H Q E):wpAny (model X.prog X.w) X.A (call (.ref f) us) (EP X aa σ Q) X.xe s:=by
 have r2:Vals (vs++dvs) (us++ds):=r.append hd
 have hl:(us++ds).length=ps.length:=by rw [←r2.length];exact F.len _ _ _ _ h
 refine wpAny_call (codeAny_mono (F.run X.A X.stack s H ⟨us,[]⟩ (us++ds) (vs++dvs) Q E hr I.env0 (hb s us I.kIn hl) r2 h) fun r s' hq=>?_)
 cases r with
 |error e=>exact hx aa σ H s e s' I hq
 |ok fl =>
  cases fl with
  |ret u=>exact I.after hq
  |next=>exact False.elim hq
  |brk=>exact False.elim hq
  |cont=>exact False.elim hq
theorem zk (F:cn X.prog X.w X.K X.mg X.base CX k f fd ps sp) (hr:aW k X.A) (hg:Gl X x) (hm:X.mg x=some (.ref f)) (hk:PySem.W.keepIn X.K (.ref f)=true) (hb:Binds X.K fd ps ds) (hd:Vals dvs ds) (hx:Passes CX X E)
  (ha:PA X (e::es) t) (hdb:(x ==("__debug__" : Str))=false:=by decide) (he:starEach (e::es) X.env=(false,eval e X.env)::starEach es X.env:=by rfl) (hpl:(backTo pos (starEach es X.env)).any (·.1)=false:=by rfl) :
  PE X (.Call (.Name x p) (e::es) [] pos) (GC sp dvs E t):=by
 intro aa s σ H Q I h
 refine wpAny_Call_Name_kw (gf I hg hm ?_ hdb)
 refine PySem.W.callWith_K (h₀:=X.base) I.ok.mod.kin hk (aC (ha pos aa s σ H _ I h) fun us s1 zz0=>?_) he hpl
 obtain ⟨vs,H1,I1,r,q⟩:=zz0
 refine ⟨I1.kIn,?_⟩
 exact u5 F hr hb hd hx I1 r q
theorem DP {pl:Sem Bool} (he:PE X o ta) (c:d7 X.K C) (hm:Meth X.K C m f) (F:cn X.prog X.w X.K X.mg X.base CX k f fd ps sp) (hr:aW k X.A) (hb:Binds X.K fd ps ds) (hd:Vals dvs ds) (hx:Passes CX X E) (ha:PA X (e::es) t)
  (hst:starEach (e::es) X.env=(false,eval e X.env)::starEach es X.env:=by rfl) (hpl:(backTo pos (starEach es X.env)).any (·.1)=false:=by rfl)
  (ht:eval (.Call (.Attribute o m apos) (e::es) [] pos) X.env=(do
   let ov ←eval o X.env
   standAt apos.atName
   let (f,first) ←holding [ov] (getMethod ov m pl)
   callWith pos f first (backTo pos (starEach (e::es) X.env)) (backToKw pos (keywordEach [] X.env))):=by rfl) :
  PE X (.Call (.Attribute o m apos) (e::es) [] pos) (G7 C m sp dvs E ta t):=by
 intro aa s σ H Q I h
 refine PySem.W.methodCall_KW (pl:=pl) (aC (he aa s σ H _ I h) fun u s1 zz0=>?_) ht
 obtain ⟨x,H1,I1,rx,a,dx,fs,ex,ea,l,q⟩:=zz0
 subst ex
 obtain rfl:u=Value.ref a:=rx
 refine Em I1 ea c hm l ?_
 refine PySem.W.callWith_K (first:=[.ref a]) (h₀:=X.base) I.ok.mod.kin hm.kp (aC (ha pos aa s1 σ H1 _ I1 q) fun us s2 zz0=>?_) hst hpl
 obtain ⟨vs,H2,I2,r,q2⟩:=zz0
 refine ⟨I2.kIn,?_⟩
 exact u5 (us:=.ref a::us) (vs:=.ref a::vs) F hr hb hd hx I2 (.cons rfl r) q2
structure Mk (K:PySem.W.Frag) (C f:Addr):Prop where
 makes:PySem.W.makesIn K C=true
 init:PySem.W.findIn K (.ref C) "__init__" = some (some (.ref f))
 fn:PySem.W.isFn K (.ref f)=true
 kp:PySem.W.keepIn K (.ref C)=true
theorem HY {aa:List (Addr×Obj)} {σ:St} {H:Hp} {s:Shared} {Q:VK} {us:List Value} {vs:List V} (M:Mk X.K C f) (F:cn X.prog X.w X.K X.mg X.base CX k f fd ps sp) (hr:aW (k+1) X.A) (hb:Binds X.K fd ps ds) (hd:Vals dvs ds)
  (hx:Passes CX X E) (I:Inv X aa σ H s) (r:Vals vs us)
  (h:∀x dx,H x=none→H dx=none→dx≠x→sp (.ref x::(vs++dvs)) (upd (upd H dx (.own x)) x (.ins C dx [])) (fun v H2=>v=.non∧Q (.ref x) H2) E) :
  wpAny (model X.prog X.w) X.A (call (.ref C) us) (EP X aa σ Q) X.xe s:=by
 have hq:=h (s.heap.objs.size+1) s.heap.objs.size (I.ao.fresh (Nat.le_succ _)) (I.ao.fresh (Nat.le_refl _)) (Nat.ne_of_lt (Nat.lt_succ_self _))
 have I2:=Inv.made (C:=C) I
 have r2:Vals (V.ref (s.heap.objs.size+1)::(vs++dvs)) (Value.ref (s.heap.objs.size+1)::(us++ds)):=.cons rfl (r.append hd)
 have hl:(Value.ref (s.heap.objs.size+1)::us++ds).length=ps.length:=by
  have e:=r2.length
  rw [F.len _ _ _ _ hq] at e
  exact e.symm
 refine wpAny_call (DK (f:=f) I.kIn M.makes M.init (beq_iff_eq.mp M.fn) (codeAny_mono (F.run _ X.stack _ _ ⟨Value.ref (s.heap.objs.size+1)::us,[]⟩ (Value.ref (s.heap.objs.size+1)::(us++ds)) _ _ E (hr.make C us [])
  (I2.env0.make C us []) (hb _ (Value.ref (s.heap.objs.size+1)::us) I2.kIn hl) r2 hq) fun r s' hq'=>?_))
 cases r with
 |error e=>exact hx aa σ _ _ e s' I2 hq'
 |ok fl =>
  cases fl with
  |ret u =>
   obtain ⟨v,H',I3,rv,ev,q3⟩:=I2.after hq'
   subst ev
   exact ⟨rv,⟨V.ref (s.heap.objs.size+1),H',I3,rfl,q3⟩⟩
  |next=>exact False.elim hq'
  |brk=>exact False.elim hq'
  |cont=>exact False.elim hq'
theorem yV (M:Mk X.K C f) (F:cn X.prog X.w X.K X.mg X.base CX k f fd ps sp) (hr:aW (k+1) X.A) (hg:Gl X x) (hm:X.mg x=some (.ref C)) (hb:Binds X.K fd ps ds) (hd:Vals dvs ds) (hx:Passes CX X E)
  (hdb:(x ==("__debug__" : Str))=false:=by decide):PE X (.Call (.Name x p) [] [] pos) (Eg C sp dvs E pz):=by
 intro aa s σ H Q I h
 refine wpAny_Call_Name_kw (gf I hg hm ?_ hdb)
 exact PySem.W.callWith_K0 I.kIn M.kp (HY (us:=[]) M F hr hb hd hx I .nil h)
end
noncomputable def PK (X:Cx) (kws:List Keyword) (t:TA):Prop :=
 ∀(pos:Pos) (aa:List (Addr×Obj)) (s:Shared) (σ:St) (H:Hp) (Q:List V→Hp→Prop),Inv X aa σ H s→t σ H Q→wpAny (model X.prog X.w) X.A (evalAll ((backToKw pos (keywordEach kws X.env)).map (·.2))) (AP X aa σ Q) X.xe s
section
variable {X:Cx} {CX:dD} {k:Nat} {f C:Addr} {fd:FuncData} {ps ks:List Str} {sp:Sp} {E:XK} {x m:Str} {p pos apos kpos:Pos} {e o:Expr} {es:List Expr} {kws:List Keyword} {te ta:TE} {t tk:TA} {nm:Option Str}
theorem ra:PK X [] pz:=fun _ _ _ _ H Q I h=>wpAny_evalAll_nil ⟨[],H,I,.nil,h⟩
theorem uG (ha:PE X e te) (hr:PK X kws t):PK X (⟨nm,e,kpos⟩::kws) (u4 te t):=by
 intro pos aa s σ H Q I h
 show wpAny _ _ (evalAll ((do let v ←eval e X.env;standAt pos;pure v)::(backToKw pos (keywordEach kws X.env)).map (·.2))) _ _ s
 refine wpAny_evalAll_cons (wpAny_bind (aC (ha aa s σ H _ I h) fun u s1 zz0=>?_))
 obtain ⟨x,H1,I1,r1,q1⟩:=zz0
 refine wpAny_bind (wpAny_standAt (wpAny_pure ?_))
 refine aC (hr pos aa s1 σ H1 _ I1 q1) fun us s2 zz0=>?_
 obtain ⟨xs,H2,I2,r2,q2⟩:=zz0
 exact ⟨x::xs,H2,I2,.cons r1 r2,q2⟩
variable {g:List Value→List Value→List Value} {gV:List V→List V→List V}
end
structure aX (N P:List Str) (sc:Scope):Prop where
 kind:sc.kind=.function
 co:sc.isCoroutine=false
 gen:sc.isGenerator=false
 nd:N.Nodup
 pre:N.take P.length=P
 par:∀x∈P,sc.names.lookup x=some .local∨sc.names.lookup x=some .cell
 nofree:∀y∈sc.names,y.2≠.free
theorem vF {kindOf:Str→Option NameKind} {x:Str}:∀{binds:List (Str×Value)} {m:Str→Option Value},(∀v,(x,v) ∉ binds)→bindL kindOf binds m x=m x
 |[],_,_=>rfl
 |(n,v)::r,m,h=>by
  unfold bindL
  rw [vF fun w hw=>h w (List.mem_cons_of_mem _ hw)]
  split
  ·have:x≠n:=by rintro rfl;exact h v List.mem_cons_self
   simp [this]
  ·rfl
theorem qH {kindOf:Str→Option NameKind} {x:Str}:∀{binds:List (Str×Value)} {m:Str→Option Value},(∀v,(x,v) ∉ binds)→bindC kindOf binds m x=m x
 |[],_,_=>rfl
 |(n,v)::r,m,h=>by
  unfold bindC
  rw [qH fun w hw=>h w (List.mem_cons_of_mem _ hw)]
  split
  ·rfl
  ·have:x≠n:=by rintro rfl;exact h v List.mem_cons_self
   simp [this]
theorem vC {kindOf:Str→Option NameKind} {x:Str} {v:Value}:∀{P:List Str} {vs:List Value} {i:Nat} {m:Str→Option Value},P.Nodup→P[i]?=some x→vs[i]?=some v→kindOf x=some .local →
  bindL kindOf (P.zip vs) m x=some v
 |[],_,_,_,_,h,_,_=>by simp at h
 |_::_,[],_,_,_,_,h,_=>by simp at h
 |p::P,w::vs,0,m,nd,h1,h2,hk=>by
  simp at h1 h2;subst h1;subst h2
  show bindL kindOf ((p,w)::P.zip vs) m p=_
  unfold bindL
  rw [vF fun v hv=>(List.nodup_cons.mp nd).1 (List.of_mem_zip hv).1,if_pos hk]
  simp
 |p::P,w::vs,i+1,m,nd,h1,h2,hk=>by
  show bindL kindOf ((p,w)::P.zip vs) m x=_
  unfold bindL
  exact vC (i:=i) (List.nodup_cons.mp nd).2 (by simpa using h1) (by simpa using h2) hk
theorem xl {kindOf:Str→Option NameKind} {x:Str} {v:Value}:∀{P:List Str} {vs:List Value} {i:Nat} {m:Str→Option Value},P.Nodup→P[i]?=some x→vs[i]?=some v→kindOf x≠some .local →
  bindC kindOf (P.zip vs) m x=some v
 |[],_,_,_,_,h,_,_=>by simp at h
 |_::_,[],_,_,_,_,h,_=>by simp at h
 |p::P,w::vs,0,m,nd,h1,h2,hk=>by
  simp at h1 h2;subst h1;subst h2
  show bindC kindOf ((p,w)::P.zip vs) m p=_
  unfold bindC
  rw [qH fun v hv=>(List.nodup_cons.mp nd).1 (List.of_mem_zip hv).1,if_neg hk]
  simp
 |p::P,w::vs,i+1,m,nd,h1,h2,hk=>by
  show bindC kindOf ((p,w)::P.zip vs) m x=_
  unfold bindC
  exact xl (i:=i) (List.nodup_cons.mp nd).2 (by simpa using h1) (by simpa using h2) hk
noncomputable def start (N:List Str) (vs:List V):St:=vs.map some++List.replicate (N.length-vs.length) none
noncomputable def cu (CX:dD) (P:Program) (w:World) (K:PySem.W.Frag) (mg:Str→Option Value) (base:Heap) (N:List Str) (qual:Str) (scope:Scope) (f:Addr) (cd:Value) (A:Around) (outer:List Env) (s:Shared) (H:Hp) (E:XK):Cx where
 prog:=P
 w:=w
 K:=K
 mg:=mg
 base:=base
 A:=A.deeper (envOfC qual scope s.heap.objs.size f cd)
 N:=N
 s₀:=s
 H₀:=H
 env:=envOfC qual scope s.heap.objs.size f cd
 outer:=outer
 stack:=envOfC qual scope s.heap.objs.size f cd::outer
 ex:=[]
 calm:=true
 fn:=fun _=>true
 pn:=[]
 xe:=fun e s'=>wpAny (model P w) (A.deeper (envOfC qual scope s.heap.objs.size f cd)) (leaving (envOfC qual scope s.heap.objs.size f cd) e) (fun _ s''=>CX outer H s E e s'') (fun e' s''=>CX outer H s E e' s'') s'
theorem nH {sc:Scope} {n:Nat} {x:Str} (h:sc.names.lookup x=some .cell):∃c,(cellsFrom n sc.names []).lookup x=some c:=by
 have q:=PySem.W.cellsFrom_some sc.names n [] (.inl h)
 exact Option.isSome_iff_exists.mp q
theorem GA {CX:dD} {P:Program} {w:World} {K:PySem.W.Frag} {mg:Str→Option Value} {base:Heap} {N ps:List Str} {qual:Str} {scope:Scope} {f:Addr} {cd:Value} {A:Around} {outer:List Env} {s s1:Shared} {H:Hp} {E:XK} {us:List Value} {vs:List V}
  (S:aX N ps scope) (hd:A.handled=none) (e0:ic P w K mg base A outer s H) (hl:vs.length=ps.length) (r:Vals vs us)
  (x:InCallC s s.heap.objs.size (bindL (envOfC qual scope s.heap.objs.size f cd).kindOf (ps.zip us) fun _=>none) (cellsFrom (s.heap.objs.size+1) scope.names []) (bindC (envOfC qual scope s.heap.objs.size f cd).kindOf (ps.zip us) fun _=>none) s1) :
  Inv (cu CX P w K mg base N qual scope f cd A outer s H E) [] (start N vs) H s1:=by
 have hpl:ps.length≤N.length:=by have:=congrArg List.length S.pre;rw [List.length_take] at this;(first|lia|omega)
 obtain ⟨h1,tk,rfl,hk⟩:=x.done
 have noA:∀b:Addr,b ∉ (cu CX P w K mg base N qual scope f cd A outer s H E).ex:=fun b z=>absurd (show b∈([]:List Addr) from z) (by simp)
 refine ⟨⟨e0.mod,S.kind,rfl,rfl,Nat.le_refl _,fun y z c h1 h2=>?_,fun y hy=>?_,fun y c _ h=>?_,fun _=>hd,Around.frames_deeper e0.frames,.inr ⟨rfl,rfl⟩,fun b z=>absurd z (noA b),e0.bs,e0.bsz,fun b _ _=>noA b,fun b z=>absurd z (noA b),e0.funs,e0.frf⟩,
  rfl,e0.bare,Un.kept hk,⟨_,x.toInCall.ns,fun i y v h1 h2 h3=>?_⟩,fun y c h=>⟨_,x.cell y c h⟩,e0.ao.fresh (Nat.le_refl _),fun y c h=>?_,fun p hp=>absurd (show p∈([]:List (Addr×Obj)) from hp) (by simp),e0.ao.kept hk,?_⟩
 ·exact name_of_addr x.apart (PySem.mem_of_lookup h1) (PySem.mem_of_lookup h2)
 ·have hy:scope.names.lookup y=some .cell∨scope.names.lookup y=some .free:=hy
  rcases hy with hy|hy
  ·exact nH hy
  ·exact absurd rfl (S.nofree _ (PySem.mem_of_lookup hy))
 ·exact Nat.le_of_lt (x.above y c (PySem.mem_of_lookup h))
 ·have hi:i < vs.length:=by
   unfold start at h2
   by_cases hi:i < vs.length
   ·exact hi
   ·rw [List.getElem?_append_right (by simpa using hi)] at h2
    rw [List.getElem?_replicate] at h2
    split at h2<;>cases h2
  have ha:vs[i]?=some v:=by
   unfold start at h2
   rw [List.getElem?_append_left (by simpa using hi),List.getElem?_map] at h2
   cases e:vs[i]? with
   |none=>rw [e] at h2;cases h2
   |some a=>rw [e] at h2;cases h2;rfl
  obtain ⟨u,hu,rv⟩:=r.get ha
  have hp:ps[i]?=some y:=by
   rw [←S.pre,List.getElem?_take_of_lt (by first|lia|omega)];exact h1
  have ndP:ps.Nodup:=by rw [←S.pre];exact S.nd.sublist (List.take_sublist _ _)
  refine ⟨u,rv,?_⟩
  rcases S.par y (List.mem_of_getElem? hp) with k|k
  ·exact .inl ⟨k,vC ndP hp hu k⟩
  ·obtain ⟨c,e⟩:=nH (n:=s.heap.objs.size+1) k
   refine .inr ⟨.inl k,c,e,?_⟩
   have q:=x.cell y c e
   rw [xl ndP hp hu (by show scope.names.lookup y≠_;rw [k];decide)] at q
   exact q
 ·exact e0.ao.fresh (Nat.le_of_lt (x.above y c (PySem.mem_of_lookup h)))
 ·unfold start
  show _=N.length
  rw [List.length_append,List.length_map,List.length_replicate]
  (first|lia|omega)
theorem sO {CX:dD} {P:Program} {w:World} {K:PySem.W.Frag} {mg:Str→Option Value} {base:Heap} {k:Nat} {f:Addr} {name qual:Str} {params:Arguments} {body:List Stmt} {scope:Scope} {dV kV doc pm cdv ct oc:Value} {an od:Option Addr}
  {osl:Array (Option Value)} {N ps:List Str} {sp:Sp} (lk:K.lookup f=some ⟨oc,od,.func (PySem.W.fnOf name qual params body scope dV kV doc pm an cdv ct),osl⟩) (hcd:PySem.W.codeIn K cdv qual=true) (S:aX N ps scope)
  (len:∀vs H Q E,sp vs H Q E→vs.length=ps.length)
  (hbody:∀(A:Around) (outer:List Env) (s:Shared) (H:Hp) (vs:List V) (Q:VK) (E:XK),aW k (A.deeper (envOfC qual scope s.heap.objs.size f cdv))→sp vs H Q E →
   ∃t,bx (cu CX P w K mg base N qual scope f cdv A outer s H E) body t∧t { nx:=fun _ H'=>Q .non H',rt:=Q } (start N vs) H) :
  cn P w K mg base CX (k+1) f (PySem.W.fnOf name qual params body scope dV kV doc pm an cdv ct) ps sp:=by
 refine ⟨len,fun A outer s H args us vs Q E hr e0 hb r hsp=>?_⟩
 have hl:=len _ _ _ _ hsp
 have KX:K.In s.heap:=e0.mod.kin.keeps fun b o e=>(e0.bs b o e).1
 have lim:s.heap.NoLimit:=e0.mod.nolimit.keeps fun b o e=>(e0.bs b o e).1
 have hkind:∀y∈ps.zip us,scope.names.lookup y.1=some .local∨(scope.names.lookup y.1=some .cell∧((cellsFrom (s.heap.objs.size+1) scope.names []).lookup y.1).isSome=true):=fun ⟨n,v⟩ hy=>by
  rcases S.par n (List.of_mem_zip hy).1 with q|q
  ·exact .inl q
  ·exact .inr ⟨q,PySem.W.cellsFrom_some _ _ _ (.inl q)⟩
 refine codeAny_call_function hr.depth (KX _ _ lk) rfl S.co S.gen rfl (PySem.W.codeRec_of KX hcd) (hb _ _ _ _ ?_)
 refine wpAny_newFunctionEnv_cells S.kind hkind fun env he s1 x=>?_
 subst he
 refine ⟨lim.keeps x.toInCall.keep,codeAny_func ?_⟩
 obtain ⟨t,ht,hq⟩:=hbody A outer s H vs Q E (hr.deeper _) hsp
 have I:Inv (cu CX P w K mg base N qual scope f cdv A outer s H E) [] (start N vs) H s1:=GA S hr.hd e0 hl r x
 refine wpAny_mono (ht [] s1 (start N vs) H _ I hq) (fun fl s' hs=>?_) fun e s' hs=>hs
 have fin:∀{σ':St} {H':Hp} {v:V} {u:Value},Inv (cu CX P w K mg base N qual scope f cdv A outer s H E) [] σ' H' s'→RelV v u→Q v H'→CE outer P w H s Q u s' :=
  fun {σ' H' v u} J rv q=>⟨v,H',J.os,J.bare,J.base,J.ao,rv,q⟩
 cases fl with
 |ret u =>
  obtain ⟨v,σ',H',J,rv,q⟩:=hs
  exact fin J rv q
 |next =>
  obtain ⟨σ',H',J,q⟩:=hs
  exact fin (v:=V.non) (u:=Value.none) J rfl q
 |brk =>
  obtain ⟨_,_,_,q⟩:=hs
  exact False.elim q
 |cont =>
  obtain ⟨_,_,_,q⟩:=hs
  exact False.elim q
end L2
namespace L2
open PySem PySem.Spec PyProof.Rows
section
variable {X:Cx} {x:Str} {p pos:Pos} {e:Expr} {es:List Expr} {t:TA} {id T:String} {r:List V→Hp→VK→Prop}
noncomputable def qi (r:List V→Hp→VK→Prop) (t:TA):TE:=fun σ H Q=>t σ H fun vs H1=>r vs H1 Q
theorem Ao (hc:gy X (.builtin id) r) (hg:Gl X x) (hm:X.mg x=none) (hv:bootBuiltins x=some (.builtin id)) (ha:PA X (e::es) t) (hn:x≠ "__name__" :=by decide) (hdb:(x ==("__debug__" : Str))=false:=by decide)
  (he:starEach (e::es) X.env=(false,eval e X.env)::starEach es X.env:=by rfl) (hpl:(backTo pos (starEach es X.env)).any (·.1)=false:=by rfl):PE X (.Call (.Name x p) (e::es) [] pos) (qi r t):=by
 intro aa s σ H Q I h
 refine wpAny_Call_Name_kw (fj I hg hm hv ?_ hn hdb)
 refine PyProof.Rows.callWith_builtin1 (aC (ha pos aa s σ H _ I h) fun us s1 zz0=>?_) he hpl
 obtain ⟨vs,H1,I1,r1,q1⟩:=zz0
 exact hc aa s1 σ H1 vs us Q I1 r1 q1
theorem Ho (hc:gy X (.type T) r) (hg:Gl X x) (hm:X.mg x=none) (hv:bootBuiltins x=some (.type T)) (ha:PA X (e::es) t) (hn:x≠ "__name__" :=by decide) (hdb:(x ==("__debug__" : Str))=false:=by decide)
  (he:starEach (e::es) X.env=(false,eval e X.env)::starEach es X.env:=by rfl) (hpl:(backTo pos (starEach es X.env)).any (·.1)=false:=by rfl):PE X (.Call (.Name x p) (e::es) [] pos) (qi r t):=by
 intro aa s σ H Q I h
 refine wpAny_Call_Name_kw (fj I hg hm hv ?_ hn hdb)
 refine PyProof.Rows.callWith_type1 (aC (ha pos aa s σ H _ I h) fun us s1 zz0=>?_) he hpl
 obtain ⟨vs,H1,I1,r1,q1⟩:=zz0
 exact hc aa s1 σ H1 vs us Q I1 r1 q1
end
end L2
namespace HT
open PySem PyProof.Rows
section
open PySem.SeqAt
open PySem.AutoSeq1 (wpAny_loadPart')
open PySem.MeetsSeq PySem.MeetsSeq2 PySem.MeetsSeq3
end
section
variable {prog:Program} {w:World} {A:Around} {E:Value→Shared→Prop} {s:Shared}
theorem B7 {t b:Addr} {vs ws:List Value} {Q:Value→Shared→Prop} (ht:IsTup s.heap t vs.toArray) (hb:IsTup s.heap b ws.toArray) (hv:vs≠[])
  (h1:ws=[]→Q (.ref t) s) (h2:ws≠[]→Q (.ref s.heap.objs.size) { s with heap:=s.heap.push { cls:=.type "tuple",data:=.seq (vs++ws).toArray } })
  (hsz:vs.length+ws.length≤sizeLine):wpAny (model prog w) A (binaryOp .Add (.ref t) (.ref b)) Q E s:=by
 obtain ⟨⟨cls,dd,data,sl⟩,ho,hc,n,hd⟩:=id ht
 obtain ⟨⟨cls2,dd2,data2,sl2⟩,ho2,hc2,n2,hd2⟩:=id hb
 simp only at hc hd hc2 hd2
 subst hc hd hc2 hd2
 have e:vs.toArray++ws.toArray=(vs++ws).toArray:=by simp
 by_cases hw:ws=[]
 ·exact concat_meets ⟨_,ho,rfl⟩ ⟨_,ho2,rfl⟩ noFill_tuple_add seq_tuple_add PySem.F.slot_tuple_add PySem.F.entry_tuple_add (PySem.F.args_tuple_add_2 _ _)
   (tuple_addW1 t b vs.toArray ws.toArray n n2 dd dd2 sl sl2 (by simpa using hv) (by simp [hw])) ⟨ho,ho2,h1 hw⟩
 ·refine concat_meets ⟨_,ho,rfl⟩ ⟨_,ho2,rfl⟩ noFill_tuple_add seq_tuple_add PySem.F.slot_tuple_add PySem.F.entry_tuple_add (PySem.F.args_tuple_add_2 _ _)
   (tuple_addW2 t b vs.toArray ws.toArray n n2 dd dd2 sl sl2 (by simpa using hv) (by simpa using hw) (by rw [List.size_toArray,List.size_toArray];exact hsz)) ⟨ho,ho2,?_⟩
  rw [e]
  exact h2 hw
noncomputable def aI (n d:Nat):Option Int→Nat
 |none=>d
 |some v=>if v < 0 then (v+(n:Int)).toNat else min v.toNat n
theorem GG (n d:Nat):aI n d none=d:=rfl
theorem jT (n d k:Nat):aI n d (some (k:Int))=min k n:=by
 show (if (k:Int) < 0 then ((k:Int)+(n:Int)).toNat else min (k:Int).toNat n)=min k n
 rw [if_neg (by first|lia|omega),Int.toNat_natCast]
theorem GZ (n d:Nat) (hd:d≤n) (o:Option Int):aI n d o≤n:=by
 cases o with
 |none=>exact hd
 |some v =>
  show (if v < 0 then (v+(n:Int)).toNat else min v.toNat n)≤n
  by_cases hv:v < 0
  ·rw [if_pos hv];(first|lia|omega)
  ·rw [if_neg hv];exact Nat.min_le_right _ _
theorem qS (v:Int) (n d:Nat):(if v < 0 then max (v+(n:Int)) 0 else min v (n:Int))=((aI n d (some v):Nat):Int):=by
 show (if v < 0 then max (v+(n:Int)) 0 else min v (n:Int))=(((if v < 0 then (v+(n:Int)).toNat else min v.toNat n):Nat):Int)
 by_cases hv:v < 0
 ·simp only [if_pos hv];(first|lia|omega)
 ·simp only [if_neg hv];(first|lia|omega)
theorem Ag (lo hi:Option Int) (n:Nat):Builtin.Slice.sliceAdjust lo hi 1 (n:Int)=(((aI n 0 lo:Nat):Int),((aI n n hi:Nat):Int)):=by
 have h1:¬((1:Int) < 0):=by (first|lia|omega)
 unfold Builtin.Slice.sliceAdjust
 simp only [h1,if_false]
 refine Prod.ext ?_ ?_
 ·cases lo with
  |none=>rfl
  |some v=>exact qS v n 0
 ·cases hi with
  |none=>rfl
  |some v=>exact qS v n n
theorem Gn (i j:Nat):Builtin.Slice.slicePlaces (i:Int) (j:Int) 1=j-i:=by
 unfold Builtin.Slice.slicePlaces
 have h1:(1:Int) > 0:=by (first|lia|omega)
 simp only [h1,if_true,Int.ediv_one]
 split<;>(first|lia|omega)
theorem tO {v:Value} {o:Option Int} {Q:Option Int→Shared→Prop} (p:IsPart v o) (h:Q o s):wpAny (model prog w) A (Builtin.Slice.slicePartIndex v) Q E s:=by
 cases p with
 |none=>exact slicePart_none h
 |int i t=>exact slicePart_int h
theorem uF {sl:Addr} {vl vu:Value} {lo hi:Option Int} {n:Nat} {Q:Int×Int×Nat→Shared→Prop} (hs:s.heap.IsSliceOf sl vl vu .none) (pl:IsPart vl lo) (pu:IsPart vu hi)
  (h:Q (((aI n 0 lo:Nat):Int),1,aI n n hi-aI n 0 lo) s):wpAny (model prog w) A (Builtin.Slice.sliceApplied (.ref sl) (pure (n:Int))) Q E s:=by
 obtain ⟨os,hos,hcs,hds⟩:=id hs
 unfold Builtin.Slice.sliceApplied Builtin.Slice.sliceFields
 refine wpAny_bind (wpAny_bind (wpAny_field hos hds (x:=vl) rfl (wpAny_bind (wpAny_field hos hds (x:=vu) rfl (wpAny_bind (wpAny_field hos hds (x:=.none) rfl (wpAny_pure ?_)))))))
 refine wpAny_bind (slicePart_none ?_)
 show wpAny _ _ (if ((1:Int) ==0)=true then _ else _) _ _ s
 rw [if_neg (by decide)]
 refine wpAny_bind (tO pl (wpAny_bind (tO pu (wpAny_bind (wpAny_pure ?_)))))
 show wpAny _ _ (match Builtin.Slice.sliceAdjust lo hi 1 (n:Int) with|(lo,hi)=>pure (lo,(1:Int),Builtin.Slice.slicePlaces lo hi 1)) _ _ s
 rw [Ag lo hi n]
 show wpAny _ _ (pure (((aI n 0 lo:Nat):Int),(1:Int),Builtin.Slice.slicePlaces ((aI n 0 lo:Nat):Int) ((aI n n hi:Nat):Int) 1)) _ _ s
 rw [Gn]
 exact wpAny_pure h
theorem Ai (xs:Array Value) (i k:Nat):((List.range k).filterMap fun (m:Nat)=>xs[((i:Int)+(m:Int)*1).toNat]?).toArray=((xs.toList.drop i).take k).toArray:=by
 have e:(fun (m:Nat)=>xs[((i:Int)+(m:Int)*1).toNat]?)=fun m=>xs[i+m]?:=by
  funext m
  have:((i:Int)+(m:Int)*1).toNat=i+m:=by (first|lia|omega)
  rw [this]
 rw [e]
 have:=pick_run xs i k
 rw [List.filterMap_map] at this
 have e2:((fun x=>xs[x]?) ∘ fun x=>i+x)=fun m=>xs[i+m]?:=rfl
 rw [e2] at this
 rw [this]
theorem Gu {t sl:Addr} {items:Array Value} {vl vu:Value} {lo hi:Option Int} {Q:Value→Shared→Prop} (ht:IsTup s.heap t items) (hs:s.heap.IsSliceOf sl vl vu .none) (pl:IsPart vl lo) (pu:IsPart vu hi)
  (hw:¬(aI items.size 0 lo=0∧aI items.size items.size hi=items.size))
  (h:Q (.ref s.heap.objs.size) { s with heap:=s.heap.push { cls:=.type "tuple",data:=.seq ((items.toList.drop (aI items.size 0 lo)).take (aI items.size items.size hi-aI items.size 0 lo)).toArray } })
  (hsz:items.size≤sizeLine):wpAny (model prog w) A (getItem (.ref t) (.ref sl)) Q E s:=by
 have htake:sizeOk (.seq ((items.toList.drop (aI items.size 0 lo)).take (aI items.size items.size hi-aI items.size 0 lo)).toArray):=by
  show ((items.toList.drop (aI items.size 0 lo)).take (aI items.size items.size hi-aI items.size 0 lo)).toArray.size≤sizeLine
  rw [List.size_toArray,List.length_take,List.length_drop,Array.length_toList]
  (first|lia|omega)
 have hj:aI items.size items.size hi≤items.size:=GZ _ _ (Nat.le_refl _) hi
 obtain ⟨os,hos,hcs,hds⟩:=id hs
 have hTs:s.TypeIs (.ref sl) "slice" :=⟨os,hos,hcs⟩
 unfold getItem
 try with_reducible refine wpAny_holding ?_
 first|refine wpAny_bind (wpAny_pure ?_)|skip
 refine wpAny_bind (wpAny_sequenceKey ht.typeIs (by decide) ?_)
 refine wpAny_bind (wpAny_callSpecial?_slot (name:=Str.ofString "__getitem__") ht.typeIs PyProof.Rows.slot_tuple_getitem
  (wpAny_call_entry PyProof.Rows.slot_tuple_getitem ht.typeIs entry_tuple_getitem ?_ (args_tuple_getitem _ _)))
 show wpAny _ _ (Builtin.Tuple.tupleItemsOf (.ref t) >>=_) _ _ s
 refine wpAny_bind (tupleItemsOf_ ht ?_)
 refine wpAny_bind (wpAny_typeOf hTs ?_)
 rw [if_pos (by decide)]
 refine wpAny_bind (uF hs pl pu ?_)
 have hno:¬((((aI items.size 0 lo:Nat):Int) ==0 && (1:Int) ==1 && (aI items.size items.size hi-aI items.size 0 lo) ==items.size)=true):=by
  intro q
  rw [Bool.and_eq_true,Bool.and_eq_true] at q
  have q1:((aI items.size 0 lo:Nat):Int)=0:=eq_of_beq q.1.1
  have q2:aI items.size items.size hi-aI items.size 0 lo=items.size:=eq_of_beq q.2
  exact hw ⟨by first|lia|omega,by first|lia|omega⟩
 show wpAny _ _ (if (((aI items.size 0 lo:Nat):Int) ==0 && (1:Int) ==1 && (aI items.size items.size hi-aI items.size 0 lo) ==items.size)=true then _ else _) _ _ s
 rw [if_neg hno,Ai]
 first
  |exact wpAny_bind (m:=Builtin.Tuple.tupleExact _) (wpAny_newObj_type (wpAny_pure ⟨_,rfl,wpAny_pure h⟩) htake)
  |exact wpAny_bind (m:=Builtin.Tuple.tupleExact _) (wpAny_newObj_type (wpAny_bind (wpAny_pure (wpAny_pure ⟨_,rfl,wpAny_pure h⟩))) htake)
  |exact wpAny_bind (wpAny_bind (m:=Builtin.Tuple.tupleExact _) (wpAny_newObj_type (wpAny_pure (wpAny_pure ⟨_,rfl,wpAny_pure h⟩)) htake))
  |exact wpAny_bind (wpAny_bind (m:=Builtin.Tuple.tupleExact _) (wpAny_newObj_type (wpAny_pure ⟨_,rfl,wpAny_pure h⟩) htake))
end
end HT
namespace L2
open PySem PySem.Spec PyProof.Rows
noncomputable abbrev TO:=St→Hp→(Option Int→Hp→Prop)→Prop
noncomputable def PO (X:Cx) (e:Option Expr) (t:TO):Prop :=
 ∀(aa:List (Addr×Obj)) (s:Shared) (σ:St) (H:Hp) (Q:Option Int→Hp→Prop),Inv X aa σ H s→t σ H Q →
  wpAny (model X.prog X.w) X.A (evalPart e X.env) (fun u s'=>∃o H',Inv X aa σ H' s'∧IsPart u o∧Q o H') X.xe s
noncomputable def EW:TO:=fun _ H Q=>Q none H
noncomputable def Gj (t:TE):TO:=fun σ H Q=>t σ H fun x H1=>∃i,x=.int i∧Q (some i) H1
section
variable {X:Cx} {e:Expr} {te:TE} {lo hi:Option Expr} {tl th:TO} {pos p2:Pos}
theorem AQ:PO X none EW:=by
 intro aa s σ H Q I h
 rw [evalPart_none]
 exact wpAny_pure ⟨none,H,I,.none,h⟩
theorem Cz (h:PE X e te):PO X (some e) (Gj te):=by
 intro aa s σ H Q I hw
 rw [evalPart_some]
 refine aC (h aa s σ H _ I hw) fun u s1 zz0=>?_
 obtain ⟨x,H1,I1,r1,q1⟩:=zz0
 obtain ⟨i,rfl,q⟩:=q1
 obtain ⟨t,rfl⟩:=r1
 exact ⟨some i,H1,I1,.int i t,q⟩
noncomputable def mK (X:Cx) (r:V→Option Int→Option Int→Hp→VK→Prop):Prop :=
 ∀(aa:List (Addr×Obj)) (s:Shared) (σ:St) (H:Hp) (x:V) (v vl vu:Value) (lo hi:Option Int) (sl:Addr) (Q:VK),Inv X aa σ H s→RelV x v→s.heap.IsSliceOf sl vl vu .none→IsPart vl lo→IsPart vu hi→r x lo hi H Q →
  ∃T id,typeLookup (.type T) "__getitem__" = pure (some (.builtin id))∧s.TypeIs v T∧wpAny (model X.prog X.w) X.A (getItem v (.ref sl)) (EP X aa σ Q) X.xe s
noncomputable def Gd (r:V→Option Int→Option Int→Hp→VK→Prop) (te:TE) (tl th:TO):TE:=fun σ H Q=>te σ H fun x H1=>tl σ H1 fun l H2=>th σ H2 fun u H3=>r x l u H3 Q
theorem Hz {r:V→Option Int→Option Int→Hp→VK→Prop} (hr:mK X r) (he:PE X e te) (hl:PO X lo tl) (hu:PO X hi th):PE X (.Subscript e (.Slice lo hi none p2) pos) (Gd r te tl th):=by
 intro aa s σ H Q I h
 refine Subscript_ (aC (he aa s σ H _ I h) fun v s1 zz0=>?_)
 obtain ⟨x,H1,I1,r1,q1⟩:=zz0
 refine wpAny_Slice (aC (hl aa s1 σ H1 _ I1 q1) fun vl s2 zz0=>?_)
 obtain ⟨l,H2,I2,pl,q2⟩:=zz0
 refine aC (hu aa s2 σ H2 _ I2 q2) fun vu s3 zz1=>?_
 obtain ⟨u,H3,I3,pu,q3⟩:=zz1
 rw [evalPart_none]
 refine wpAny_pure ?_
 have I4:Inv X aa σ H3 { s3 with heap:=s3.heap.push { cls:=.type "slice",data:=.fields #[vl,vu,.none] } }:=I3.kept (t':=s3.toks) fun b ob q=>Heap.get?_push_of_some _ q
 obtain ⟨T,id,hT,ht,hg⟩:=hr aa { s3 with heap:=s3.heap.push { cls:=.type "slice",data:=.fields #[vl,vu,.none] } } σ H3 x v vl vu l u s3.heap.objs.size Q I4 r1 (Heap.IsSliceOf.new ..) pl pu q3
 show wpAny (model X.prog X.w) X.A (subscriptTail e (.Slice lo hi none p2) v (.ref s3.heap.objs.size)) (EP X aa σ Q) X.xe { s3 with heap:=s3.heap.push { cls:=.type "slice",data:=.fields #[vl,vu,.none] } }
 exact tail_any (ops:=[.ref s3.heap.objs.size,v]) ht hT hg (by with_unfolding_all rfl)
noncomputable def gA (xs:List V) (lo hi:Option Int):List V:=(xs.drop (HT.aI xs.length 0 lo)).take (HT.aI xs.length xs.length hi-HT.aI xs.length 0 lo)
theorem vP (xs:List V) (lo hi:Option Int):(gA xs lo hi).length≤xs.length:=by
 unfold gA
 rw [List.length_take,List.length_drop]
 (first|lia|omega)
noncomputable def yg (K:PySem.W.Frag):V→Option Int→Option Int→Hp→VK→Prop:=fun x lo hi H Q=>∃a xs,x=.ref a∧aZ K H a xs ∧
 ¬(HT.aI xs.length 0 lo=0∧HT.aI xs.length xs.length hi=xs.length)∧∀p,H p=none→Q (.ref p) (upd H p (.tup (gA xs lo hi)))
theorem xX:mK X (yg X.K):=by
 intro aa s σ H x v vl vu lo hi sl Q I rx hs pl pu h
 obtain ⟨a,xs,rfl,hx,hw,q⟩:=h
 cases rx
 obtain ⟨ai,r,ht,hz⟩:=I.tuple hx
 have hlen:ai.toArray.size=xs.length:=by rw [List.size_toArray];exact r.length.symm
 refine ⟨"tuple",_,PyProof.Rows.slot_tuple_getitem.lookup,ht.typeIs,?_⟩
 refine HT.Gu ht hs pl pu (by rw [hlen];exact hw) ?_ (by rw [hlen];exact hz)
 rw [hlen]
 refine ⟨.ref s.heap.objs.size,_,I.laid (t':=s.toks) (o:=.tup (gA xs lo hi)) (fun b ob q=>Heap.get?_push_of_some _ q) (Nat.le_refl _) ?_,rfl,q _ (I.ao.fresh (Nat.le_refl _))⟩
 exact ⟨Nat.le_trans (vP xs lo hi) hz,_,(r.drop (HT.aI xs.length 0 lo)).take (HT.aI xs.length xs.length hi-HT.aI xs.length 0 lo),IsTup.new _ _⟩
noncomputable def yU (K:PySem.W.Frag):R2:=fun x y H Q=>∃a b xs ys,x=.ref a∧y=.ref b∧aZ K H a xs∧aZ K H b ys∧xs≠[]∧xs.length+ys.length≤sizeLine ∧
 (ys=[]→Q (.ref a) H)∧(ys≠[]→∀p,H p=none→Q (.ref p) (upd H p (.tup (xs++ys))))
theorem Vals.nil_iff {xs:List V} {us:List Value} (r:Vals xs us):us=[]↔xs=[]:=by
 cases r with
 |nil=>simp
 |cons _ _=>simp
theorem BJ:bU X (binaryOp .Add) (yU X.K):=by
 intro aa s σ H x y v u Q I rx ry h
 obtain ⟨a,b,xs,ys,rfl,rfl,ha,hb,hx,hz,q1,q2⟩:=h
 cases rx
 cases ry
 obtain ⟨ai,r1,p1,_⟩:=I.tuple ha
 obtain ⟨its2,r2,p2,_⟩:=I.tuple hb
 refine HT.B7 p1 p2 (fun z=>hx (r1.nil_iff.mp z)) (fun z=>⟨.ref a,H,I,rfl,q1 (r2.nil_iff.mp z)⟩) (fun z=>?_) (by rw [←r1.length,←r2.length];exact hz)
 refine ⟨.ref s.heap.objs.size,_,I.laid (t':=s.toks) (o:=.tup (xs++ys)) (fun b ob q=>Heap.get?_push_of_some _ q) (Nat.le_refl _) ?_,rfl,q2 (fun w=>z (r2.nil_iff.mpr w)) _ (I.ao.fresh (Nat.le_refl _))⟩
 exact ⟨by rw [List.length_append];exact hz,_,r1.append r2,IsTup.new _ _⟩
end
end L2
namespace L2
open PySem PySem.Spec PyProof.Rows
noncomputable def fI (n:Nat) (i:Int):Option Nat:=if 0≤i then (if i < n then some i.toNat else none) else if -(n:Int)≤i then some (i+n).toNat else none
noncomputable def bA {α:Type} (xs:List α) (i:Int):Option α:=(fI xs.length i).bind fun j=>xs[j]?
theorem FC {n:Nat} {i:Int} {j:Nat} (h:fI n i=some j):seqIndex? i n=some j∧j < n∧-(n:Int)≤i∧i < n:=by
 unfold fI at h
 by_cases h0:0≤i
 ·rw [if_pos h0] at h
  by_cases h1:i < n
  ·rw [if_pos h1] at h
   have e:i.toNat=j:=Option.some.inj h
   exact ⟨by rw [seqIndex_of h0 h1,e],by first|lia|omega,by first|lia|omega,h1⟩
  ·rw [if_neg h1] at h;cases h
 ·rw [if_neg h0] at h
  by_cases h1:-(n:Int)≤i
  ·rw [if_pos h1] at h
   have e:(i+n).toNat=j:=Option.some.inj h
   exact ⟨by rw [seqIndex_neg (by first|lia|omega) h1,e],by first|lia|omega,h1,by first|lia|omega⟩
  ·rw [if_neg h1] at h;cases h
theorem nj {α:Type} {xs:List α} {i:Int} {v:α} (h:bA xs i=some v):∃j,seqIndex? i xs.length=some j∧xs[j]?=some v∧j < xs.length∧-(xs.length:Int)≤i∧i < xs.length:=by
 unfold bA at h
 cases e:fI xs.length i with
 |none=>rw [e] at h;cases h
 |some j =>
  rw [e] at h
  obtain ⟨h1,h2,h3,h4⟩:=FC e
  exact ⟨j,h1,h,h2,h3,h4⟩
theorem jE {α:Type} {xs:List α} {j:Nat} {v:α} (h:xs[j]?=some v):bA xs (j:Int)=some v:=by
 have hj:j < xs.length:=(List.getElem?_eq_some_iff.mp h).1
 have e:fI xs.length (j:Int)=some j:=by
  unfold fI
  rw [if_pos (by first|lia|omega),if_pos (by first|lia|omega)];simp
 unfold bA;rw [e];exact h
theorem HU {α:Type} (xs:List α) (v:α):bA (xs++[v]) (-1)=some v:=by
 have hl:(xs++[v]).length=xs.length+1:=by simp
 have e:fI (xs++[v]).length (-1)=some xs.length:=by
  unfold fI
  rw [hl,if_neg (by decide),if_pos (by first|lia|omega)]
  congr 1
  (first|lia|omega)
 unfold bA
 rw [e]
 show (xs++[v])[xs.length]?=some v
 simp
noncomputable def rO (b:Expr):Prop:=∀o i,subscripted b false o i=operate [o,i] (getItem o i)
noncomputable def j7 (X:Cx) (r:R2):Prop :=
 ∀(value slice:Expr) (aa:List (Addr×Obj)) (s:Shared) (σ:St) (H:Hp) (x y:V) (v u:Value) (Q:VK),Inv X aa σ H s→RelV x v→RelV y u→r x y H Q →
  subscripted slice false v u=operate [v,u] (getItem v u)→wpAny (model X.prog X.w) X.A (subscriptTail value slice v u) (EP X aa σ Q) X.xe s
noncomputable def pN (X:Cx) (id:String) (r:V→List V→Hp→VK→Prop):Prop :=
 ∀(aa:List (Addr×Obj)) (s:Shared) (σ:St) (H:Hp) (x:V) (xs:List V) (v:Value) (us:List Value) (Q:VK),Inv X aa σ H s→RelV x v→Vals xs us→r x xs H Q →
  wpAny (model X.prog X.w) X.A (call (.builtin id) (v::us)) (EP X aa σ Q) X.xe s
section
variable {X:Cx} {a b:Expr} {ta tb:TE} {pos:Pos}
theorem HC {r:R2} (hr:j7 X r) (ha:PE X a ta) (hb:PE X b tb) (hs:rO b):PE X (.Subscript a b pos) (kB r ta tb):=by
 intro aa s σ H Q I h
 exact Subscript_ (qy ha hb I h fun v u s2 x y H2 I2 rx ry q=>hr a b aa s2 σ H2 x y v u Q I2 rx ry q (hs _ _))
noncomputable def Ga (K:PySem.W.Frag):R2:=fun x y H Q=>∃p xs i v,x=.ref p∧y=.int i∧bG K H p xs∧bA xs i=some v∧Q v H
noncomputable def AB (K:PySem.W.Frag):R2:=fun x y H Q=>∃p xs i v,x=.ref p∧y=.int i∧aZ K H p xs∧bA xs i=some v∧Q v H
noncomputable def B1:R2:=fun x y H Q=>∃z i c,x=.str z∧y=.int i∧z.length≤sizeLine∧bA z.cps.toList i=some c∧Q (.str ⟨#[c]⟩) H
theorem sg:j7 X (Ga X.K):=by
 intro value slice aa s σ H x y v u Q I rx ry h hs
 obtain ⟨p,xs,i,z,rfl,rfl,hq,he,q⟩:=h
 cases rx
 obtain ⟨t,rfl⟩:=ry
 obtain ⟨ai,r,pl,hz⟩:=I.list hq
 obtain ⟨j,h1,h2,h3,h4,h5⟩:=nj he
 obtain ⟨w,ew,rw'⟩:=r.get h2
 have hl:=r.length
 have hn:=jq
 have fin:EP X aa σ Q w s:=⟨z,H,I,rw',q⟩
 by_cases h0:0≤i
 ·have hj:i.toNat=j:=by
   rw [seqIndex_of h0 h5] at h1
   exact Option.some.inj h1
  exact item_listR pl.isList h0 (by first|lia|omega) (by rw [hj];simpa using ew) fin hs
 ·have hj:(i+(ai.toArray.size:Int)).toNat=j:=by
   rw [seqIndex_neg (by first|lia|omega) h4] at h1
   rw [List.size_toArray,←hl]
   exact Option.some.inj h1
  exact subscriptTail_builtinR (x:=w) pl.isList.typeIs slot_list_getitem.lookup
   (wpAny_getItem_list_neg (Q:=fun r s'=>r=w∧EP X aa σ Q r s') pl.isList (by first|lia|omega) (by rw [List.size_toArray]<;>(first|lia|omega)) (by first|lia|omega) (by rw [hj];simpa using ew) ⟨rfl,fin⟩) hs
theorem Eb:j7 X (AB X.K):=by
 intro value slice aa s σ H x y v u Q I rx ry h hs
 obtain ⟨p,xs,i,z,rfl,rfl,hq,he,q⟩:=h
 cases rx
 obtain ⟨t,rfl⟩:=ry
 obtain ⟨ai,r,pl,hz⟩:=I.tuple hq
 obtain ⟨j,h1,h2,h3,h4,h5⟩:=nj he
 obtain ⟨w,ew,rw'⟩:=r.get h2
 have hl:=r.length
 have hn:=jq
 have fin:EP X aa σ Q w s:=⟨z,H,I,rw',q⟩
 exact subscriptTail_builtinR (x:=w) pl.typeIs slot_tuple_getitem.lookup
  (getItem_tuple (j:=j) (Q:=fun r s'=>r=w∧EP X aa σ Q r s') pl (by first|lia|omega) (by first|lia|omega) (by rw [List.size_toArray,←hl];exact h1) (by simpa using ew) ⟨rfl,fin⟩) hs
theorem Bo:j7 X B1:=by
 intro value slice aa s σ H x y v u Q I rx ry h hs
 obtain ⟨z,i,c,rfl,rfl,hz,he,q⟩:=h
 obtain ⟨t,rfl⟩:=rx
 obtain ⟨t',rfl⟩:=ry
 obtain ⟨j,h1,h2,h3,h4,h5⟩:=nj he
 have hl:z.cps.toList.length=z.length:=by simp [Str.length]
 rw [hl] at h1 h4 h5
 have hn:=jq
 exact tail_any (typeIs_str s z t) slot_str_getitem.lookup (getItem_str (c:=c) (by
  have e1:decide (i < -(2 ^ 63:Int))=false:=decide_eq_false (by first|lia|omega)
  have e2:decide (i ≥ 2 ^ 63)=false:=decide_eq_false (by first|lia|omega)
  rw [e1,e2,Bool.or_false]) (by rw [h1];simpa using h2) ⟨.str ⟨#[c]⟩,H,I.tok _,⟨_,rfl⟩,q⟩) hs
theorem yE (lo hi:Option Int) (n:Nat):(sliceBounds lo hi none n).1=((HT.aI n 0 lo:Nat):Int)∧(sliceBounds lo hi none n).2.1=((HT.aI n n hi:Nat):Int)∧(sliceBounds lo hi none n).2.2=1:=by
 refine ⟨?_,?_,rfl⟩
 ·cases lo with
  |none=>simp [sliceBounds,HT.aI]
  |some i =>
   simp only [sliceBounds,HT.aI,Option.getD_none,show (1:Int) > 0 by decide,if_true]
   by_cases h:i < 0
   ·simp only [h,if_true]<;>(first|lia|omega)
   ·simp only [h,if_false]<;>(first|lia|omega)
 ·cases hi with
  |none=>simp [sliceBounds,HT.aI]
  |some i =>
   simp only [sliceBounds,HT.aI,Option.getD_none,show (1:Int) > 0 by decide,if_true]
   by_cases h:i < 0
   ·simp only [h,if_true]<;>(first|lia|omega)
   ·simp only [h,if_false]<;>(first|lia|omega)
theorem HW (ai:List Value) (lo hi:Option Int):slicePick ai.toArray lo hi none=((ai.drop (HT.aI ai.length 0 lo)).take (HT.aI ai.length ai.length hi-HT.aI ai.length 0 lo)).toArray:=by
 obtain ⟨h1,h2,h3⟩:=yE lo hi ai.toArray.size
 unfold slicePick
 rw [h1,h2,h3]
 simp only [sliceRange_one,pick_run,List.size_toArray]<;>rfl
noncomputable def yK (K:PySem.W.Frag):V→Option Int→Option Int→Hp→VK→Prop:=fun x lo hi H Q=>∃a xs,x=.ref a∧bG K H a xs∧∀p,H p=none→Q (.ref p) (upd H p (.lst (gA xs lo hi)))
theorem rA:mK X (yK X.K):=by
 intro aa s σ H x v vl vu lo hi sl Q I rx hs pl pu h
 obtain ⟨a,xs,rfl,hx,q⟩:=h
 cases rx
 obtain ⟨ai,r,ht,hz⟩:=I.list hx
 have hlen:=r.length
 refine ⟨"list",_,slot_list_getitem.lookup,ht.isList.typeIs,?_⟩
 refine wpAny_getItem_list_slice ht.isList hs pl pu .none (by simp) ?_ (by rw [List.size_toArray]<;>(first|lia|omega))
 rw [HW,←hlen]
 refine ⟨.ref s.heap.objs.size,_,I.laid (t':=s.toks) (o:=.lst (gA xs lo hi)) (fun b ob q=>Heap.get?_push_of_some _ q) (Nat.le_refl _) ?_,rfl,q _ (I.ao.fresh (Nat.le_refl _))⟩
 exact ⟨Nat.le_trans (vP xs lo hi) hz,_,0,(r.drop (HT.aI xs.length 0 lo)).take (HT.aI xs.length xs.length hi-HT.aI xs.length 0 lo),Heap.get?_push_size _ rfl⟩
noncomputable def dH:V→Bool
 |.non=>true
 |.bl _=>true
 |.int _=>true
 |.str _=>true
 |_=>false
noncomputable def eQ:V→V→Bool
 |.non,.non=>true
 |.bl a,.bl b=>a ==b
 |.bl a,.int b=>(if a then 1 else 0) ==b
 |.int a,.bl b=>a ==(if b then 1 else 0)
 |.int a,.int b=>a ==b
 |.str a,.str b=>a ==b
 |_,_=>false
theorem qm {A:Around} {s:Shared} {y x:V} {u v:Value} (ry:RelV y u) (rx:RelV x v) (fy:dH y=true) (fx:dH x=true):SeqAt.EqAt A s u v (eQ y x):=by
 cases y with
 |non =>
  cases ry
  cases x with
  |non=>cases rx;exact SeqAt.EqAt.same _
  |bl b=>cases rx;exact SeqAt.EqAt.none_bool b
  |int b=>obtain ⟨t,rfl⟩:=rx;exact SeqAt.EqAt.none_int b t
  |str b=>obtain ⟨t,rfl⟩:=rx;exact SeqAt.EqAt.none_str b t
  |_=>exact absurd (show false=true from fx) Bool.false_ne_true
 |bl a =>
  cases ry
  cases x with
  |non=>cases rx;exact SeqAt.EqAt.bool_none a
  |bl b=>cases rx;exact SeqAt.EqAt.bool_bool a b
  |int b=>obtain ⟨t,rfl⟩:=rx;exact SeqAt.EqAt.bool_int a b t
  |str b=>obtain ⟨t,rfl⟩:=rx;exact SeqAt.EqAt.bool_str a b t
  |_=>exact absurd (show false=true from fx) Bool.false_ne_true
 |int a =>
  obtain ⟨t',rfl⟩:=ry
  cases x with
  |non=>cases rx;exact SeqAt.EqAt.int_none a t'
  |bl b=>cases rx;exact SeqAt.EqAt.int_bool a t' b
  |int b=>obtain ⟨t,rfl⟩:=rx;exact SeqAt.EqAt.int_int a t' b t
  |str b=>obtain ⟨t,rfl⟩:=rx;exact SeqAt.EqAt.int_str a t' b t
  |_=>exact absurd (show false=true from fx) Bool.false_ne_true
 |str a =>
  obtain ⟨t',rfl⟩:=ry
  cases x with
  |non=>cases rx;exact SeqAt.EqAt.str_none a t'
  |bl b=>cases rx;exact SeqAt.EqAt.str_bool a t' b
  |int b=>obtain ⟨t,rfl⟩:=rx;exact SeqAt.EqAt.str_int a t' b t
  |str b=>obtain ⟨t,rfl⟩:=rx;exact SeqAt.EqAt.str_str a t' b t
  |_=>exact absurd (show false=true from fx) Bool.false_ne_true
 |_=>exact absurd (show false=true from fy) Bool.false_ne_true
noncomputable def di (x:V) (u:Value):Bool:=match u with
 |.none=>eQ .non x
 |.bool b=>eQ (.bl b) x
 |.int i _=>eQ (.int i) x
 |.str z _=>eQ (.str z) x
 |_=>false
theorem qL {x y:V} {u:Value} (r:RelV y u) (f:dH y=true):di x u=eQ y x:=by
 cases y with
 |non=>cases r;rfl
 |bl b=>cases r;rfl
 |int i=>obtain ⟨t,rfl⟩:=r;rfl
 |str z=>obtain ⟨t,rfl⟩:=r;rfl
 |_=>exact absurd (show false=true from f) Bool.false_ne_true
theorem nu {x:V} {xs:List V} {us:List Value} (h:Vals xs us) (f:xs.all dH=true):us.any (di x)=xs.any fun y=>eQ y x:=by
 induction h with
 |nil=>rfl
 |cons r t ih =>
  rw [List.all_cons,Bool.and_eq_true] at f
  rw [List.any_cons,List.any_cons,qL r f.1,ih f.2]
theorem ke {A:Around} {s:Shared} {x:V} {v:Value} (rx:RelV x v) (fx:dH x=true):∀{xs:List V} {us:List Value},Vals xs us→xs.all dH=true→∀u∈us,SeqAt.EqAt A s u v (di x u)
 |_,_,.nil,_=>fun u hu=>by cases hu
 |y::xs,u::us,.cons r t,f=>fun u' hu=>by
  rw [List.all_cons,Bool.and_eq_true] at f
  rcases List.mem_cons.mp hu with rfl|hu
  ·rw [qL r f.1];exact qm r rx f.1 fx
  ·exact ke rx fx t f.2 u' hu
noncomputable def mZ (x:V) (xs:List V):Bool:=xs.any fun y=>eQ y x
noncomputable def va (K:PySem.W.Frag) (neg:Bool):R2:=fun x y H Q=>∃p xs,y=.ref p∧(bG K H p xs∨aZ K H p xs)∧dH x=true∧xs.all dH=true∧Q (.bl (if neg then !mZ x xs else mZ x xs)) H
theorem C1:bU X (compareOp .In) (va X.K false):=by
 intro aa s σ H x y v u Q I rx ry h
 obtain ⟨p,xs,rfl,hq,fx,fs,q⟩:=h
 cases ry
 rcases hq with hq|hq
 ·obtain ⟨ai,r,pl,hz⟩:=I.list hq
  refine SeqAt.in_listAt (di x) pl.isList (fun w hw=>ke rx fx r fs w (by simpa using hw)) ⟨.bl _,H,I,rfl,?_⟩
  rw [show ai.toArray.any (di x)=ai.any (di x) by simp,nu r fs]
  exact q
 ·obtain ⟨ai,r,pl,hz⟩:=I.tuple hq
  refine SeqAt.in_tupleAt (di x) pl (fun w hw=>ke rx fx r fs w (by simpa using hw)) ⟨.bl _,H,I,rfl,?_⟩
  rw [show ai.toArray.any (di x)=ai.any (di x) by simp,nu r fs]
  exact q
theorem xq:bU X (compareOp .NotIn) (va X.K true):=by
 intro aa s σ H x y v u Q I rx ry h
 obtain ⟨p,xs,rfl,hq,fx,fs,q⟩:=h
 cases ry
 rcases hq with hq|hq
 ·obtain ⟨ai,r,pl,hz⟩:=I.list hq
  refine SeqAt.notIn_listAt (di x) pl.isList (fun w hw=>ke rx fx r fs w (by simpa using hw)) ⟨.bl _,H,I,rfl,?_⟩
  rw [show ai.toArray.any (di x)=ai.any (di x) by simp,nu r fs]
  exact q
 ·obtain ⟨ai,r,pl,hz⟩:=I.tuple hq
  refine SeqAt.notIn_tupleAt (di x) pl (fun w hw=>ke rx fx r fs w (by simpa using hw)) ⟨.bl _,H,I,rfl,?_⟩
  rw [show ai.toArray.any (di x)=ai.any (di x) by simp,nu r fs]
  exact q
theorem qB:gy X (.builtin "len") (fun xs H Q=>∃p ys,xs=[.ref p]∧(bG X.K H p ys∨aZ X.K H p ys)∧Q (.int ys.length) H):=by
 intro aa s σ H xs us Q I r h
 obtain ⟨p,ys,rfl,hq,q⟩:=h
 obtain ⟨u,rfl,rx⟩:=vals1 r
 cases rx
 have hn:=jq
 rcases hq with hq|hq
 ·obtain ⟨ai,r',pl,hz⟩:=I.list hq
  have hlen:=r'.length
  exact Calls.call_len_list pl.isList (by simp only [List.size_toArray]<;>(first|lia|omega)) ⟨.int ys.length,H,I.tok _,⟨s.toks+1,by rw [List.size_toArray,hlen]⟩,q⟩
 ·obtain ⟨ai,r',pl,hz⟩:=I.tuple hq
  have hlen:=r'.length
  exact len_tuple pl (by simp only [List.size_toArray]<;>(first|lia|omega)) ⟨.int ys.length,H,I.tok _,⟨s.toks+1,by rw [List.size_toArray,hlen]⟩,q⟩
theorem BK:gy X (.builtin "len") (fun xs H Q=>∃z,xs=[.str z]∧z.length≤sizeLine∧Q (.int z.length) H):=by
 intro aa s σ H xs us Q I r h
 obtain ⟨z,rfl,hz,q⟩:=h
 obtain ⟨u,rfl,t,rfl⟩:=vals1 r
 have hn:=jq
 exact len_str (by first|lia|omega) ⟨.int z.length,H,I.tok _,⟨_,rfl⟩,q⟩
theorem uk:gy X (.type "tuple") (fun xs H Q=>∃p ys,xs=[.ref p]∧((bG X.K H p ys∧∀l,H l=none→Q (.ref l) (upd H l (.tup ys)))∨(aZ X.K H p ys∧Q (.ref p) H))):=by
 intro aa s σ H xs us Q I r h
 obtain ⟨p,ys,rfl,h⟩:=h
 obtain ⟨u,rfl,rx⟩:=vals1 r
 cases rx
 rcases h with ⟨hq,q⟩|⟨hq,q⟩
 ·obtain ⟨ai,r',pl,hz⟩:=I.list hq
  have hlen:=r'.length
  refine call_tuple_list pl.isList (fun h' kp=>?_) (by simp only [List.size_toArray]<;>(first|lia|omega))
  have I1:Inv X aa σ H { s with heap:=h' }:=I.kept (t':=s.toks) kp
  have I2:Inv X aa σ (upd H h'.objs.size (.tup ys)) { s with heap:=h'.push { cls:=.type "tuple",data:=.seq ai.toArray } } :=
   I1.laid (t':=s.toks) (fun b o e=>Heap.get?_push_of_some _ e) (Nat.le_refl _) (show bS X.prog X.w _ _ _ (.tup ys) from ⟨hz,ai,r',IsTup.new _ _⟩)
  exact ⟨.ref h'.objs.size,_,I2,rfl,q _ (I1.ao.fresh (Nat.le_refl _))⟩
 ·obtain ⟨ai,r',pl,hz⟩:=I.tuple hq
  exact call_tuple_same pl ⟨.ref p,H,I,rfl,q⟩
noncomputable def lO (K:PySem.W.Frag) (T:String) (x:V) (H:Hp):Prop:=match x with
 |.str _=>T= "str"
 |.int _=>T= "int"
 |.ref p=>(T= "list" ∧ ∃xs,bG K H p xs)∨(T= "tuple" ∧ ∃o,K.lookup p=some o∧o.cls=.type "tuple" ∧ o.dict=none) ∨
   (T= "dict" ∧ ((∃ae,H p=some (.dK ae))∨∃ae,H p=some (.dT ae)))∨(T= "set" ∧ ∃S n,H p=some (.set S n))
 |_=>False
theorem vX {aa:List (Addr×Obj)} {σ:St} {H:Hp} {s:Shared} {T:String} {x:V} {v:Value} (I:Inv X aa σ H s) (r:RelV x v) (ty:lO X.K T x H) :
  s.TypeIs v T∧∀a,v=.ref a→∃ob,s.heap.get? a=some ob∧ob.dict=none:=by
 cases x with
 |str z =>
  obtain ⟨t,rfl⟩:=r
  cases (show T= "str" from ty)
  exact ⟨typeIs_str s z t,fun _ e=>nomatch e⟩
 |int i =>
  obtain ⟨t,rfl⟩:=r
  cases (show T= "int" from ty)
  exact ⟨typeIs_int s i t,fun _ e=>nomatch e⟩
 |ref p =>
  cases r
  rcases ty with ⟨rfl,xs,hq⟩|⟨rfl,o,hk,hc,hd⟩|⟨rfl,hk⟩|⟨rfl,S,n,hk⟩
  ·obtain ⟨ai,_,pl,_⟩:=I.list hq
   refine ⟨pl.isList.typeIs,fun a e=>?_⟩
   cases e
   obtain ⟨o,n,e,c,hd,_⟩:=pl
   exact ⟨o,e,hd⟩
  ·refine ⟨⟨o,I.kIn p o hk,hc⟩,fun a e=>?_⟩
   cases e
   exact ⟨o,I.kIn _ o hk,hd⟩
  ·have z:∃o,s.heap.get? p=some o∧o.ExactDict:=by
    rcases hk with ⟨ae,hk⟩|⟨ae,hk⟩
    ·obtain ⟨_,_,_,_,o,_,_,e,ex,_⟩:=I.ao p _ hk
     exact ⟨o,e,ex⟩
    ·obtain ⟨_,_,_,_,o,_,_,e,ex,_⟩:=I.ao p _ hk
     exact ⟨o,e,ex⟩
   obtain ⟨o,e,ex⟩:=z
   refine ⟨⟨o,e,ex.1⟩,fun a e2=>?_⟩
   cases e2
   exact ⟨o,e,ex.2.1⟩
  ·obtain ⟨o,_,_,_,e,ex,_⟩:=I.ao p _ hk
   refine ⟨⟨o,e,ex.1⟩,fun a e2=>?_⟩
   cases e2
   exact ⟨o,e,ex.2.1⟩
 |_=>exact False.elim ty
noncomputable def HI (K:PySem.W.Frag) (T:String) (r:V→List V→Hp→VK→Prop) (to:TE):TE:=fun σ H Q=>to σ H fun x H1=>lO K T x H1∧r x [] H1 Q
noncomputable def Gr (K:PySem.W.Frag) (T:String) (r:V→List V→Hp→VK→Prop) (to:TE) (t:TA):TE:=fun σ H Q=>to σ H fun x H1=>lO K T x H1∧t σ H1 fun xs H2=>r x xs H2 Q
variable {o e:Expr} {es:List Expr} {to:TE} {t:TA} {name:Str} {apos aA:Pos} {T id:String} {r:V→List V→Hp→VK→Prop}
theorem G3 (pa:PlainAttrs T) (slot:Slot T name id) (hty:typeOf (.builtin id)=pure (.type "method_descriptor")) (hm:pN X id r) (ho:PE X o to)
  (hbase:attributeBase o name X.env (eval o X.env)=eval o X.env:=by rfl) (hline:(apos.endLine ==aA.line)=true:=by rfl):PE X (.Call (.Attribute o name apos) [] [] aA) (HI X.K T r to):=by
 intro aa s σ H Q I h
 refine wpAny_Call_method0_late hbase hline (aC (ho aa s σ H _ I h) fun v s1 zz0=>?_)
 obtain ⟨x,H1,I1,r1,ty,q1⟩:=zz0
 obtain ⟨h1,h2⟩:=vX I1 r1 ty
 exact ⟨T,id,pa,slot,hty,h1,h2,Calls.callWith_builtin rfl (PySem.evalArgs_none (hm aa s1 σ H1 x [] v [] Q I1 r1 .nil q1))⟩
theorem FN (pa:PlainAttrs T) (slot:Slot T name id) (hty:typeOf (.builtin id)=pure (.type "method_descriptor")) (hm:pN X id r) (ho:PE X o to) (ha:PA X (e::es) t)
  (hbase:attributeBase o name X.env (eval o X.env)=eval o X.env:=by rfl)
  (hfew:((backTo aA (starEach (e::es) X.env)).all (fun x=>!x.1) && (backToKw aA (keywordEach [] X.env)).all (fun x=>x.1.isSome)
   && decide ((e::es).length+([]:List Keyword).length+(if ([]:List Keyword).isEmpty then 0 else 1) < 30))=true:=by rfl)
  (hline:(apos.endLine ==aA.line)=true:=by rfl) (hs:starEach (e::es) X.env=(false,eval e X.env)::starEach es X.env:=by rfl) (hplain:(backTo aA (starEach es X.env)).any (·.1)=false:=by rfl) :
  PE X (.Call (.Attribute o name apos) (e::es) [] aA) (Gr X.K T r to t):=by
 intro aa s σ H Q I h
 refine wpAny_Call_method_late hbase hfew hline rfl (aC (ho aa s σ H _ I h) fun v s1 zz0=>?_)
 obtain ⟨x,H1,I1,r1,ty,q1⟩:=zz0
 obtain ⟨h1,h2⟩:=vX I1 r1 ty
 refine ⟨T,id,pa,slot,hty,h1,h2,?_⟩
 have hA:=ha aA aa s1 σ H1 _ I1 q1
 rw [hs] at hA ⊢
 refine Calls.callWith_builtin (by show (false ||(backTo aA (starEach es X.env)).any (·.1))=false;rw [hplain]<;>rfl) (Calls.evalArgs_plain ?_)
 refine aC hA fun us s2 zz0=>?_
 obtain ⟨vs,H2,I2,r2,q2⟩:=zz0
 exact hm aa s2 σ H2 x vs v us Q I2 r1 r2 q2
end
end L2
namespace L2
open PySem PySem.Spec PyProof.Rows
noncomputable def mh (X:Cx) (id:String) (r:V→List V→Hp→VK→Prop):Prop :=
 ∀(aa:List (Addr×Obj)) (s:Shared) (σ:St) (H:Hp) (x:V) (xs:List V) (v:Value) (us:List Value) (Q:VK),Inv X aa σ H s→RelV x v→Vals xs us→r x xs H Q →
  wpAny (model X.prog X.w) X.A (call (.builtin id) (v::us)) (EP X aa σ Q) X.xe s
theorem Vals.one {x:V} {us:List Value} (h:Vals [x] us):∃u,us=[u]∧RelV x u:=by
 cases h with
 |cons r t=>cases t;exact ⟨_,rfl,r⟩
theorem Vals.zero {us:List Value} (h:Vals [] us):us=[]:=by cases h;rfl
theorem Vals.dropLast {xs:List V} {us:List Value} (h:Vals xs us):Vals xs.dropLast us.dropLast:=by
 induction h with
 |nil=>exact .nil
 |cons r t ih =>
  cases t with
  |nil=>exact .nil
  |cons q t'=>exact .cons r ih
theorem Vals.eraseIdx:∀{xs:List V} {us:List Value} (i:Nat),Vals xs us→Vals (xs.eraseIdx i) (us.eraseIdx i)
 |_,_,_,.nil=>.nil
 |_,_,0,.cons _ t=>t
 |_,_,i+1,.cons r t=>.cons r (Vals.eraseIdx i t)
theorem Cc {α:Type} (l:List α):l.eraseIdx (l.length-1)=l.dropLast:=by
 induction l with
 |nil=>rfl
 |cons a r ih =>
  cases r with
  |nil=>rfl
  |cons b r =>
   have e:(a::b::r).length-1=((b::r).length-1)+1:=by
    have h1:(a::b::r).length=r.length+2:=rfl
    have h2:(b::r).length=r.length+1:=rfl
    (first|lia|omega)
   rw [e,List.eraseIdx_cons_succ,ih]
   all_goals rfl
theorem sQ {α:Type}:∀(l:List α) (i:Nat),(l.eraseIdx i).length≤l.length
 |[],_=>Nat.le_refl _
 |_::_,0=>Nat.le_succ _
 |_::r,i+1=>Nat.succ_le_succ (sQ r i)
section
variable {X:Cx} {aa:List (Addr×Obj)} {σ:St} {H:Hp} {s:Shared} {l b:Addr} {xs ys zs:List V}
theorem Inv.lset {ai its':List Value} {n:Nat} {f:Array Value→Array Value} {t':Nat} (I:Inv X aa σ H s) (hH:H l=some (.lst xs))
  (e:s.heap.get? l=some { cls:=.type "list",data:=.seq ai.toArray n }) (hf:f ai.toArray=its'.toArray) (hv:Vals ys its') (hz:ys.length≤sizeLine) :
  Inv X aa σ (upd H l (.lst ys)) { s with heap:=s.heap.update l (Obj.mapSeq f),toks:=t' }:=by
 have q:=PySem.IsL.update e f
 rw [hf] at q
 refine I.write (x:=l) (e:=l) (by rw [hH];exact trivial) (.inl rfl) (fun b' u hb hu=>(Heap.get?_update_other s.heap (Obj.mapSeq f) (Ne.symm hb)).trans hu) ⟨_,q⟩ ?_
 exact ⟨hz,its',_,hv,q⟩
theorem Inv.lnew {ai:List Value} {t':Nat} (I:Inv X aa σ H s) (hv:Vals ys ai) (hz:ys.length≤sizeLine) :
  Inv X aa σ (upd H s.heap.objs.size (.lst ys)) { s with heap:=s.heap.push { cls:=.type "list",data:=.seq ai.toArray },toks:=t' } :=
 I.laid (fun _ _ q=>Heap.get?_push_of_some _ q) (Nat.le_refl _) ⟨hz,ai,0,hv,Heap.get?_push_size _ rfl⟩
theorem Inv.fresh (I:Inv X aa σ H s):H s.heap.objs.size=none:=I.ao.fresh (Nat.le_refl _)
theorem Inv.lstM (I:Inv X aa σ H s) (hH:H l=some (.lst xs)):xs.length≤sizeLine∧∃(ai:List Value) (n:Nat),Vals xs ai∧xs.length=ai.length∧s.heap.get? l=some { cls:=.type "list",data:=.seq ai.toArray n }:=by
 obtain ⟨z,ai,n,r,e⟩:=I.ao l _ hH
 exact ⟨z,ai,n,r,r.length,e⟩
theorem zq {n:Nat} (h:n≤sizeLine):Builtin.List.listTooLong n=false:=by
 unfold Builtin.List.listTooLong
 exact decide_eq_false (by first|lia|omega)
end
section
variable {X:Cx}
noncomputable def HX:V→List V→Hp→VK→Prop:=fun x vs H Q=>∃l xs y,x=.ref l∧vs=[y]∧H l=some (.lst xs)∧xs.length < sizeLine∧Q .non (upd H l (.lst (xs++[y])))
theorem si:mh X "list.append" HX:=by
 intro aa s σ H x vs v us Q I rx rv h
 obtain ⟨l,xs,y,rfl,rfl,hH,hz,q⟩:=h
 cases rx
 obtain ⟨u,rfl,ru⟩:=rv.one
 obtain ⟨z,ai,n,r,hl,e⟩:=I.lstM hH
 refine call_meets F.slot_list_append ⟨_,e,rfl⟩ F.entry_list_append (F.args_list_append_2 _ _) (PySem.list_append l ai.toArray n u (by rw [List.size_toArray];(first|lia|omega))) ⟨e,?_⟩
 refine ⟨.non,_,I.lset (its':=ai++[u]) hH e (by simp) (r.append (.cons ru .nil)) ?_,rfl,q⟩
 rw [List.length_append,List.length_singleton]
 (first|lia|omega)
noncomputable def Cw:V→List V→Hp→VK→Prop:=fun x vs H Q=>∃l b xs zs,x=.ref l∧vs=[.ref b]∧H l=some (.lst xs)∧H b=some (.lst zs)∧xs.length+zs.length≤sizeLine∧Q .non (upd H l (.lst (xs++zs)))
theorem GL:mh X "list.extend" Cw:=by
 intro aa s σ H x vs v us Q I rx rv h
 obtain ⟨l,b,xs,zs,rfl,rfl,hH,hB,hz,q⟩:=h
 cases rx
 obtain ⟨u,rfl,ru⟩:=rv.one
 cases ru
 obtain ⟨z,ai,n,r,hl,e⟩:=I.lstM hH
 obtain ⟨z2,its2,n2,r2,hl2,e2⟩:=I.lstM hB
 have hsz:ai.toArray.size+its2.toArray.size≤sizeLine:=by rw [List.size_toArray,List.size_toArray];(first|lia|omega)
 have hlong:¬(!ai.toArray.isEmpty && Builtin.List.listTooLong (ai.toArray.size+its2.toArray.size))=true:=by
  rw [zq hsz,Bool.and_false]
  exact Bool.false_ne_true
 refine call_meets F.slot_list_extend ⟨_,e,rfl⟩ F.entry_list_extend (F.args_list_extend_2 _ _)
  (AutoSeq1.list_extend_list_list_0 l ai.toArray n b its2.toArray n2 hlong (by rw [List.size_toArray];(first|lia|omega)) (by first|lia|omega)) ⟨e,e2,?_⟩
 refine ⟨.non,_,I.lset (its':=ai++its2) hH e (by simp) (r.append r2) ?_,rfl,q⟩
 rw [List.length_append]
 (first|lia|omega)
noncomputable def Dp:V→List V→Hp→VK→Prop:=fun x vs H Q=>∃l xs y,x=.ref l∧vs=[]∧H l=some (.lst xs)∧xs[xs.length-1]?=some y∧Q y (upd H l (.lst xs.dropLast))
theorem Dk:mh X "list.pop" Dp:=by
 intro aa s σ H x vs v us Q I rx rv h
 obtain ⟨l,xs,y,rfl,rfl,hH,hy,q⟩:=h
 cases rx
 have hus:=rv.zero
 subst hus
 obtain ⟨z,ai,n,r,hl,e⟩:=I.lstM hH
 obtain ⟨u,hu,ru⟩:=r.get hy
 have hy':ai.toArray[ai.toArray.size-1]?=some u:=by
  show ai.toArray[ai.length-1]?=some u
  rw [←Array.getElem?_toList,←hl]
  exact hu
 refine call_meets F.slot_list_pop ⟨_,e,rfl⟩ F.entry_list_pop (F.args_list_pop_1 _) (MeetsSeq.list_pop_last l ai.toArray n u hy' (by rw [List.size_toArray];(first|lia|omega))) ⟨e,?_⟩
 refine ⟨y,_,I.lset (its':=ai.dropLast) hH e ?_ r.dropLast ?_,ru,q⟩
 ·show ai.toArray.eraseIdxIfInBounds (ai.toArray.size-1)=ai.dropLast.toArray
  rw [List.size_toArray,List.eraseIdxIfInBounds_toArray,Cc]
 ·rw [List.length_dropLast]
  (first|lia|omega)
noncomputable def BW:V→List V→Hp→VK→Prop:=fun x vs H Q=>∃l xs i k y,x=.ref l∧vs=[.int i]∧H l=some (.lst xs)∧-(2 ^ 63)≤i∧i < 2 ^ 63∧seqIndex? i xs.length=some k∧xs[k]?=some y∧Q y (upd H l (.lst (xs.eraseIdx k)))
theorem zP:mh X "list.pop" BW:=by
 intro aa s σ H x vs v us Q I rx rv h
 obtain ⟨l,xs,i,k,y,rfl,rfl,hH,h1,h2,hk,hy,q⟩:=h
 cases rx
 obtain ⟨u,rfl,ru⟩:=rv.one
 obtain ⟨t,rfl⟩:=ru
 obtain ⟨z,ai,n,r,hl,e⟩:=I.lstM hH
 obtain ⟨w,hw,rw'⟩:=r.get hy
 refine call_meets F.slot_list_pop ⟨_,e,rfl⟩ F.entry_list_pop (F.args_list_pop_2 _ _)
  (MeetsSeq.list_pop_at l ai.toArray n i t k w (fitsIndex_both h1 h2) (by rw [List.size_toArray,←hl];exact hk) (by rw [←Array.getElem?_toList];exact hw) (by rw [List.size_toArray];(first|lia|omega))) ⟨e,?_⟩
 refine ⟨y,_,I.lset (its':=ai.eraseIdx k) hH e ?_ (r.eraseIdx k) ?_,rw',q⟩
 ·show ai.toArray.eraseIdxIfInBounds k=(ai.eraseIdx k).toArray
  rw [List.eraseIdxIfInBounds_toArray]
 ·have:=sQ xs k
  (first|lia|omega)
end
section
variable {prog:Program} {w:World} {A:Around} {E:Value→Shared→Prop} {s:Shared}
end
section
variable {X:Cx}
end
end L2
namespace Att
open PySem PySem.W PySem.Calls PyProof.Rows
theorem AM {P:Params} {h:Heap}:∀(ns:List Int) (vs:List Value),WellAll P h vs (ns.map WData.int)→IntsAre vs ns:=by
 intro ns
 induction ns with
 |nil =>
  intro vs w
  rw [List.map_nil] at w
  cases w
  exact .nil
 |cons n ns ih =>
  intro vs w
  rw [List.map_cons] at w
  cases w with
  |cons a b =>
   cases a
   exact .cons _ _ (ih _ b)
theorem Gz {l:OpenLaw} {n:Nat} (hn:l.most=some n) {P:Params} {h:Heap} {args:List WData} {vals:List Value}
  (hpre:l.row.toRowW.claim.pre args=true) (hwl:WellAll P h vals args) :
  ∃a vs ns,vals=[Value.ref a]∧args=[WData.list (ns.map WData.int)]∧h.get? a=some { cls:=.type "list",data:=.seq vs.toArray }∧IntsAre vs ns∧ns.length≤n:=by
 have hsh:WShape.hasAll [] args [.list .int]=true:=(pre_splitW hpre).1
 have hc:l.pre.holds [] { args:=args }=true:=(pre_splitW hpre).2
 obtain ⟨d,r,rfl,h1,h2⟩:=hasAllW_cons hsh
 obtain rfl:=hasAllW_nil h2
 obtain ⟨xs,rfl,h3⟩:=hasW_list h1
 obtain ⟨ns,rfl⟩:=items_int h3
 have hlen:ns.length≤n:=by
  unfold OpenLaw.pre at hc
  have h4:(WTm.not (.lt (.lit (.int (n:Int))) (.len (.arg 0)))).holds [] { args:=[.list (ns.map .int)] }=true:=by
   have h4:=(holds_andW hc).1
   rw [hn] at h4
   exact h4
  have h5:=condW_of h4 (w_not (w_lt w_lit (w_len_list (w_arg rfl))))
  rw [List.length_map] at h5
  refine Nat.le_of_not_lt fun q=>?_
  have q':(n:Int) < ((ns.length:Nat):Int):=by (first|lia|omega)
  first
   |(rw [decide_eq_true q'] at h5;exact absurd h5 (by decide))
   |(simp at h5;(first|lia|omega))
 cases hwl with
 |cons w1 w2 =>
  cases w2
  cases w1 with
  |list ho hall=>exact ⟨_,_,ns,rfl,rfl,ho,AM ns _ hall,hlen⟩
theorem DR (l:OpenLaw) (args:List WData):l.row.toRowW.claim.post args (.bool true) args=true :=
 postW_of (r:=l.row.toRowW) (X:=(true ==true))
  (show WShape.has [] (.bool true) .bool=true by first|rfl|decide|simp [WShape.has,WShape.arms,WShape.armsAll])
  (show (WTm.eq .res (.lit (.bool true))).value [] { args:=args,res:=some (.bool true),after:=args }=some (.bool (true ==true)) from w_eq_bool (w_res rfl) w_lit) rfl
theorem BN {l:OpenLaw} {n:Nat} {q:Program} {loose:List Str} {XP:(Str→Option Value)→Heap→Prop} {YP:World→Heap→Prop} {d:DefRec}
  (hn:l.most=some n) (hdf:d.params.defaults=[])
  (call:∀(w:World) (s₀ s₁:Shared) (mg mb:Str→Option Value) (fa:Addr) (o:Obj) (pm cd doc:Value) (a:Addr) (vs:List Value) (ns:List Int),
   Ground q loose [] XP w s₀ mg mb s₁.heap→YP w s₁.heap →
   s₁.heap.get? fa=some o→o.data=.func (docDef d.name d.params d.body d.scope pm cd doc)→s₁.heap.CodeRec cd d.name→mg d.name=some (.ref fa) →
   s₁.heap.get? a=some { cls:=.type "list",data:=.seq vs.toArray }→IntsAre vs ns→ns.length≤n→s₁.gens=#[] →
   codeAny (model l.prog w) callerA (.call (.ref fa) ⟨[.ref a],[]⟩) (fun r s'=>r=.ok (.ret (.bool true))∧OldK s₁.heap s'.heap∧s'.os=s₁.os∧AllBare s'.gens) s₁) :
  WalkO q loose XP YP l.row.toRowW d [] (fun f vs=>PySem.call f vs):=by
 intro w s₀ s₁ mg mb G Y fa o pm cd doc dV kV ho hd hcd hD hmg hg args vals as hpre hlay hrd hwl hlo
 obtain rfl:dV=.none:=Dflts.none hD hdf
 obtain rfl:kV=.none:=Dflts.noKw hD
 obtain ⟨a,vs,ns,rfl,rfl,hobj,hints,hlen⟩:=Gz hn hpre hwl
 refine enter_call (codeAny_mono (call w s₀ s₁ mg mb fa o pm cd doc a vs ns G Y ho (fd_plain hd) hcd hmg hobj hints hlen hg) fun r s' hq=>?_)
 obtain ⟨rfl,h2,h3,h4⟩:=hq
 exact ⟨.inl ⟨.bool true,.bool true,[],rfl,fun _=>rfl,.bool true,DR l _,fun _=>⟨List.Pairwise.nil,fun _ hm=>(nomatch hm)⟩⟩,h2,h3,h4⟩
section
variable {prog:Program} {w:World} {A:Around} {E:Value→Shared→Prop} {s:Shared} {K:Frag}
noncomputable def ledger (h:Heap) (L d:Addr):List (Addr×Obj):=(List.range h.objs.size).filterMap fun a=>if a=L∨a=d then none else (h.get? a).map fun o=>(a,o)
end
end Att
namespace L2
open PySem PySem.Spec PyProof.Rows
theorem Bp {vs:List Value} {ns:List Int} (h:IntsAre vs ns):Vals (ns.map V.int) vs:=by
 induction h with
 |nil=>exact .nil
 |cons n t h ih=>exact .cons ⟨t,rfl⟩ ih
noncomputable def lM (H:Hp):Prop:=∀b,H b=none∨∃o xs,H b=some (.frz o (.lst xs))
theorem Hf {P:Program} {w:World} {K:PySem.W.Frag} {mg mb:Str→Option Value} {CX:dD} {k:Nat} {fa a:Addr} {fd:FuncData} {x:Str} {sp:Sp} {s₁:Shared} {vs:List Value} {ns:List Int}
  (KX:K.In s₁.heap) (hns:s₁.heap.Ns mainGlobals mg) (hb:s₁.heap.Ns builtinsNs mb) (hbb:∀x:Str,x≠ "__name__" → mb x=bootBuiltins x) (hlim:s₁.heap.NoLimit) (hg:s₁.gens=#[])
  (ha:s₁.heap.get? a=some { cls:=.type "list",data:=.seq vs.toArray }) (hi:IntsAre vs ns) (hl:ns.length≤sizeLine) (hr:aW k callerA)
  (F:∀base:Heap,K.In base→base.Ns mainGlobals mg→cn P w K mg base CX k fa fd [x] sp) (hbind:∀(s:Shared) (u:Value),BindsTo s fd ⟨[u],[]⟩ [(x,u)])
  (hsp:∀H:Hp,lM H→bG K H a (ns.map V.int)→sp [.ref a] H (fun v _=>v=.bl true) fun _ _ _=>False)
  (hCX:∀H e s',CX [] H s₁ (fun _ _ _=>False) e s'→False) :
  codeAny (model P w) callerA (.call (.ref fa) ⟨[.ref a],[]⟩) (fun r s'=>r=.ok (.ret (.bool true))∧OldK s₁.heap s'.heap∧s'.os=s₁.os∧AllBare s'.gens) s₁:=by
 have rv:=Bp hi
 have lenV:=hi.length
 have core:∀H:Hp,lM H→bG K H a (ns.map V.int)→bM P w H s₁.heap→(∀b,H b≠none→b=a)→(H a≠none→K.lookup a=none) →
   codeAny (model P w) callerA (.call (.ref fa) ⟨[.ref a],[]⟩) (fun r s'=>r=.ok (.ret (.bool true))∧OldK s₁.heap s'.heap∧s'.os=s₁.os∧AllBare s'.gens) s₁:=by
  intro H hO hS ao hA hK
  have base_of:∀{b:Addr} {o:Obj},s₁.heap.get? b=some o→H b=none→(fJ s₁.heap H).get? b=some o:=fun e n=>BS e n
  have noA:∀{b:Addr} {o:Obj} {es:Array DictEntry} {ep:Nat},s₁.heap.get? b=some o→o.data=.dict es ep→H b=none:=fun {b o es ep} e d=>by
   cases q:H b with
   |none=>rfl
   |some u =>
    have e':b=a:=hA b (by rw [q];simp)
    subst e'
    rw [ha] at e;cases e
    have d':Data.seq vs.toArray _=Data.dict es ep:=d
    cases d'
  have nsK:∀{b:Addr} {m:Str→Option Value},s₁.heap.Ns b m→(fJ s₁.heap H).Ns b m:=fun {b m} ⟨o,es,ep,e,d,r⟩=>⟨o,es,ep,base_of e (noA e d),d,r⟩
  have hKb:K.In (fJ s₁.heap H):=fun b o e=>base_of (KX b o e) (by
   cases q:H b with
   |none=>rfl
   |some u =>
    have e':b=a:=hA b (by rw [q];simp)
    subst e'
    rw [hK (by rw [q];simp)] at e;cases e)
  have hM:Mod K mg (fJ s₁.heap H):=⟨hKb,nsK hns,⟨mb,nsK hb,hbb⟩,let ⟨mc,h1,h2⟩:=hlim;⟨mc,nsK h1,h2⟩⟩
  have e0:ic P w K mg (fJ s₁.heap H) callerA [] s₁ H:=⟨rfl,hM,fun b o e=>Cs e,Nat.le_of_eq (CQ _ _),trivial,fun b hb=>absurd (show b∈([]:List Addr) from hb) (by simp),ao,.of_eq hg⟩
  refine codeAny_mono ((F _ hKb (nsK hns)).run callerA [] s₁ H ⟨[.ref a],[]⟩ [.ref a] [.ref a] _ _ hr e0 (hbind s₁ (.ref a)) (.cons rfl .nil) (hsp H hO hS)) fun r s' h=>?_
  cases r with
  |error e=>exact (hCX H e s' h).elim
  |ok fl =>
   cases fl with
   |next=>exact False.elim h
   |brk=>exact False.elim h
   |cont=>exact False.elim h
   |ret u =>
    obtain ⟨v,H',os,bare,un,hok',r',q⟩:=h
    have q':v=.bl true:=q
    subst q'
    obtain rfl:u=Value.bool true:=r'
    refine ⟨rfl,OldK.of_keep fun b o e=>?_,os,bare⟩
    cases q:H b with
    |none=>exact un.keep b o e q (by intro z;exact absurd (show b∈([]:List Addr) from z) (by simp)) (by simp)
    |some u =>
     rcases hO b with z|⟨ob,xs,z⟩
     ·rw [q] at z;cases z
     ·have z2:=un.frzs b ob _ z
      obtain ⟨e1,_⟩:=ao b _ z
      obtain ⟨e2,_⟩:=hok' b _ z2
      rw [e] at e1;cases e1
      exact e2
 cases hk:K.lookup a with
 |some o =>
  have e:=KX a o hk
  rw [ha] at e
  cases e
  refine core (fun _=>none) (fun _=>.inl rfl) (.inr ⟨_,vs.toArray,_,hk,rfl,rfl,rfl,by rw [List.size_toArray,lenV];exact hl,by simpa using rv⟩) (fun b u z=>by have z':(none:Option HO)=some u:=z;cases z') (fun b z=>absurd rfl z) fun z=>absurd rfl z
 |none =>
  refine core (fun b=>if b=a then some (.frz { cls:=.type "list",data:=.seq vs.toArray } (.lst (ns.map V.int))) else none) (fun b=>?_) (.inl (.inr ⟨{ cls:=.type "list",data:=.seq vs.toArray },if_pos rfl⟩)) (fun b u z=>?_) (fun b z=>?_) fun _=>hk
  ·by_cases hb:b=a
   ·exact .inr ⟨_,_,if_pos hb⟩
   ·exact .inl (if_neg hb)
  ·by_cases hb:b=a
   ·have z':=(if_pos hb).symm.trans z
    cases z'
    subst hb
    exact ⟨ha,by rw [List.length_map];exact hl,vs,_,rv,ha⟩
   ·have z':=(if_neg hb).symm.trans z
    cases z'
  ·by_cases hb:b=a
   ·exact hb
   ·exact absurd (if_neg hb) z
end L2
namespace L2
open PySem PySem.Spec PyProof.Rows
noncomputable abbrev Il {K:PySem.W.Frag} {h:Heap} (_:K.In h):PySem.W.Frag:=K
theorem zD {l:PySem.W.OpenLaw} {n k:Nat} {q:Program} {loose:List Str} {XP:(Str→Option Value)→Heap→Prop} {YP:World→Heap→Prop} {d:DefRec} {K:Params→PySem.W.Frag} {CX:World→dD} {sp:World→Sp} {x:Str}
  (hn:l.most=some n) (hn2:n≤sizeLine) (hdf:d.params.defaults=[]) (hr:aW k callerA)
  (hY:∀(w:World) (h:Heap),YP w h→(K w.params).In h)
  (F:∀(w:World) (mg:Str→Option Value) (fa:Addr) (h:Heap),(K w.params).In h→h.Ns mainGlobals mg→mg d.name=some (.ref fa) →
   ∃fd:FuncData,(∀(s:Shared) (u:Value),BindsTo s fd ⟨[u],[]⟩ [(x,u)]) ∧
    ∀base:Heap,(K w.params).In base→base.Ns mainGlobals mg→cn l.prog w (K w.params) mg base (CX w) k fa fd [x] (sp w))
  (hsp:∀(w:World) (H:Hp) (a:Addr) (ns:List Int),ns.length≤n→lM H→bG (K w.params) H a (ns.map V.int)→sp w [.ref a] H (fun v _=>v=.bl true) fun _ _ _=>False)
  (hCX:∀(w:World) (H:Hp) (s:Shared) (e:Value) (s':Shared),CX w [] H s (fun _ _ _=>False) e s'→False) :
  PySem.W.WalkO q loose XP YP l.row.toRowW d [] (fun f vs=>PySem.call f vs):=by
 refine Att.BN hn hdf fun w s₀ s₁ mg mb fa o pm cd doc a vs ns G Y ho hd hcd hmg hobj hints hlen hg=>?_
 have KX:=hY w _ Y
 obtain ⟨fd,hb,hF⟩:=F w mg fa _ KX G.T.g hmg
 exact Hf KX G.T.g G.T.b G.T.builtins G.T.nolimit hg hobj hints (Nat.le_trans hlen hn2) hr hF hb (fun H hO hS=>hsp w H a ns hlen hO hS) fun H e s'=>hCX w H s₁ e s'
end L2
namespace L2
open PySem PySem.Spec PyProof.Rows
noncomputable def inClass (s:Stmt) (j:Nat):Stmt:=match s with
 |.ClassDef _ _ _ body _ _ _ _ _ _ _=>body.getD j (.Pass ⟨0,0,0,0⟩)
 |_=>.Pass ⟨0,0,0,0⟩
noncomputable def bc (s:Stmt):Arguments:=match s with
 |.FunctionDef _ a _ _ _ _ _ _ _ _=>a
 |_=>{ posonlyargs:=[],args:=[],vararg:=none,kwonlyargs:=[],kw_defaults:=[],kwarg:=none,defaults:=[] }
noncomputable def aU (s:Stmt):List Stmt:=match s with
 |.FunctionDef _ _ b _ _ _ _ _ _ _=>b
 |_=>[]
noncomputable def au (s:Stmt):Scope:=match s with
 |.FunctionDef _ _ _ _ _ _ sc _ _ _=>sc
 |_=>{ kind:=.function,names:=[],isGenerator:=false,isCoroutine:=false }
noncomputable abbrev cY:dD:=fun _ _ _ _ _ _=>False
noncomputable abbrev E0:XK:=fun _ _ _=>False
theorem oo {X:Cx}:Passes cY X E0:=fun _ _ _ _ _ _ _ h=>h.elim
structure e8 (K:PySem.W.Frag) (x qual:Str) (st:Stmt) (f:Addr) (fd:FuncData):Prop where
 ex:∃(oc:Value) (od:Option Addr) (kV doc pm:Value) (an:Option Addr) (cdv ct:Value) (osl:Array (Option Value)),
  fd=PySem.W.fnOf x qual (bc st) (aU st) (au st) .none kV doc pm an cdv ct∧K.lookup f=some ⟨oc,od,.func fd,osl⟩∧PySem.W.codeIn K cdv qual=true
 kp:PySem.W.keepIn K (.ref f)=true
section
variable {P:Program} {w:World} {K:PySem.W.Frag} {mg:Str→Option Value} {base:Heap}
theorem e8.ok {x qual:Str} {st:Stmt} {f:Addr} {fd:FuncData} {N ps:List Str} {k:Nat} {sp:Sp} (F:e8 K x qual st f fd) (S:aX N ps (au st)) (len:∀vs H Q E,sp vs H Q E→vs.length=ps.length)
  (hbody:∀(cdv:Value) (A:Around) (outer:List Env) (s:Shared) (H:Hp) (vs:List V) (Q:VK) (E:XK),aW k (A.deeper (envOfC qual (au st) s.heap.objs.size f cdv))→sp vs H Q E →
   ∃t,bx (cu cY P w K mg base N qual (au st) f cdv A outer s H E).nox (aU st) t∧t { nx:=fun _ H'=>Q .non H',rt:=Q } (start N vs) H):cn P w K mg base cY (k+1) f fd ps sp:=by
 obtain ⟨oc,od,kV,doc,pm,an,cdv,ct,osl,rfl,lk,hcd⟩:=F.ex
 refine sO lk hcd S len fun A outer s H vs Q E hr hsp=>?_
 obtain ⟨t,h,q⟩:=hbody cdv A outer s H vs Q E hr hsp
 exact ⟨t,h.nox,q⟩
theorem e8.binds {x qual:Str} {st:Stmt} {f:Addr} {fd:FuncData} {ps:List Str} (F:e8 K x qual st f fd)
  (h:∀(kV doc pm:Value) (an:Option Addr) (cdv ct:Value) (us:List Value),us.length=ps.length→bindArgs (PySem.W.fnOf x qual (bc st) (aU st) (au st) .none kV doc pm an cdv ct) ⟨us,[]⟩=pure (ps.zip us)):Binds K fd ps []:=by
 obtain ⟨oc,od,kV,doc,pm,an,cdv,ct,osl,rfl,lk,hcd⟩:=F.ex
 exact .all (h kV doc pm an cdv ct)
theorem bq {x qual:Str} {st:Stmt} {f:Addr} {oc:Value} {od an:Option Addr} {osl:Array (Option Value)} {kV doc pm cdv ct:Value} (l:K.lookup f=some ⟨oc,od,.func (PySem.W.fnOf x qual (bc st) (aU st) (au st) .none kV doc pm an cdv ct),osl⟩)
  (c:PySem.W.codeIn K cdv qual=true) (k:PySem.W.keepIn K (.ref f)=true):e8 K x qual st f (PySem.W.fnOf x qual (bc st) (aU st) (au st) .none kV doc pm an cdv ct):=⟨⟨oc,od,kV,doc,pm,an,cdv,ct,osl,rfl,l,c⟩,k⟩
end
theorem kQ {A:Around} {k:Nat} (hr:aW k A):A.units+1 < cLine:=Nat.lt_of_le_of_lt (Nat.add_le_add_left (by decide:1≤64) _) hr.units
theorem cC {n:Nat} (h:n≤1000):n < sizeLine:=Nat.lt_of_le_of_lt h (by decide)
section
variable {X:Cx}
end
end L2
namespace L2
open PySem PySem.Spec PyProof.Rows
section
variable {κ:Type} [DecidableEq κ]
noncomputable def dw (ae:List (κ×V)) (k:κ):Option V:=(ae.find? fun kv=>decide (kv.1=k)).map (·.2)
noncomputable def putK (ae:List (κ×V)) (k:κ) (v:V):List (κ×V) :=
 if (ae.any fun kv=>decide (kv.1=k))=true then ae.map (fun kv=>if kv.1=k then (kv.1,v) else kv) else ae++[(k,v)]
theorem lz {p:κ×V} {r:List (κ×V)} {k:κ} (e:p.1=k):dw (p::r) k=some p.2:=by simp [dw,List.find?_cons,e]
theorem jV {p:κ×V} {r:List (κ×V)} {k:κ} (e:¬p.1=k):dw (p::r) k=dw r k:=by simp [dw,List.find?_cons,e]
theorem pd (k:κ):∀ae:List (κ×V),(ae.any fun kv=>decide (kv.1=k))=(dw ae k).isSome
 |[]=>rfl
 |p::r=>by
  rw [List.any_cons]
  by_cases e:p.1=k
  ·simp only [lz e,decide_eq_true e,Bool.true_or,Option.isSome_some]
  ·rw [jV e,decide_eq_false e,Bool.false_or];exact pd k r
theorem sD (ae:List (κ×V)) (k:κ) (v:V):(putK ae k v).length≤ae.length+1:=by
 unfold putK
 split
 ·rw [List.length_map];(first|lia|omega)
 ·rw [List.length_append,List.length_cons,List.length_nil];(first|lia|omega)
theorem cK.isSome_eq {o:Option V} {u:Option Value} (r:cK o u):o.isSome=u.isSome:=by
 cases o with
 |none=>cases u with
  |none=>rfl
  |some _=>exact (show False from r).elim
 |some _=>cases u with
  |none=>exact (show False from r).elim
  |some _=>rfl
theorem cK.getD {o:Option V} {u:Option Value} {d:V} {d':Value} (r:cK o u) (rd:RelV d d'):RelV (o.getD d) (u.getD d'):=by
 cases o with
 |none=>cases u with
  |none=>exact rd
  |some _=>exact (show False from r).elim
 |some _=>cases u with
  |none=>exact (show False from r).elim
  |some _=>exact r
theorem KV.val {ae:List (κ×V)} {vs:List (κ×Value)} (r:KV ae vs) (k:κ):cK (dw ae k) (valueAt vs k):=by
 unfold KV at r
 induction r with
 |nil=>exact True.intro
 |@cons p q ps qs h t ih =>
  obtain ⟨h1,h2⟩:=h
  by_cases e:p.1=k
  ·have e':q.1=k:=h1.symm.trans e
   have b:valueAt (q::qs) k=some q.2:=by simp [valueAt,List.find?_cons,e']
   rw [lz e,b];exact h2
  ·have e':¬q.1=k:=fun z=>e (h1.trans z)
   have b:valueAt (q::qs) k=valueAt qs k:=by simp [valueAt,List.find?_cons,e']
   rw [jV e,b];exact ih
theorem KV.any {ae:List (κ×V)} {vs:List (κ×Value)} (r:KV ae vs) (k:κ):(ae.any fun kv=>decide (kv.1=k))=vs.any fun kv=>decide (kv.1=k):=by
 unfold KV at r
 induction r with
 |nil=>rfl
 |cons h t ih=>rw [List.any_cons,List.any_cons,ih,h.1]
theorem KV.repl {ae:List (κ×V)} {vs:List (κ×Value)} (r:KV ae vs) (k:κ) {y:V} {u:Value} (ry:RelV y u) :
  KV (ae.map fun kv=>if kv.1=k then (kv.1,y) else kv) (vs.map fun kv=>if kv.1=k then (kv.1,u) else kv):=by
 unfold KV at r ⊢
 induction r with
 |nil=>exact .nil
 |@cons p q ps qs h t ih =>
  rw [List.map_cons,List.map_cons]
  refine .cons ?_ ih
  obtain ⟨h1,h2⟩:=h
  by_cases e:p.1=k
  ·rw [if_pos e,if_pos (h1.symm.trans e)];exact ⟨h1,ry⟩
  ·rw [if_neg e,if_neg (fun z=>e (h1.trans z))];exact ⟨h1,h2⟩
theorem KV.put {ae:List (κ×V)} {vs:List (κ×Value)} (r:KV ae vs) (k:κ) {y:V} {u:Value} (ry:RelV y u):KV (putK ae k y) (stored vs k u):=by
 unfold putK stored
 rw [r.any k]
 by_cases e:(vs.any fun kv=>decide (kv.1=k))=true
 ·rw [if_pos e,if_pos e];exact r.repl k ry
 ·rw [if_neg e,if_neg e];exact Paired.snoc r ⟨rfl,ry⟩
theorem KV.keys {ae:List (κ×V)} {vs:List (κ×Value)} (r:KV ae vs):ae.map (·.1)=vs.map (·.1):=by
 unfold KV at r
 induction r with
 |nil=>rfl
 |cons h t ih=>rw [List.map_cons,List.map_cons,ih,h.1]
theorem KV.length {ae:List (κ×V)} {vs:List (κ×Value)} (r:KV ae vs):ae.length=vs.length:=Paired.length r
end
theorem jg {P:Program} {w:World} {k:Key} {u:Value} (r:RelV (kV k) u):(ck P w).is k u=true:=by
 cases k with
 |inl i=>obtain ⟨t,e⟩:=(show ∃t,u=Value.int i t from r);subst e;exact ql P w i t
 |inr x=>obtain ⟨t,e⟩:=(show ∃t,u=Value.str x t from r);subst e;exact pW P w x t
theorem vo {P:Program} {w:World}:∀{ks:List Key} {us:List Value},Vals (ks.map kV) us→ItemsAre (ck P w) ks us
 |[],_,r=>by rw [List.map_nil] at r;cases r;exact .nil
 |k::ks,_,r=>by
  rw [List.map_cons] at r
  cases r with
  |cons h t=>exact .cons (jg h) (vo t)
noncomputable abbrev KT (H:Hp):List (List Key×V)→List (List Key×Addr×Value)→Prop:=Paired fun p q=>p.1=q.1∧H q.2.1=some (.tup (p.1.map kV))∧RelV p.2 q.2.2
theorem KT.val {H:Hp} {ae:List (List Key×V)} {xs:List (List Key×Addr×Value)} (r:KT H ae xs) (k:List Key):cK (dw ae k) ((atKey xs k).map (·.2)):=by
 induction r with
 |nil=>exact True.intro
 |@cons p q ps qs h t ih =>
  obtain ⟨h1,_,h2⟩:=h
  by_cases e:p.1=k
  ·have e':q.1=k:=h1.symm.trans e
   have b:atKey (q::qs) k=some q.2:=by simp [atKey,List.find?_cons,e']
   rw [lz e,b];exact h2
  ·have e':¬q.1=k:=fun z=>e (h1.trans z)
   have b:atKey (q::qs) k=atKey qs k:=by simp [atKey,List.find?_cons,e']
   rw [jV e,b];exact ih
theorem KT.repl {H:Hp} {ae:List (List Key×V)} {xs:List (List Key×Addr×Value)} (r:KT H ae xs) (k:List Key) {y:V} {u:Value} (ry:RelV y u) :
  KT H (ae.map fun kv=>if kv.1=k then (kv.1,y) else kv) (xs.map (putAt k u)):=by
 induction r with
 |nil=>exact .nil
 |@cons p q ps qs h t ih =>
  rw [List.map_cons,List.map_cons]
  refine .cons ?_ ih
  obtain ⟨h1,h2,h3⟩:=h
  unfold putAt
  by_cases e:p.1=k
  ·rw [if_pos e,if_pos (h1.symm.trans e)];exact ⟨h1,h2,ry⟩
  ·rw [if_neg e,if_neg (fun z=>e (h1.trans z))];exact ⟨h1,h2,h3⟩
theorem KT.put {H:Hp} {ae:List (List Key×V)} {xs:List (List Key×Addr×Value)} (r:KT H ae xs) (k:List Key) {b:Addr} {y:V} {u:Value} (hb:H b=some (.tup (k.map kV))) (ry:RelV y u) :
  KT H (putK ae k y) (storedH xs k b u):=by
 have e:(ae.any fun kv=>decide (kv.1=k))=(atKey xs k).isSome:=by
  rw [pd,(r.val k).isSome_eq,Option.isSome_map]
 unfold putK storedH
 rw [e]
 by_cases q:(atKey xs k).isSome=true
 ·rw [if_pos q,if_pos q];exact r.repl k ry
 ·rw [if_neg q,if_neg q];exact Paired.snoc r ⟨rfl,hb,ry⟩
theorem KT.keeps {H H':Hp} {ae:List (List Key×V)} {xs:List (List Key×Addr×Value)} (r:KT H ae xs) (ht:∀b ys,H b=some (.tup ys)→H' b=some (.tup ys)):KT H' ae xs :=
 Paired.mapP r fun _ _ z=>⟨z.1,ht _ _ z.2.1,z.2.2⟩
section
variable {P:Program} {w:World} {H:Hp} {h:Heap} {a:Addr}
theorem t9 {u:HO} (ok:bM P w H h) (e:Rd H a u):bS P w H h a u:=e.ok ok
theorem fV {ae:List (Key×V)} (ok:bM P w H h) (e:Rd H a (.dK ae)):ae.length≤sizeLine∧(a ==sysModules)=false∧∃vs,KV ae vs∧h.DictOf (ck P w) a vs :=
 show bS P w H h a (.dK ae) from t9 ok e
theorem vB {ae:List (Key×V)} (ok:bM P w H h) (e:H a=some (.dK ae)):ae.length≤sizeLine∧(a ==sysModules)=false∧∃vs,KV ae vs∧h.DictOf (ck P w) a vs:=fV ok (.inl e)
theorem iE {ks:List Key} (ok:bM P w H h) (e:H a=some (.tup (ks.map kV))):(tupleKind (ck P w)).is h ks a:=by
 obtain ⟨_,ai,r,o,h1,h2,n,h3⟩:=(show bS P w H h a (.tup (ks.map kV)) from ok a _ e)
 exact ⟨o,ai.toArray,n,h1,h2,h3,by simpa using vo r⟩
theorem gQ {ae:List (List Key×V)} (ok:bM P w H h) (e:Rd H a (.dT ae)):ae.length≤sizeLine∧(a ==sysModules)=false ∧
  ∃xs,KT H ae xs∧h.DictOfH (tupleKind (ck P w)) a xs:=by
 obtain ⟨z,y,xs,r,o,es,ep,h1,h2,h3,h4,h5⟩:=(show bS P w H h a (.dT ae) from t9 ok e)
 refine ⟨z,y,xs,r,o,es,ep,h1,h2,h3,h4,fun x hx=>?_,h5⟩
 have all:∀{l:List (List Key×V)} {m:List (List Key×Addr×Value)},KT H l m→∀x∈m,(tupleKind (ck P w)).is h x.1 x.2.1:=by
  intro l m q
  induction q with
  |nil=>intro x hx;exact nomatch hx
  |@cons p q ps qs hq t ih =>
   intro x hx
   rcases List.mem_cons.mp hx with e|hx
   ·subst e
    exact iE ok (by rw [←hq.1];exact hq.2.1)
   ·exact ih x hx
 exact all r x hx
theorem zV {ae:List (List Key×V)} (ok:bM P w H h) (e:H a=some (.dT ae)):ae.length≤sizeLine∧(a ==sysModules)=false ∧
  ∃xs,KT H ae xs∧h.DictOfH (tupleKind (ck P w)) a xs:=gQ ok (.inl e)
end
noncomputable def ie (H:Hp) (a:Addr) (y:V) (r:Option V):Prop :=
 (∃ae k,Rd H a (.dK ae)∧y=kV k∧r=dw ae k)∨∃ae k b,Rd H a (.dT ae)∧y=.ref b∧H b=some (.tup (k.map kV))∧r=dw ae k
noncomputable def kG (H:Hp) (a:Addr) (y v:V) (H':Hp):Prop :=
 (∃ae k,H a=some (.dK ae)∧y=kV k∧ae.length < sizeLine∧H'=upd H a (.dK (putK ae k v))) ∨
 ∃ae k b,H a=some (.dT ae)∧y=.ref b∧H b=some (.tup (k.map kV))∧ae.length < sizeLine∧H'=upd H a (.dT (putK ae k v))
theorem kG.k {H:Hp} {a:Addr} {ae:List (Key×V)} {k:Key} {v:V} (e:H a=some (.dK ae)) (hl:ae.length < sizeLine):kG H a (kV k) v (upd H a (.dK (putK ae k v))):=.inl ⟨ae,k,e,rfl,hl,rfl⟩
section
variable {X:Cx} {aa:List (Addr×Obj)} {σ:St} {H:Hp} {s:Shared} {a:Addr} {y v:V} {u r:Value} {o:Option V} {A:Around} {E:Value→Shared→Prop}
theorem Inv.big (I:Inv X aa σ H s):sysModules < s.heap.objs.size:=by
 have h:mainGlobals < s.heap.objs.size:=(I.mod.glob.keeps I.bk).lt
 exact Nat.lt_trans (by decide) h
theorem yX {Q:Value→Shared→Prop} (hu:A.units+1 < cLine) (I:Inv X aa σ H s) (g:ie H a y (some v)) (ry:RelV y u) (h:∀w' s',Inv X aa σ H s'→RelV v w'→Q w' s') :
  wpAny (model X.prog X.w) A (getItem (.ref a) u) Q E s:=by
 rcases g with ⟨ae,k,e,ey,l⟩|⟨ae,k,b,e,ey,eb,l⟩
 ·subst ey
  obtain ⟨z,hd,vs,rel,dd⟩:=fV I.ao e
  obtain ⟨w',hw,rw'⟩:=cK.some_of (v:=v) (o:=valueAt vs k) (by rw [l];exact rel.val k)
  exact wpAny_getItem_of (jg ry) dd.mapOf hw (h w' _ (I.tok _) rw')
 ·subst ey
  cases (show u=Value.ref b from ry)
  obtain ⟨z,hd,xs,rel,dd⟩:=gQ I.ao e
  obtain ⟨w',hw,rw'⟩:=cK.some_of (v:=v) (o:=(atKey xs k).map (·.2)) (by rw [l];exact rel.val k)
  obtain ⟨p,hp,hp2⟩:=Option.map_eq_some_iff.mp hw
  refine wpAny_getItem_heap (tupleKind_room_in1 hu) (iE I.ao eb) dd hp ?_
  rw [hp2]
  exact h w' _ (I.tok _) rw'
theorem zm {Q:Value→Shared→Prop} (hu:A.units+1 < cLine) (I:Inv X aa σ H s) (g:ie H a y o) (ry:RelV y u) (h:∀s',Inv X aa σ H s'→Q (.bool o.isSome) s') :
  wpAny (model X.prog X.w) A (compareOp .In u (.ref a)) Q E s:=by
 rcases g with ⟨ae,k,e,ey,l⟩|⟨ae,k,b,e,ey,eb,l⟩
 ·subst ey
  obtain ⟨z,hd,vs,rel,dd⟩:=fV I.ao e
  refine wpAny_in_of (jg ry) hd dd.mapOf ?_
  rw [←(rel.val k).isSome_eq,←l]
  exact h _ (I.tok _)
 ·subst ey
  cases (show u=Value.ref b from ry)
  obtain ⟨z,hd,xs,rel,dd⟩:=gQ I.ao e
  refine wpAny_in_heap (tupleKind_room_in1 hu) (iE I.ao eb) hd dd ?_
  have q:=(rel.val k).isSome_eq
  rw [Option.isSome_map] at q
  rw [←q,←l]
  exact h _ (I.tok _)
theorem Gw {Q:Value→Shared→Prop} (hu:A.units+1 < cLine) (I:Inv X aa σ H s) (g:ie H a y o) (ry:RelV y u) (h:∀s',Inv X aa σ H s'→Q (.bool (!o.isSome)) s') :
  wpAny (model X.prog X.w) A (compareOp .NotIn u (.ref a)) Q E s:=by
 rcases g with ⟨ae,k,e,ey,l⟩|⟨ae,k,b,e,ey,eb,l⟩
 ·subst ey
  obtain ⟨z,hd,vs,rel,dd⟩:=fV I.ao e
  refine wpAny_notIn_of (jg ry) hd dd.mapOf ?_
  rw [←(rel.val k).isSome_eq,←l]
  exact h _ (I.tok _)
 ·subst ey
  cases (show u=Value.ref b from ry)
  obtain ⟨z,hd,xs,rel,dd⟩:=gQ I.ao e
  refine wpAny_notIn_heap (tupleKind_room_in1 hu) (iE I.ao eb) hd dd ?_
  have q:=(rel.val k).isSome_eq
  rw [Option.isSome_map] at q
  rw [←q,←l]
  exact h _ (I.tok _)
theorem oW {h':Heap} {t':Nat} {ob:HO} (I:Inv X aa σ H s) (mu:kd (H a)) (hs:Heap.SameBut a s.heap h') (he:∃q,h'.get? a=some q) (new:bS X.prog X.w (upd H a ob) h' a ob) :
  Inv X aa σ (upd H a ob) { s with heap:=h',toks:=t' } :=
 I.write (x:=a) (e:=a) mu (.inl rfl) (fun b q hb z=>(hs.2 b hb).trans z) he new
theorem yW {P:Program} {w:World} {H':Hp} {h':Heap} {ae:List (Key×V)} {vs:List (Key×Value)} (z:ae.length≤sizeLine) (hd:(a ==sysModules)=false) (rel:KV ae vs) (dd:h'.DictOf (ck P w) a vs) :
  bS P w H' h' a (.dK ae):=⟨z,hd,vs,rel,dd⟩
theorem Hn {H':Hp} {Q:Unit→Shared→Prop} (hu:A.units+1 < cLine) (I:Inv X aa σ H s) (g:kG H a y v H') (ry:RelV y u) (rv:RelV v r) (h:∀s',Inv X aa σ H' s'→Q () s') :
  wpAny (model X.prog X.w) A (setItem (.ref a) u r) Q E s:=by
 rcases g with ⟨ae,k,e,ey,l,eH⟩|⟨ae,k,b,e,ey,eb,l,eH⟩
 ·subst ey eH
  obtain ⟨z,hd,vs,rel,dd⟩:=vB I.ao e
  have hz:vs.length≤sizeLine:=by rw [←rel.length];exact z
  have hl:(putK ae k v).length≤sizeLine:=by have:=sD ae k v;(first|lia|omega)
  refine wpAny_setItem_pairs (hsz:=hz) (jg ry) dd fun h' dd' hs=>h _ ?_
  have he:∃q,h'.get? a=some q:=let ⟨q,_,_,hq,_⟩:=dd';⟨q,hq⟩
  exact oW I (by rw [e];exact True.intro) hs he (yW hl hd (rel.put k rv) dd')
 ·subst ey eH
  cases (show u=Value.ref b from ry)
  obtain ⟨z,hd,xs,rel,dd⟩:=zV I.ao e
  have hz:xs.length≤sizeLine:=by rw [←Paired.length rel];exact z
  have hl:(putK ae k v).length≤sizeLine:=by have:=sD ae k v;(first|lia|omega)
  refine wpAny_setItem_heap (hsz:=hz) (tupleKind_room_in1 hu) (iE I.ao eb) dd fun h' dd' hs=>h _ ?_
  obtain ⟨q,es,ep,hq,h2,h3,h4,_,h5⟩:=dd'
  refine oW I (by rw [e];exact True.intro) hs ⟨q,hq⟩ ⟨hl,hd,_,(rel.put k eb rv).keeps fun c ys ec=>?_,q,es,ep,hq,h2,h3,h4,h5⟩
  rw [aK (fY ec e (fun z=>nomatch z))]
  exact ec
end
section
variable {X:Cx} {aa:List (Addr×Obj)} {σ:St} {H:Hp} {s:Shared} {a:Addr} {ae:List (Key×V)} {k:Key} {u:Value} {A:Around} {E:Value→Shared→Prop}
theorem BF {Q:Value→Shared→Prop} (I:Inv X aa σ H s) (e:Rd H a (.dK ae)) (h:∀t s',Inv X aa σ H s'→Q (.int ae.length t) s'):wpAny (model X.prog X.w) A (call (.builtin "len") [.ref a]) Q E s:=by
 obtain ⟨z,hd,vs,rel,dd⟩:=fV I.ao e
 refine call_len_dict hd dd (by rw [←rel.length];rw [sizeLine_eq] at z;(first|lia|omega)) ?_
 rw [←rel.length]
 exact h _ _ (I.tok _)
end
noncomputable def kX (i:Expr):Prop:=∀ov iv,subscripted i false ov iv=operate [ov,iv] (getItem ov iv)
theorem tR {prog:Program} {w:World} {A:Around} {E:Value→Shared→Prop} {s:Shared} {env:Env} {value slice:Expr} {pos:Pos} {T id:String} {Q:Value→Shared→Prop}
  (hl:typeLookup (.type T) "__getitem__" = pure (some (.builtin id))) (hs:kX slice)
  (h:wpAny (model prog w) A (eval value env) (fun o s₁=>wpAny (model prog w) A (eval slice env) (fun i s₂=>s₂.TypeIs o T∧wpAny (model prog w) A (getItem o i) Q E s₂) E s₁) E s) :
  wpAny (model prog w) A (eval (.Subscript value slice pos) env) Q E s:=by
 refine Subscript_ (wpAny_mono h (fun o s₁ h₁=>wpAny_mono h₁ (fun i s₂ h₂=>?_) fun _ _ x=>x) fun _ _ x=>x)
 obtain ⟨hT,h₂⟩:=h₂
 unfold subscriptTail
 refine wpAny_bind ?_
 rw [getitemInPython_of_ne hT.not_modules]
 refine wpAny_bind (wpAny_specialOf hT hl ?_)
 have fin:wpAny (model prog w) A (subscripted slice false o i) (fun r s₃=>wpAny (model prog w) A (letTemporaryGo value o r >>=fun _=>pure r) Q E s₃) E s₂:=by
  rw [hs o i]
  exact wpAny_operating (wpAny_mono h₂ (fun r s₃ h₃=>wpAny_bind (wpAny_letTemporaryGo (wpAny_pure h₃))) fun _ _ x=>x)
 first
  |exact wpAny_pure (wpAny_bind fin)
  |exact wpAny_bind (wpAny_pure (wpAny_bind fin))
  |exact wpAny_bind fin
theorem HB {X:Cx} {aa:List (Addr×Obj)} {σ:St} {H:Hp} {s:Shared} {a:Addr} {y:V} {o:Option V} (I:Inv X aa σ H s) (g:ie H a y o):s.TypeIs (.ref a) "dict" :=by
 rcases g with ⟨ae,k,e,_,_⟩|⟨ae,k,b,e,_,_,_⟩
 ·obtain ⟨_,_,vs,_,dd⟩:=fV I.ao e
  exact dd.typeIs
 ·obtain ⟨_,_,xs,_,dd⟩:=gQ I.ao e
  exact dd.typeIs
noncomputable def zc (td ty:TE):TE:=fun σ H Q=>td σ H fun x H1=>ty σ H1 fun y H2=>∃a v,x=.ref a∧ie H2 a y (some v)∧Q v H2
section
variable {X:Cx} {o i e value:Expr} {pos pos' tpos:Pos} {td ty tv:TE}
theorem ER (hu:X.A.units+1 < cLine) (ho:PE X o td) (hi:PE X i ty) (hs:kX i):PE X (.Subscript o i pos) (zc td ty):=by
 intro aa s σ H Q I h
 refine tR PySem.F.slot_dict_getitem.lookup hs (aC (ho aa s σ H _ I h) fun u s1 zz0=>?_)
 obtain ⟨x,H1,I1,rx,q1⟩:=zz0
 refine aC (hi aa s1 σ H1 _ I1 q1) fun iv s2 zz1=>?_
 obtain ⟨y,H2,I2,ry,a,v,ex,g,q2⟩:=zz1
 subst ex
 obtain rfl:u=Value.ref a:=rx
 exact ⟨HB I2 g,yX hu I2 g ry fun w' s3 I3 rw'=>⟨v,H2,I3,rw',q2⟩⟩
end
theorem yD {P:Program} {w:World} {H:Hp} (h:Heap) (hb:sysModules < h.objs.size):bS P w H (h.push { cls:=.type "dict",data:=.dict #[] }) h.objs.size (.dK []) :=
 ⟨Nat.zero_le _,beq_eq_false_iff_ne.mpr (Ne.symm (Nat.ne_of_lt hb)),[],.nil,Heap.DictOf.new h⟩
noncomputable def xP:TE:=fun _ H Q=>∀p,H p=none→Q (.ref p) (upd H p (.dK []))
section
variable {X:Cx} {pos:Pos}
theorem FE:PE X (.Dict [] [] pos) xP:=fun aa s σ H Q I h =>
 wpAny_Dict_empty ⟨.ref s.heap.objs.size,_,I.laid (a:=s.heap.objs.size) (o:=.dK []) (t':=s.toks) (fun _ _ q=>Heap.get?_push_of_some _ q) (Nat.le_refl _) (yD s.heap I.big),rfl,h _ (I.ao.fresh (Nat.le_refl _))⟩
end
structure M1 (X:Cx) (o:Expr) (m:Str) (apos:Pos) (e:Expr) (aA:Pos):Prop where
 base:attributeBase o m X.env (eval o X.env)=eval o X.env
 few:((backTo aA (starEach [e] X.env)).all (fun x=>!x.1) && (backToKw aA (keywordEach [] X.env)).all (fun x=>x.1.isSome)
  && decide (([e]:List Expr).length+([]:List Keyword).length+(if ([]:List Keyword).isEmpty then 0 else 1) < 30))=true
 line:(apos.endLine ==aA.line)=true
 trees:backTo aA (starEach [e] X.env)=[(false,eval e X.env)]
structure M2 (X:Cx) (o:Expr) (m:Str) (apos:Pos) (e f:Expr) (aA:Pos):Prop where
 base:attributeBase o m X.env (eval o X.env)=eval o X.env
 few:((backTo aA (starEach [e,f] X.env)).all (fun x=>!x.1) && (backToKw aA (keywordEach [] X.env)).all (fun x=>x.1.isSome)
  && decide (([e,f]:List Expr).length+([]:List Keyword).length+(if ([]:List Keyword).isEmpty then 0 else 1) < 30))=true
 line:(apos.endLine ==aA.line)=true
 trees:backTo aA (starEach [e,f] X.env)=[(false,eval e X.env),(false,eval f X.env)]
noncomputable def wX (H:Hp) (a:Addr):Prop:=(∃ae,Rd H a (.dK ae))∨∃ae,Rd H a (.dT ae)
theorem zb {X:Cx} {aa:List (Addr×Obj)} {σ:St} {H:Hp} {s:Shared} {a:Addr} (I:Inv X aa σ H s) (d:wX H a) :
  s.TypeIs (.ref a) "dict" ∧ (∀b,Value.ref a=.ref b→∃ob,s.heap.get? b=some ob∧ob.dict=none)∧(a ==sysModules)=false:=by
 rcases d with ⟨ae,e⟩|⟨ae,e⟩
 ·obtain ⟨_,hd,vs,_,dd⟩:=fV I.ao e
  refine ⟨dd.typeIs,fun b q=>?_,hd⟩
  cases q
  obtain ⟨ob,_,_,h1,h2,_⟩:=dd
  exact ⟨ob,h1,h2.2.1⟩
 ·obtain ⟨_,hd,xs,_,dd⟩:=gQ I.ao e
  refine ⟨dd.typeIs,fun b q=>?_,hd⟩
  cases q
  obtain ⟨ob,_,_,h1,h2,_⟩:=dd
  exact ⟨ob,h1,h2.2.1⟩
section
variable {X:Cx} {aa:List (Addr×Obj)} {σ:St} {H:Hp} {s:Shared} {a:Addr} {y d:V} {u r:Value} {o:Option V} {A:Around} {E:Value→Shared→Prop}
theorem Ey {Q:Value→Shared→Prop} (hu:A.units+1 < cLine) (I:Inv X aa σ H s) (g:ie H a y o) (ry:RelV y u) (rd:RelV d r) (h:∀w' s',Inv X aa σ H s'→RelV (o.getD d) w'→Q w' s') :
  wpAny (model X.prog X.w) A (call (.builtin "dict.get") [.ref a,u,r]) Q E s:=by
 rcases g with ⟨ae,k,e,ey,l⟩|⟨ae,k,b,e,ey,eb,l⟩
 ·subst ey
  obtain ⟨z,hd,vs,rel,dd⟩:=fV I.ao e
  refine call_meetsIn PySem.F.slot_dict_get dd.typeIs PySem.F.entry_dict_get (PySem.F.args_dict_get_3 _ _ _) (meets_dict_get_default (ck X.prog X.w) a (jg ry) hd r) ⟨_,dd.mapOf,h _ _ (I.tok _) ?_⟩
  rw [l]
  exact (rel.val k).getD rd
 ·subst ey
  cases (show u=Value.ref b from ry)
  obtain ⟨z,hd,xs,rel,dd⟩:=gQ I.ao e
  refine call_meetsIn PySem.F.slot_dict_get dd.typeIs PySem.F.entry_dict_get (PySem.F.args_dict_get_3 _ _ _) (meetsH_dict_get_default (tupleKind (ck X.prog X.w)) a b hd r) ⟨tupleKind_room_in1 hu,k,xs,iE I.ao eb,dd,h _ _ (I.tok _) ?_⟩
  rw [l]
  exact (rel.val k).getD rd
end
noncomputable def En (td ty tx:TE):TE:=fun σ H Q=>td σ H fun x H1=>∃a,x=.ref a∧wX H1 a∧ty σ H1 fun y H2=>tx σ H2 fun z H3=>∃o,ie H3 a y o∧Q (o.getD z) H3
section
variable {X:Cx} {o e f:Expr} {apos aA:Pos} {td ty tx:TE}
theorem Cu (hu:X.A.units+1 < cLine) (ho:PE X o td) (he:PE X e ty) (hf:PE X f tx) (m:M2 X o "get" apos e f aA):PE X (.Call (.Attribute o "get" apos) [e,f] [] aA) (En td ty tx):=by
 intro aa s σ H Q I h
 refine wpAny_Call_method m.base m.few m.line PySem.F.plainAttrs_dict PySem.F.slot_dict_get PySem.F.type_dict_get (aC (ho aa s σ H _ I h) fun u s1 zz0=>?_)
 obtain ⟨x,H1,I1,rx,a,ex,d,q1⟩:=zz0
 subst ex
 obtain rfl:u=Value.ref a:=rx
 obtain ⟨t1,t2,_⟩:=zb I1 d
 refine ⟨t1,t2,?_⟩
 rw [m.trees]
 refine Calls.callWith_builtin rfl (Calls.evalArgs_plain (Calls.spliced_cons (aC (he aa s1 σ H1 _ I1 q1) fun iv s2 ⟨y,H2,I2,ry,q2⟩ =>
  Calls.spliced_cons (aC (hf aa s2 σ H2 _ I2 q2) fun fv s3 ⟨z,H3,I3,rz,ov,g,q3⟩=>Calls.spliced_nil ?_))))
 exact Ey hu I3 g ry rz fun w' s4 I4 rw'=>⟨_,H3,I4,rw',q3⟩
end
section
variable {X:Cx} {aa:List (Addr×Obj)} {σ:St} {H:Hp} {s:Shared} {a:Addr} {ae:List (Key×V)} {A:Around} {E:Value→Shared→Prop}
end
section
variable {X:Cx} {aa:List (Addr×Obj)} {σ:St} {H:Hp} {s:Shared} {a:Addr} {y:V} {u:Value} {A:Around} {E:Value→Shared→Prop}
end
end L2
namespace L2
open PySem PySem.Spec PyProof.Rows
section
variable {X:Cx}
end
section
variable {κ:Type} [DecidableEq κ]
theorem sy:∀{l:List κ} {k:κ},l.Nodup→¬k∈l→(l++[k]).Nodup
 |[],k,_,_=>by simp
 |a::r,k,h,hk=>by
  obtain ⟨h1,h2⟩:=List.nodup_cons.mp h
  show (a::(r++[k])).Nodup
  refine List.nodup_cons.mpr ⟨fun m=>?_,sy h2 fun m=>hk (List.mem_cons.mpr (Or.inr m))⟩
  rcases List.mem_append.mp m with q|q
  ·exact h1 q
  ·exact hk (List.mem_cons.mpr (Or.inl (List.mem_singleton.mp q).symm))
end
end L2
set_option maxHeartbeats 4000000
namespace DL
open PySem PySem.Spec PyProof.Rows L2
noncomputable abbrev St:=L2.St
inductive D where
 |non|bl (b:Bool)|int (i:Int)|str (x:Str)|ref (a:Addr)|ty (n:String)|tup (ds:List D)|rol (ds:List D)
noncomputable def gz (K:PySem.W.Frag) (H:Hp) (a:Addr) (xs:List V):Prop :=
 (∃o,H a=some (.frz o (.lst xs))) ∨
  ∃(o:Obj) (ai:Array Value) (n:Nat),K.lookup a=some o∧o.cls=.type "list" ∧ o.dict=none∧o.data=.seq ai n∧ai.size≤sizeLine∧Vals xs ai.toList
theorem gz.sq {K:PySem.W.Frag} {H:Hp} {a:Addr} {xs:List V} (h:gz K H a xs):bG K H a xs:=by
 rcases h with ⟨o,h⟩|h
 ·exact .inl (.inr ⟨o,h⟩)
 ·exact .inr h
mutual
inductive Is (K:PySem.W.Frag) (H:Hp):V→D→Prop where
 |non:Is K H .non .non
 |bl (b:Bool):Is K H (.bl b) (.bl b)
 |int (i:Int):Is K H (.int i) (.int i)
 |str (x:Str):Is K H (.str x) (.str x)
 |ref (a:Addr):Is K H (.ref a) (.ref a)
 |ty (n:String):Is K H (.ty n) (.ty n)
 |tup {a:Addr} {xs:List V} {ds:List D}:aZ K H a xs→az K H xs ds→Is K H (.ref a) (.tup ds)
 |rol {a:Addr} {xs:List V} {ds:List D}:gz K H a xs→az K H xs ds→Is K H (.ref a) (.rol ds)
inductive az (K:PySem.W.Frag) (H:Hp):List V→List D→Prop where
 |nil:az K H [] []
 |cons {x:V} {d:D} {xs:List V} {ds:List D}:Is K H x d→az K H xs ds→az K H (x::xs) (d::ds)
end
noncomputable def Cq (K:PySem.W.Frag) (H:Hp) (v:V):D→Prop
 |.non=>v=.non
 |.bl b=>v=.bl b
 |.int i=>v=.int i
 |.str x=>v=.str x
 |.ref a=>v=.ref a
 |.ty n=>v=.ty n
 |d=>Is K H v d
theorem Is.inv {K:PySem.W.Frag} {H:Hp} {v:V} {d:D} (h:Is K H v d):Cq K H v d:=by
 cases h<;>first|rfl|(exact .tup ‹_› ‹_›)|(exact .rol ‹_› ‹_›)
structure fG (K:PySem.W.Frag) (H H':Hp):Prop where
 t:∀a xs,aZ K H a xs→aZ K H' a xs
 f:∀a xs,gz K H a xs→gz K H' a xs
structure Ext (K:PySem.W.Frag) (H H':Hp):Prop where
 t:∀a xs,aZ K H a xs→aZ K H' a xs
 z:∀a o u,H a=some (.frz o u)→H' a=some (.frz o u)
theorem Ext.f {K:PySem.W.Frag} {H H':Hp} (e:Ext K H H'):∀a xs,gz K H a xs→gz K H' a xs:=fun a xs h=>by
 rcases h with ⟨o,h⟩|h
 ·exact .inl ⟨o,e.z _ _ _ h⟩
 ·exact .inr h
theorem Ext.e0 {K:PySem.W.Frag} {H H':Hp} (e:Ext K H H'):fG K H H':=⟨e.t,e.f⟩
theorem Ext.refl {K:PySem.W.Frag} (H:Hp):Ext K H H:=⟨fun _ _ h=>h,fun _ _ _ h=>h⟩
theorem Ext.trans {K:PySem.W.Frag} {H H1 H2:Hp} (a:Ext K H H1) (b:Ext K H1 H2):Ext K H H2:=⟨fun c o h=>b.t c o (a.t c o h),fun c o u h=>b.z c o u (a.z c o u h)⟩
section
variable {K:PySem.W.Frag} {H H':Hp}
mutual
theorem Is.mono0 (e:fG K H H'):∀{v:V} {d:D},Is K H v d→Is K H' v d
 |_,_,.non=>.non
 |_,_,.bl b=>.bl b
 |_,_,.int i=>.int i
 |_,_,.str x=>.str x
 |_,_,.ref a=>.ref a
 |_,_,.ty n=>.ty n
 |_,_,.tup h hs=>.tup (e.t _ _ h) (az.mono0 e hs)
 |_,_,.rol h hs=>.rol (e.f _ _ h) (az.mono0 e hs)
theorem az.mono0 (e:fG K H H'):∀{vs:List V} {ds:List D},az K H vs ds→az K H' vs ds
 |_,_,.nil=>.nil
 |_,_,.cons h t=>.cons (Is.mono0 e h) (az.mono0 e t)
end
theorem Is.mono (e:Ext K H H') {v:V} {d:D} (h:Is K H v d):Is K H' v d:=h.mono0 e.e0
theorem az.mono (e:Ext K H H') {vs:List V} {ds:List D} (h:az K H vs ds):az K H' vs ds:=h.mono0 e.e0
theorem az.length:∀{ds:List D} {vs:List V},az K H vs ds→vs.length=ds.length
 |[],_,h=>by cases h;rfl
 |_::_,_,h=>by
  cases h with
  |cons _ t=>exact congrArg (·+1) (az.length t)
theorem az.get:∀{vs:List V} {ds:List D} {i:Nat} {d:D},az K H vs ds→ds[i]?=some d→∃v,vs[i]?=some v∧Is K H v d
 |_,_,_,_,.nil,e=>by simp at e
 |_,_,0,_,.cons h _,e=>by simp at e;subst e;exact ⟨_,rfl,h⟩
 |_,_,i+1,d,.cons _ t,e=>by
  obtain ⟨u,h1,h2⟩:=az.get (i:=i) (d:=d) t (by simpa using e)
  exact ⟨u,by simpa using h1,h2⟩
theorem az.getV:∀{vs:List V} {ds:List D} {i:Nat} {v:V},az K H vs ds→vs[i]?=some v→∃d,ds[i]?=some d∧Is K H v d
 |_,_,_,_,.nil,e=>by simp at e
 |_,_,0,_,.cons h _,e=>by simp at e;subst e;exact ⟨_,rfl,h⟩
 |_,_,i+1,v,.cons _ t,e=>by
  obtain ⟨u,h1,h2⟩:=az.getV (i:=i) (v:=v) t (by simpa using e)
  exact ⟨u,by simpa using h1,h2⟩
theorem az.append {ws:List V} {es:List D}:∀{ds:List D} {vs:List V},az K H vs ds→az K H ws es→az K H (vs++ws) (ds++es)
 |[],_,h,s=>by cases h;exact s
 |_::_,_,h,s=>by
  cases h with
  |cons r t=>exact .cons r (az.append t s)
theorem az.take:∀{vs:List V} {ds:List D} (n:Nat),az K H vs ds→az K H (vs.take n) (ds.take n)
 |_,_,0,_=>.nil
 |_,_,_+1,.nil=>.nil
 |_,_,n+1,.cons r t=>.cons r (az.take n t)
theorem az.drop:∀{vs:List V} {ds:List D} (n:Nat),az K H vs ds→az K H (vs.drop n) (ds.drop n)
 |_,_,0,r=>r
 |_,_,_+1,.nil=>.nil
 |_,_,n+1,.cons _ t=>az.drop n t
theorem az.dropLast {vs:List V} {ds:List D} (h:az K H vs ds):az K H vs.dropLast ds.dropLast:=by
 rw [List.dropLast_eq_take,List.dropLast_eq_take,h.length]
 exact h.take _
end
inductive MO where
 |lst (ds:List D)|dic (ae:List (Key×D))|fdc (ae:List (Key×D))|ins (C dx:Addr) (fs:List (Str×D))|exc (cls:Value)|tdc (hf:List Key→Int) (ae:List (List Key×D))|ndc (hf:D→Int) (ok:D→Prop) (ae:List (D×D))
noncomputable def xS (a:Addr) (hf:List Key→Int) (xs:List (List Key×Addr×Value)):Heap→Prop:=fun h=>∃o es ep,h.get? a=some o∧o.ExactDict∧o.data=.dict es ep∧es.toList=xs.map (fun x=>(⟨hf x.1,.ref x.2.1,x.2.2⟩:DictEntry))
noncomputable abbrev e9 {α:Type} (K:PySem.W.Frag) (H:Hp) (R:α→Addr→Prop):List (α×D)→List (α×Addr×Value)→Prop:=Paired fun (q:α×D) (x:α×Addr×Value)=>q.1=x.1∧R q.1 x.2.1∧∃v,RelV v x.2.2∧Is K H v q.2
noncomputable abbrev DT (K:PySem.W.Frag) (H:Hp):List (List Key×D)→List (List Key×Addr×Value)→Prop:=e9 K H fun k b=>aZ K H b (k.map kV)
noncomputable def gN (a:Addr) (hf:D→Int) (xs:List (D×Addr×Value)):Heap→Prop:=fun h=>∃o es ep,h.get? a=some o∧o.ExactDict∧o.data=.dict es ep∧es.toList=xs.map (fun x=>(⟨hf x.1,.ref x.2.1,x.2.2⟩:DictEntry))
noncomputable abbrev mC (K:PySem.W.Frag) (H:Hp):List (D×D)→List (D×Addr×Value)→Prop:=e9 K H fun k b=>Is K H (.ref b) k
noncomputable abbrev DH:=Addr→Option MO
noncomputable def aj (M:DH) (a:Addr) (o:MO):DH:=fun b=>if b=a then some o else M b
theorem ar {M:DH} {a:Addr} {o:MO}:aj M a o a=some o:=by unfold aj;rw [if_pos rfl]
theorem ay {M:DH} {a b:Addr} {o:MO} (h:b≠a):aj M a o b=M b:=by unfold aj;rw [if_neg h]
theorem gC {M:DH} {a:Addr} {o u:MO}:aj (aj M a o) a u=aj M a u:=by
 funext b;unfold aj;split<;>rfl
noncomputable def ff (K:PySem.W.Frag) (H:Hp) (a:Addr):MO→Prop
 |.lst ds=>∃xs,H a=some (.lst xs)∧az K H xs ds
 |.dic ae=>∃kx,H a=some (.dK kx)∧Paired (fun (p:Key×V) (q:Key×D)=>p.1=q.1∧Is K H p.2 q.2) kx ae
 |.fdc ae=>∃o kx,H a=some (.frz o (.dK kx))∧Paired (fun (p:Key×V) (q:Key×D)=>p.1=q.1∧Is K H p.2 q.2) kx ae
 |.ins C dx fs=>∃fx,H a=some (.ins C dx fx)∧H dx=some (.own a)∧Paired (fun (p:Str×V) (q:Str×D)=>p.1=q.1∧Is K H p.2 q.2) fx fs
 |.exc cls=>∃φ,H a=some (.ext φ)∧∀h,φ h→∃ob,h.get? a=some ob∧ob.cls=cls
 |.tdc hf ae=>∃xs,H a=some (.ext (xS a hf xs))∧DT K H ae xs∧(a ==sysModules)=false∧ae.length≤sizeLine∧(ae.map (·.1)).Nodup
 |.ndc hf ok ae=>∃xs,H a=some (.ext (gN a hf xs))∧mC K H ae xs∧(a ==sysModules)=false∧ae.length≤sizeLine∧(ae.map (·.1)).Nodup∧∀q∈ae,ok q.1
noncomputable def aw (K:PySem.W.Frag) (M:DH) (H:Hp):Prop:=∀a o,M a=some o→ff K H a o
noncomputable def Sub (M M':DH):Prop:=∀a o,M a=some o→M' a=some o
theorem Sub.refl (M:DH):Sub M M:=fun _ _ h=>h
theorem Sub.trans {M M1 M2:DH} (a:Sub M M1) (b:Sub M1 M2):Sub M M2:=fun c o h=>b c o (a c o h)
theorem Sub.new {M:DH} {p:Addr} {o:MO} (h:M p=none):Sub M (aj M p o):=fun a u e=>by
 rw [ay (by intro z;subst z;rw [h] at e;cases e)];exact e
section
variable {K:PySem.W.Frag} {M M':DH} {H H':Hp} {a p:Addr}
theorem aw.sub (h:aw K M H) (s:Sub M' M):aw K M' H:=fun a o e=>h a o (s a o e)
theorem aw.free (h:aw K M H) (e:H p=none):M p=none:=by
 cases q:M p with
 |none=>rfl
 |some o =>
  have z:=h p o q
  cases o with
  |lst ds=>obtain ⟨xs,z,_⟩:=z;rw [e] at z;cases z
  |dic ae=>obtain ⟨xs,z,_⟩:=z;rw [e] at z;cases z
  |fdc ae=>obtain ⟨o,xs,z,_⟩:=z;rw [e] at z;cases z
  |ins C dx fs=>obtain ⟨xs,z,_⟩:=z;rw [e] at z;cases z
  |exc cls=>obtain ⟨φ,z,_⟩:=z;rw [e] at z;cases z
  |tdc hf ae=>obtain ⟨xs,z,_⟩:=z;rw [e] at z;cases z
  |ndc hf ok ae=>obtain ⟨xs,z,_⟩:=z;rw [e] at z;cases z
theorem iH {o:HO} (h:∀xs,¬Rd H p (.tup xs)) (h':∀o u,H p≠some (.frz o u)):Ext K H (upd H p o):=⟨fun a xs s=>by
 rcases s with s|s
 ·refine .inl ?_
  have hne:a≠p:=by intro z;subst z;exact h xs s
  rcases s with s|⟨u,s⟩
  ·exact .inl (by rw [aK hne];exact s)
  ·exact .inr ⟨u,by rw [aK hne];exact s⟩
 ·exact .inr s,fun a u x s=>by rw [aK (by intro z;subst z;exact h' u x s)];exact s⟩
theorem bP {o:HO} (h:H p=none):Ext K H (upd H p o):=iH (fun xs s=>by
 rcases s with s|⟨u,s⟩<;>rw [h] at s<;>cases s) (fun u xs s=>by rw [h] at s;cases s)
noncomputable abbrev LstAt (M:DH) (a:Addr) (ds:List D):Prop:=M a=some (.lst ds)
theorem aw.lst {ds:List D} (h:aw K M H) (e:LstAt M a ds):∃xs,bG K H a xs∧az K H xs ds:=by
 obtain ⟨xs,h1,h2⟩:=h a _ e;exact ⟨xs,.inl (.inl h1),h2⟩
theorem _root_.PySem.Paired.impP {α β:Type} {F G:α→β→Prop} (f:∀a b,F a b→G a b) {l₁:List α} {l₂:List β} (h:Paired F l₁ l₂):Paired G l₁ l₂:=by
 induction h with
 |nil=>exact .nil
 |cons r t ih=>exact .cons (f _ _ r) ih
theorem ff.mono {o:MO} (e:fG K H H') (hk:∀u,H a=some u→H' a=some u) (ho:∀dx,H dx=some (.own a)→H' dx=some (.own a)) (h:ff K H a o):ff K H' a o:=by
 cases o with
 |lst ds=>obtain ⟨xs,h1,h2⟩:=h;exact ⟨xs,hk _ h1,h2.mono0 e⟩
 |dic ae=>obtain ⟨xs,h1,h2⟩:=h;exact ⟨xs,hk _ h1,h2.impP fun p q ⟨r1,r2⟩=>⟨r1,r2.mono0 e⟩⟩
 |fdc ae=>obtain ⟨o,xs,h1,h2⟩:=h;exact ⟨o,xs,hk _ h1,h2.impP fun p q ⟨r1,r2⟩=>⟨r1,r2.mono0 e⟩⟩
 |ins C dx fs=>obtain ⟨xs,h1,h3,h2⟩:=h;exact ⟨xs,hk _ h1,ho _ h3,h2.impP fun p q ⟨r1,r2⟩=>⟨r1,r2.mono0 e⟩⟩
 |exc cls=>obtain ⟨φ,h1,h2⟩:=h;exact ⟨φ,hk _ h1,h2⟩
 |tdc hf ae=>obtain ⟨xs,h1,h2,h3⟩:=h;exact ⟨xs,hk _ h1,h2.impP fun p q ⟨r1,r2,v,r3,r4⟩=>⟨r1,e.t _ _ r2,v,r3,r4.mono0 e⟩,h3⟩
 |ndc hf ok ae=>obtain ⟨xs,h1,h2,h3⟩:=h;exact ⟨xs,hk _ h1,h2.impP fun p q ⟨r1,r2,v,r3,r4⟩=>⟨r1,r2.mono0 e,v,r3,r4.mono0 e⟩,h3⟩
theorem aw.new {o:HO} (h:aw K M H) (e:H p=none):aw K M (upd H p o):=fun a u q =>
 (h a u q).mono (bP e).e0 (fun v z=>by rw [aK (gh z e)];exact z) (fun dx z=>by rw [aK (gh z e)];exact z)
theorem aw.newM {o:HO} {m:MO} (h:aw K M H) (e:H p=none) (hm:ff K (upd H p o) p m):aw K (aj M p m) (upd H p o):=fun a u q=>by
 by_cases z:a=p
 ·subst z;rw [ar] at q;cases q;exact hm
 ·rw [ay z] at q;exact h.new e a u q
theorem aw.newL {es:List D} {ys:List V} (h:aw K M H) (e:H p=none) (i:az K H ys es):aw K (aj M p (.lst es)) (upd H p (.lst ys)):=h.newM e (show ff K _ p (.lst es) from ⟨ys,bV,i.mono (bP e)⟩)
theorem aw.setL {ds es:List D} {xs ys:List V} (h:aw K M H) (e:M p=some (.lst ds)) (hx:H p=some (.lst xs)) (hy:az K H ys es) :
  aw K (aj M p (.lst es)) (upd H p (.lst ys))∧Ext K H (upd H p (.lst ys)):=by
 have ex:Ext K H (upd H p (.lst ys)):=iH (fun zs s=>by rcases s with s|⟨u,s⟩<;>rw [hx] at s<;>cases s) (fun u xs s=>by rw [hx] at s;cases s)
 refine ⟨fun a u q=>?_,ex⟩
 by_cases z:a=p
 ·subst z;rw [ar] at q;cases q;exact ⟨ys,bV,hy.mono ex⟩
 ·rw [ay z] at q
  exact (h a u q).mono ex.e0 (fun v w=>by rw [aK z];exact w) (fun dx w=>by rw [aK (fY w hx (by intro k;cases k))];exact w)
end
noncomputable abbrev aJ:=List (Option D)
noncomputable abbrev KD:=D→DH→Prop
noncomputable abbrev aD:=aJ→DH→KD→Prop
noncomputable abbrev bZ:=aJ→DH→(Bool→DH→Prop)→Prop
noncomputable abbrev br:=aJ→DH→(List D→DH→Prop)→Prop
structure cp where
 nx:aJ→DH→Prop
 rt:KD
 bk:aJ→DH→Prop:=fun _ _=>False
 ct:aJ→DH→Prop:=fun _ _=>False
noncomputable abbrev aF:=cp→aJ→DH→Prop
noncomputable def aO (K:PySem.W.Frag) (τ:aJ) (σ:St) (H:Hp):Prop:=τ.length=σ.length∧∀(i:Nat) d,τ[i]?=some (some d)→∃v,σ[i]?=some (some v)∧Is K H v d
theorem aO.mono0 {K:PySem.W.Frag} {τ:aJ} {σ:St} {H H':Hp} (e:fG K H H') (h:aO K τ σ H):aO K τ σ H' :=
 ⟨h.1,fun i d q=>let ⟨v,h1,h2⟩:=h.2 i d q;⟨v,h1,h2.mono0 e⟩⟩
theorem aO.mono {K:PySem.W.Frag} {τ:aJ} {σ:St} {H H':Hp} (e:Ext K H H') (h:aO K τ σ H):aO K τ σ H':=h.mono0 e.e0
theorem aO.set {K:PySem.W.Frag} {τ:aJ} {σ:St} {H:Hp} {i:Nat} {v:V} {d:D} (h:aO K τ σ H) (r:Is K H v d):aO K (τ.set i (some d)) (σ.set i (some v)) H:=by
 refine ⟨by rw [List.length_set,List.length_set];exact h.1,fun j e q=>?_⟩
 rw [List.getElem?_set] at q
 by_cases hj:i=j
 ·subst hj
  rw [if_pos rfl] at q
  by_cases hl:i < τ.length
  ·rw [if_pos hl] at q
   cases q
   exact ⟨v,by rw [List.getElem?_set,if_pos rfl,if_pos (by rw [←h.1];exact hl)],r⟩
  ·rw [if_neg hl] at q;cases q
 ·rw [if_neg hj] at q
  obtain ⟨u,h1,h2⟩:=h.2 j e q
  exact ⟨u,by rw [List.getElem?_set,if_neg hj];exact h1,h2⟩
noncomputable def cN (K:PySem.W.Frag) (H:Hp) (Q':KD) (Q:VK):Prop:=∀d M1 v H1,aw K M1 H1→Ext K H H1→Is K H1 v d→Q' d M1→Q v H1
noncomputable def low (K:PySem.W.Frag) (te:aD):TE:=fun σ H Q=>∃τ M Q',aO K τ σ H∧aw K M H∧te τ M Q'∧cN K H Q' Q
noncomputable def cm (K:PySem.W.Frag) (te:bZ):TT:=fun σ H Q=>∃τ M Q',aO K τ σ H∧aw K M H∧te τ M Q'∧∀b M1 H1,aw K M1 H1→Ext K H H1→Q' b M1→Q b H1
noncomputable def cg (K:PySem.W.Frag) (te:br):TA:=fun σ H Q=>∃τ M Q',aO K τ σ H∧aw K M H∧te τ M Q'∧∀ds M1 vs H1,aw K M1 H1→Ext K H H1→az K H1 vs ds→Q' ds M1→Q vs H1
structure dR (K:PySem.W.Frag) (H:Hp) (D':cp) (D:Ends):Prop where
 nx:∀τ M σ H1,aO K τ σ H1→aw K M H1→Ext K H H1→D'.nx τ M→D.nx σ H1
 rt:cN K H D'.rt D.rt
 bk:∀τ M σ H1,aO K τ σ H1→aw K M H1→Ext K H H1→D'.bk τ M→D.bk σ H1
 ct:∀τ M σ H1,aO K τ σ H1→aw K M H1→Ext K H H1→D'.ct τ M→D.ct σ H1
noncomputable def aR (K:PySem.W.Frag) (t:aF):TS:=fun D σ H=>∃τ M D',aO K τ σ H∧aw K M H∧t D' τ M∧dR K H D' D
theorem cN.ext {K:PySem.W.Frag} {H H':Hp} {Q':KD} {Q:VK} (h:cN K H Q' Q) (e:Ext K H H'):cN K H' Q' Q:=fun d M1 v H1 a b c q=>h d M1 v H1 a (e.trans b) c q
theorem dR.ext {K:PySem.W.Frag} {H H':Hp} {D':cp} {D:Ends} (h:dR K H D' D) (e:Ext K H H'):dR K H' D' D :=
 ⟨fun τ M σ H1 a b c q=>h.nx τ M σ H1 a b (e.trans c) q,h.rt.ext e,fun τ M σ H1 a b c q=>h.bk τ M σ H1 a b (e.trans c) q,fun τ M σ H1 a b c q=>h.ct τ M σ H1 a b (e.trans c) q⟩
section
variable {X:Cx} {e a b c:Expr} {es:List Expr} {pos:Pos}
theorem _root_.L2.PE.imp {t t':TE} (h:PE X e t) (hi:∀σ H Q,t' σ H Q→t σ H Q):PE X e t':=fun aa s σ H Q I q=>h aa s σ H Q I (hi _ _ _ q)
theorem _root_.L2.PT.imp {t t':TT} (h:PT X e t) (hi:∀σ H Q,t' σ H Q→t σ H Q):PT X e t':=fun aa s σ H Q I q=>h aa s σ H Q I (hi _ _ _ q)
theorem _root_.L2.PW.imp {t t':TT} (h:PW X e t) (hi:∀σ H Q,t' σ H Q→t σ H Q):PW X e t':=fun wh aa s σ H Q I q=>h wh aa s σ H Q I (hi _ _ _ q)
theorem _root_.L2.PA.imp {t t':TA} (h:PA X es t) (hi:∀σ H Q,t' σ H Q→t σ H Q):PA X es t':=fun p aa s σ H Q I q=>h p aa s σ H Q I (hi _ _ _ q)
theorem _root_.L2.PS.imp {st:Stmt} {t t':TS} (h:PS X st t) (hi:∀D σ H,t' D σ H→t D σ H):PS X st t':=fun aa s σ H D I q=>h aa s σ H D I (hi _ _ _ q)
theorem _root_.L2.bx.imp {st:List Stmt} {t t':TS} (h:bx X st t) (hi:∀D σ H,t' D σ H→t D σ H):bx X st t':=fun aa s σ H D I q=>h aa s σ H D I (hi _ _ _ q)
noncomputable def oS:D→(Bool→Prop)→Prop
 |.bl k,Q=>Q k
 |_,_=>False
noncomputable def wV:D→(Int→Prop)→Prop
 |.int i,Q=>Q i
 |_,_=>False
noncomputable def lu:Option (Option D)→(D→Prop)→Prop
 |some (some d),Q=>Q d
 |_,_=>False
noncomputable def fK {α:Type}:Option α→(α→Prop)→Prop
 |some a,Q=>Q a
 |none,_=>False
theorem u9 {o:Option (Option D)} {Q:D→Prop} (h:lu o Q):∃d,o=some (some d)∧Q d:=by
 match o,h with
 |some (some d),h=>exact ⟨d,rfl,h⟩
noncomputable def cQ (i:Nat):aD:=fun τ M Q=>lu τ[i]? fun d=>Q d M
noncomputable def eC (d:D):aD:=fun _ M Q=>Q d M
theorem af (i:Nat) {x:Str} (hN:X.N[i]?=some x:=by rfl) (hv:kE X.env.scope x:=by first|exact Or.inl rfl|exact Or.inr (Or.inl rfl)|exact Or.inr (Or.inr rfl)) (hd:(x ==("__debug__" : Str))=false:=by decide)
  (hcd:(x ==("__classdict__" : Str))=false:=by decide):PE X (.Name x pos) (low X.K (cQ i)) :=
 (yp hN hv hd hcd).imp fun σ H Q ⟨τ,M,Q',hs,hm,h,hq⟩=>by
  obtain ⟨d,hd',h⟩:=u9 h
  obtain ⟨v,h1,h2⟩:=hs.2 i d hd'
  exact ⟨v,h1,hq d M v H hm (Ext.refl H) h2 h⟩
theorem gZ {d:D} {v:V} (hv:∀H,Is X.K H v d) {σ:St} {H:Hp} {Q:VK} (h:low X.K (eC d) σ H Q):tC v σ H Q :=
 let ⟨_,M,_,_,hm,q,hq⟩:=h;hq d M v H hm (Ext.refl H) (hv H) q
theorem ak {i j}:PE X (.Constant (.int i) j pos) (low X.K (eC (.int i))):=pC.imp fun _ _ _ h=>gZ (fun _=>.int i) h
theorem eJ {b j}:PE X (.Constant (.bool b) j pos) (low X.K (eC (.bl b))):=Dn.imp fun _ _ _ h=>gZ (fun _=>.bl b) h
theorem cF {j}:PE X (.Constant .none j pos) (low X.K (eC .non)):=FI.imp fun _ _ _ h=>gZ (fun _=>.non) h
theorem aQ {x j}:PE X (.Constant (.str x) j pos) (low X.K (eC (.str x))):=ye.imp fun _ _ _ h=>gZ (fun _=>.str x) h
theorem sF {x:Str} {i:Int} {u:Value} (hg:Gl X x) (hm:X.mg x=some u) (r:∃t,u=Value.int i t) (hd:(x ==("__debug__" : Str))=false:=by decide):PE X (.Name x pos) (low X.K (eC (.int i))) :=
 (wq (v:=.int i) hg hm r hd).imp fun _ _ _ h=>gZ (fun _=>.int i) h
noncomputable abbrev gr:=D→D→DH→KD→Prop
noncomputable def mL (K:PySem.W.Frag) (r:gr):R2:=fun vx vy H Q=>∃x y M Q',Is K H vx x∧Is K H vy y∧aw K M H∧r x y M Q'∧cN K H Q' Q
noncomputable def cx (X:Cx) (f:Value→Value→Sem Value) (r:gr):Prop:=bU X f (mL X.K r)
noncomputable def dF (r:gr) (ta tb:aD):aD:=fun τ M Q=>ta τ M fun x M1=>tb τ M1 fun y M2=>r x y M2 Q
theorem mW {K:PySem.W.Frag} {r:gr} {ta tb:aD} {σ:St} {H:Hp} {Q:VK} (h:low K (dF r ta tb) σ H Q):kB (mL K r) (low K ta) (low K tb) σ H Q:=by
 obtain ⟨τ,M,Q',hs,hm,h,hq⟩:=h
 refine ⟨τ,M,_,hs,hm,h,fun x M1 vx H1 m1 e1 i1 h1=>?_⟩
 refine ⟨τ,M1,_,hs.mono e1,m1,h1,fun y M2 vy H2 m2 e2 i2 h2=>?_⟩
 exact ⟨x,y,M2,Q',i1.mono e2,i2,m2,h2,hq.ext (e1.trans e2)⟩
variable {ta tb tc:aD}
theorem aL {op:Operator} {r:gr} (ho:cx X (binaryOp op) r) (ha:PE X a (low X.K ta)) (hb:PE X b (low X.K tb)):PE X (.BinOp a op b pos) (low X.K (dF r ta tb)) :=
 (Hu ho ha hb).imp fun _ _ _ h=>mW h
theorem jY {op:CmpOp} {r:gr} (ho:cx X (compareOp op) r) (ha:PE X a (low X.K ta)) (hb:PE X b (low X.K tb)) (hm:behindInMarks op b=false):PE X (.Compare a [op] [b] pos) (low X.K (dF r ta tb)) :=
 (Hi ho ha hb hm).imp fun _ _ _ h=>mW h
noncomputable def rH (t:aD):bZ:=fun τ M Q=>t τ M fun x M'=>oS x fun k=>Q k M'
theorem bg {op:CmpOp} {r:gr} (ho:cx X (compareOp op) r) (ha:PE X a (low X.K ta)) (hb:PE X b (low X.K tb)) (hm:behindInMarks op b=false):PT X (.Compare a [op] [b] pos) (cm X.K (rH (dF r ta tb))):=by
 refine (CK ho ha hb hm).imp fun σ H Q h=>?_
 obtain ⟨τ,M,Q',hs,hm',h,hq⟩:=h
 refine mW ⟨τ,M,_,hs,hm',h,fun d M1 v H1 m1 e1 i1 h1=>?_⟩
 cases i1 with
 |bl k=>exact ⟨k,rfl,hq k M1 H1 m1 e1 h1⟩
 |_=>exact h1.elim
end
end DL
namespace DL
open PySem PySem.Spec PyProof.Rows L2
section
variable {X:Cx} {e a b c:Expr} {es:List Expr} {pos:Pos} {ta tb tc:aD}
theorem cN.here {K:PySem.W.Frag} {H:Hp} {Q':KD} {Q:VK} {M:DH} {d:D} {v:V} (hq:cN K H Q' Q) (hm:aw K M H) (i:Is K H v d) (q:Q' d M):Q v H:=hq d M v H hm (Ext.refl H) i q
noncomputable def dI (g:Int→Int→D):D→D→DH→KD→Prop
 |.int i,.int j,M,Q=>Q (g i j) M
 |_,_,_,_=>False
noncomputable def mn (C:Int→Int→Prop) (g:Int→Int→D):D→D→DH→KD→Prop
 |.int i,.int j,M,Q=>C i j∧Q (g i j) M
 |_,_,_,_=>False
theorem wu {g:Int→Int→D} {x y:D} {M:DH} {Q:KD} (q:dI g x y M Q):∃i j,x=.int i∧y=.int j∧Q (g i j) M:=by
 cases x with
 |int i=>cases y with
  |int j=>exact ⟨i,j,rfl,rfl,q⟩
  |_=>exact q.elim
 |_=>exact q.elim
theorem zf {C:Int→Int→Prop} {g:Int→Int→D} {x y:D} {M:DH} {Q:KD} (q:mn C g x y M Q):∃i j,x=.int i∧y=.int j∧C i j∧Q (g i j) M:=by
 cases x with
 |int i=>cases y with
  |int j=>exact ⟨i,j,rfl,rfl,q⟩
  |_=>exact q.elim
 |_=>exact q.elim
theorem DM {f:Value→Value→Sem Value} {g:Int→Int→Int} (h:bU X f (fL fun i j=>.int (g i j))):cx X f (dI fun i j=>.int (g i j)):=by
 rintro aa s σ H vx vy v u Q I rx ry ⟨x,y,M,Q',ix,iy,hm,q,hq⟩
 obtain ⟨i,j,rfl,rfl,q⟩:=wu q
 exact h aa s σ H _ _ v u Q I rx ry ⟨_,_,ix.inv,iy.inv,hq.here hm (.int _) q⟩
theorem rR {f:Value→Value→Sem Value} {C:Int→Int→Prop} {g:Int→Int→Int} (h:bU X f (rI C fun i j=>.int (g i j))):cx X f (mn C fun i j=>.int (g i j)):=by
 rintro aa s σ H vx vy v u Q I rx ry ⟨x,y,M,Q',ix,iy,hm,q,hq⟩
 obtain ⟨i,j,rfl,rfl,q⟩:=zf q
 exact h aa s σ H _ _ v u Q I rx ry ⟨_,_,ix.inv,iy.inv,q.1,hq.here hm (.int _) q.2⟩
theorem wd {f:Value→Value→Sem Value} {g:Int→Int→Bool} (h:bU X f (fL fun i j=>.bl (g i j))):cx X f (dI fun i j=>.bl (g i j)):=by
 rintro aa s σ H vx vy v u Q I rx ry ⟨x,y,M,Q',ix,iy,hm,q,hq⟩
 obtain ⟨i,j,rfl,rfl,q⟩:=wu q
 exact h aa s σ H _ _ v u Q I rx ry ⟨_,_,ix.inv,iy.inv,hq.here hm (.bl _) q⟩
theorem gH:cx X (binaryOp .Sub) (dI fun i j=>.int (i-j)):=DM AV
theorem d3:cx X (binaryOp .Mod) (mn (fun _ j=>0 < j) fun i j=>.int (i % j)):=rR CH
theorem zA:cx X (binaryOp .Pow) (mn qk fun i j=>.int (i ^ j.toNat)):=rR xJ
theorem Ef:cx X (compareOp .Lt) (dI fun i j=>.bl (decide (i < j))):=wd Ig
theorem jH:cx X (compareOp .Gt) (dI fun i j=>.bl (decide (j < i))):=wd E4
theorem CM {t b:Addr} {ws:List Value} {prog:Program} {w:World} {A:Around} {E:Value→Shared→Prop} {s:Shared} {Q:Value→Shared→Prop} (ht:IsTup s.heap t #[]) (hb:IsTup s.heap b ws.toArray)
  (h:Q (.ref b) s):wpAny (model prog w) A (binaryOp .Add (.ref t) (.ref b)) Q E s:=by
 obtain ⟨⟨cls,dd,data,sl⟩,ho,hc,n,hd⟩:=id ht
 obtain ⟨⟨cls2,dd2,data2,sl2⟩,ho2,hc2,n2,hd2⟩:=id hb
 simp only at hc hd hc2 hd2
 subst hc hd hc2 hd2
 exact concat_meets ⟨_,ho,rfl⟩ ⟨_,ho2,rfl⟩ noFill_tuple_add seq_tuple_add PySem.F.slot_tuple_add PySem.F.entry_tuple_add (PySem.F.args_tuple_add_2 _ _)
   (tuple_addW0 t b #[] ws.toArray n n2 dd dd2 sl sl2 (by simp)) ⟨ho,ho2,h⟩
noncomputable def qV:D→D→DH→KD→Prop
 |.int i,.int j,M,Q=>Q (.int (i+j)) M
 |.str i,.str j,M,Q=>i.length+j.length≤sizeLine∧Q (.str (i++j)) M
 |.tup xs,.tup ys,M,Q=>xs.length+ys.length≤sizeLine∧Q (.tup (xs++ys)) M
 |.ref l,.ref r,M,Q=>∃xs ys,LstAt M l xs∧LstAt M r ys∧xs.length+ys.length≤sizeLine∧∀p,M p=none→Q (.ref p) (aj M p (.lst (xs++ys)))
 |.rol xs,.ref r,M,Q=>∃ys,LstAt M r ys∧xs.length+ys.length≤sizeLine∧∀p,M p=none→Q (.ref p) (aj M p (.lst (xs++ys)))
 |_,_,_,_=>False
theorem add_lists {aa:List (Addr×Obj)} {σ:St} {H:Hp} {s:Shared} {M:DH} {Q':KD} {Q:VK} {l r:Addr} {us ws:List V} {xs ys:List D} (I:Inv X aa σ H s) (hm:aw X.K M H) (hu:bG X.K H l us) (i1:az X.K H us xs) (hw:bG X.K H r ws) (i2:az X.K H ws ys)
  (hz:xs.length+ys.length≤sizeLine) (q:∀p,M p=none→Q' (.ref p) (aj M p (.lst (xs++ys)))) (hq:cN X.K H Q' Q):wpAny (model X.prog X.w) X.A (binaryOp .Add (.ref l) (.ref r)) (EP X aa σ Q) X.xe s:=by
 obtain ⟨ai,r1,p1,_⟩:=I.list hu
 obtain ⟨its2,r2,p2,_⟩:=I.list hw
 obtain ⟨⟨cls,dd,data,sl⟩,ho,hc,n,hd⟩:=p1.isList
 obtain ⟨⟨cls2,dd2,data2,sl2⟩,ho2,hc2,n2,hd2⟩:=p2.isList
 simp only at hc hd hc2 hd2
 subst hc hd hc2 hd2
 have hz':ai.toArray.size+its2.toArray.size≤sizeLine:=by
  rw [List.size_toArray,List.size_toArray,←r1.length,←r2.length,i1.length,i2.length];exact hz
 have ea:ai.toArray++its2.toArray=(ai++its2).toArray:=by simp
 refine concat_meets ⟨_,ho,rfl⟩ ⟨_,ho2,rfl⟩ noFill_list_add seq_list_add PySem.F.slot_list_add PySem.F.entry_list_add (PySem.F.args_list_add_2 _ _) (list_addW l r ai.toArray its2.toArray n n2 dd dd2 sl sl2 hz') ⟨ho,ho2,?_⟩
 rw [ea]
 have hf:H s.heap.objs.size=none:=I.fresh
 refine ⟨.ref _,_,I.lnew (t':=s.toks) (r1.append r2) (by rw [List.length_append,i1.length,i2.length];exact hz),rfl,?_⟩
 exact hq _ _ _ _ (hm.newL hf (i1.append i2)) (bP hf) (.ref _) (q _ (hm.free hf))
theorem bD:cx X (binaryOp .Add) qV:=by
 rintro aa s σ H vx vy v u Q I rx ry ⟨x,y,M,Q',ix,iy,hm,q,hq⟩
 cases ix with
 |int i=>cases iy with
  |int j=>exact DC aa s σ H _ _ v u Q I rx ry ⟨_,_,rfl,rfl,hq.here hm (.int _) q⟩
  |_=>exact q.elim
 |str i=>cases iy with
  |str j=>exact DF aa s σ H _ _ v u Q I rx ry ⟨_,_,rfl,rfl,q.1,hq.here hm (.str _) q.2⟩
  |_=>exact q.elim
 |@tup a xs ds hx hxs=>cases iy with
  |@tup b ys es hy hys =>
   obtain ⟨hz,q⟩:=q
   have hz':xs.length+ys.length≤sizeLine:=by rw [hxs.length,hys.length];exact hz
   by_cases h0:xs=[]
   ·subst h0
    cases hxs
    cases rx
    cases ry
    obtain ⟨ai,r1,p1,_⟩:=I.tuple hx
    obtain ⟨its2,r2,p2,_⟩:=I.tuple hy
    cases r1
    exact CM p1 p2 ⟨.ref b,H,I,rfl,hq.here hm (.tup hy hys) q⟩
   ·refine BJ aa s σ H _ _ v u Q I rx ry ⟨a,b,xs,ys,rfl,rfl,hx,hy,h0,hz',fun z=>?_,fun z p hp=>?_⟩
    ·subst z
     cases hys
     rw [List.append_nil] at q
     exact hq.here hm (.tup hx hxs) q
    ·exact hq _ M _ _ (hm.new hp) (bP hp) (.tup (aZ.of bV) ((hxs.append hys).mono (bP hp))) q
  |_=>exact q.elim
 |ref l=>cases iy with
  |ref r =>
   obtain ⟨xs,ys,hl,hr,hz,q⟩:=q
   cases rx
   cases ry
   obtain ⟨us,hu,i1⟩:=hm.lst hl
   obtain ⟨ws,hw,i2⟩:=hm.lst hr
   exact add_lists I hm hu i1 hw i2 hz q hq
  |_=>exact q.elim
 |rol h hxs=>cases iy with
  |ref r =>
   obtain ⟨ys,hr,hz,q⟩:=q
   cases rx
   cases ry
   obtain ⟨ws,hw,i2⟩:=hm.lst hr
   exact add_lists I hm h.sq hxs hw i2 hz q hq
  |_=>exact q.elim
 |_=>exact q.elim
mutual
noncomputable def D.eq:D→D→Bool
 |.non,.non=>true
 |.bl a,.bl b=>a ==b
 |.bl a,.int j=>(if a then 1 else 0) ==j
 |.int i,.bl b=>i ==(if b then 1 else 0)
 |.int i,.int j=>i ==j
 |.str x,.str y=>x ==y
 |.tup xs,.tup ys=>D.eqs xs ys
 |_,_=>false
noncomputable def D.eqs:List D→List D→Bool
 |[],[]=>true
 |x::xs,y::ys=>D.eq x y && D.eqs xs ys
 |_,_=>false
end
mutual
noncomputable def D.dep:D→Nat
 |.tup ds=>D.deps ds+1
 |_=>0
noncomputable def D.deps:List D→Nat
 |[]=>0
 |d::ds=>max (D.dep d) (D.deps ds)
end
mutual
noncomputable def D.pure:D→Bool
 |.ref _=>false
 |.tup ds=>D.pures ds
 |_=>true
noncomputable def D.pures:List D→Bool
 |[]=>true
 |d::ds=>D.pure d && D.pures ds
end
end
end DL
namespace DL
open PySem PySem.Spec PyProof.Rows L2
@[simp] noncomputable def D.plain:D→Bool
 |.non=>true
 |.bl _=>true
 |.int _=>true
 |.str _=>true
 |_=>false
theorem cj {P:Prop} (h:false=true):P:=nomatch h
mutual
noncomputable def D.eqOk:D→D→Bool
 |.tup xs,.tup ys=>D.eqOks xs ys
 |x,y=>x.plain && y.plain
noncomputable def D.eqOks:List D→List D→Bool
 |x::xs,y::ys=>D.eqOk x y && D.eqOks xs ys
 |_,_=>true
end
noncomputable def pairEq (xs ys:List D) (j:Nat):Bool:=match xs[j]?,ys[j]? with
 |some x,some y=>D.eq x y
 |_,_=>true
theorem ml:∀xs ys:List D,((List.range (min xs.length ys.length)).all (pairEq xs ys) && xs.length ==ys.length)=D.eqs xs ys
 |[],[]=>rfl
 |[],y::ys=>rfl
 |x::xs,[]=>rfl
 |x::xs,y::ys=>by
  have ih:=ml xs ys
  have e1:min (x::xs).length (y::ys).length=min xs.length ys.length+1:=by simp [Nat.succ_min_succ]
  rw [e1,List.range_succ_eq_map,List.all_cons,List.all_map]
  have e2:(pairEq (x::xs) (y::ys)) ∘ Nat.succ=pairEq xs ys:=by funext j;simp [pairEq]
  rw [e2]
  have e3:pairEq (x::xs) (y::ys) 0=D.eq x y:=rfl
  have e4:((x::xs).length ==(y::ys).length)=(xs.length ==ys.length):=by simp
  rw [e3,e4,Bool.and_assoc,ih]
  rfl
theorem oQ:∀{xs ys:List D} {j:Nat} {x y:D},D.eqOks xs ys=true→xs[j]?=some x→ys[j]?=some y→D.eqOk x y=true
 |x::xs,y::ys,0,_,_,h,e1,e2=>by
  simp at e1 e2;subst e1 e2
  simp only [D.eqOks,Bool.and_eq_true] at h;exact h.1
 |x::xs,y::ys,j+1,_,_,h,e1,e2=>by
  simp only [D.eqOks,Bool.and_eq_true] at h
  exact oQ (j:=j) h.2 (by simpa using e1) (by simpa using e2)
 |[],_,_,_,_,_,e1,_=>by simp at e1
 |_::_,[],_,_,_,_,_,e2=>by simp at e2
theorem me:∀{xs:List D} {j:Nat} {x:D},xs[j]?=some x→D.dep x≤D.deps xs
 |x::xs,0,_,e=>by simp at e;subst e;simp only [D.deps];(first|lia|omega)
 |x::xs,j+1,_,e=>by
  have:=me (xs:=xs) (j:=j) (by simpa using e)
  simp only [D.deps];(first|lia|omega)
 |[],_,_,e=>by simp at e
theorem nQ:∀n:Nat,(∀d d':D,D.dep d≤n→D.eqOk d d'=true→d=d'→D.eq d d'=true):=by
 intro n
 induction n with
 |zero =>
  intro d d' h ok e
  subst e
  cases d with
  |tup ds=>simp [D.dep] at h
  |ref a=>exact cj ok
  |ty a=>exact cj ok
  |rol a=>exact cj ok
  |non=>rfl
  |bl b=>exact decide_eq_true rfl
  |int i=>exact decide_eq_true rfl
  |str x=>exact decide_eq_true rfl
 |succ n ih =>
  intro d d' h ok e
  subst e
  cases d with
  |tup ds =>
   simp only [D.dep] at h
   replace ok:D.eqOks ds ds=true:=ok
   show D.eqs ds ds=true
   have:∀xs:List D,D.deps xs≤n→D.eqOks xs xs=true→D.eqs xs xs=true:=by
    intro xs
    induction xs with
    |nil=>intros;rfl
    |cons x xs ihx =>
     intro h1 h2
     simp only [D.deps] at h1
     simp only [D.eqOks,Bool.and_eq_true] at h2
     exact Bool.and_eq_true_iff.mpr ⟨ih x x (by first|lia|omega) h2.1 rfl,ihx (by first|lia|omega) h2.2⟩
   exact this ds (by first|lia|omega) ok
  |ref a=>exact cj ok
  |ty a=>exact cj ok
  |rol a=>exact cj ok
  |non=>rfl
  |bl b=>exact decide_eq_true rfl
  |int i=>exact decide_eq_true rfl
  |str x=>exact decide_eq_true rfl
mutual
theorem Is.inj' {X:Cx} {aa:List (Addr×Obj)} {σ:St} {H:Hp} {s:Shared} (I:Inv X aa σ H s):∀(d:D) {v:V} {d':D},Is X.K H v d→Is X.K H v d'→D.eqOk d d'=true→d=d'
 |.non,_,_,i,j,_=>by cases i;cases j;rfl
 |.bl _,_,_,i,j,_=>by cases i;cases j;rfl
 |.int _,_,_,i,j,_=>by cases i;cases j;rfl
 |.str _,_,_,i,j,_=>by cases i;cases j;rfl
 |.ref _,_,_,_,_,h=>cj h
 |.ty _,_,_,_,_,h=>cj h
 |.rol _,_,_,_,_,h=>cj h
 |.tup ds,_,_,i,j,h=>by
  cases i with
  |tup h1 i1=>cases j with
   |tup h2 i2 =>
    cases I.tuple_inj h1 h2
    exact congrArg D.tup (az.inj' I ds i1 i2 h)
   |ref _=>exact cj h
   |rol _ _=>exact cj h
theorem az.inj' {X:Cx} {aa:List (Addr×Obj)} {σ:St} {H:Hp} {s:Shared} (I:Inv X aa σ H s):∀(ds:List D) {vs:List V} {es:List D},az X.K H vs ds→az X.K H vs es→D.eqOks ds es=true→ds=es
 |[],_,_,i,j,_=>by cases i;cases j;rfl
 |d::ds,_,_,i,j,h=>by
  cases i with
  |cons i1 t1=>cases j with
   |cons i2 t2 =>
    have h:=Bool.and_eq_true_iff.mp h
    rw [Is.inj' I d i1 i2 h.1,az.inj' I ds t1 t2 h.2]
end
theorem Is.inj {X:Cx} {aa:List (Addr×Obj)} {σ:St} {H:Hp} {s:Shared} (I:Inv X aa σ H s) {v:V} {d d':D} (i:Is X.K H v d) (j:Is X.K H v d') (h:D.eqOk d d'=true):d=d':=Is.inj' I d i j h
noncomputable def D.sv:D→V
 |.bl b=>.bl b
 |.int i=>.int i
 |.str x=>.str x
 |_=>.non
theorem Is.sv {K:PySem.W.Frag} {H:Hp} {v:V} {d:D} (i:Is K H v d) (p:d.plain=true):v=d.sv∧dH d.sv=true:=by
 cases i<;>first|exact ⟨rfl,rfl⟩|exact cj p
theorem zO:∀d d':D,d.plain=true→d'.plain=true→eQ d.sv d'.sv=D.eq d d':=by
 intro d d' p p'
 cases d<;>first|exact cj p|(cases d'<;>first|exact cj p'|rfl)
theorem E5 {d d':D} (ok:D.eqOk d d'=true) (nt:D.dep d=0):d.plain=true∧d'.plain=true:=by
 cases d<;>first|exact Bool.and_eq_true_iff.mp ok|exact absurd nt (Nat.succ_ne_zero _)
theorem oU {K:PySem.W.Frag} {H:Hp} {v v':V} {d d':D} (i:Is K H v d) (i':Is K H v' d') (ok:D.eqOk d d'=true) (nt:D.dep d=0):dH v=true∧dH v'=true∧eQ v v'=D.eq d d':=by
 obtain ⟨p,p'⟩:=E5 ok nt
 obtain ⟨e,f⟩:=i.sv p
 obtain ⟨e',f'⟩:=i'.sv p'
 rw [e,e']
 exact ⟨f,f',zO d d' p p'⟩
theorem in1_units (A:Around):A.in1.units=A.units+1:=rfl
theorem tS {X:Cx} {aa:List (Addr×Obj)} {σ:St} {H:Hp} {s:Shared} (I:Inv X aa σ H s):∀(n:Nat) (d d':D) (A:Around) (v v':V) (u u':Value),D.dep d≤n→A.units+n < cLine→D.eqOk d d'=true →
  Is X.K H v d→Is X.K H v' d'→RelV v u→RelV v' u'→SeqAt.EqAt A s u u' (D.eq d d')∧(D.dep d≠0→SeqAt.RcAt A s u u' (D.eq d d')∧SeqAt.RcNeAt A s u u' (!D.eq d d')):=by
 intro n
 induction n with
 |zero =>
  intro d d' A v v' u u' hd hu ok i i' r r'
  obtain ⟨f1,f2,f3⟩:=oU i i' ok (by first|lia|omega)
  rw [←f3]
  exact ⟨qm r r' f1 f2,fun z=>absurd (by first|lia|omega) z⟩
 |succ n ih =>
  intro d d' A v v' u u' hd hu ok i i' r r'
  by_cases h0:D.dep d=0
  ·obtain ⟨f1,f2,f3⟩:=oU i i' ok h0
   rw [←f3]
   exact ⟨qm r r' f1 f2,fun z=>absurd h0 z⟩
  ·cases i with
   |@tup a xs ds hx hxs =>
    cases i' with
    |@tup b ys es hy hys =>
     cases r
     cases r'
     obtain ⟨ai,r1,p1,_⟩:=I.tuple hx
     obtain ⟨its2,r2,p2,_⟩:=I.tuple hy
     have n1:ai.toArray.size=ds.length:=by rw [List.size_toArray,←r1.length,hxs.length]
     have n2:its2.toArray.size=es.length:=by rw [List.size_toArray,←r2.length,hys.length]
     simp only [D.dep] at hd
     have he:∀j (h1:j < ai.toArray.size) (h2:j < its2.toArray.size),SeqAt.EqAt A.in1 s ai.toArray[j] its2.toArray[j] (pairEq ds es j):=by
      intro j h1 h2
      have q1:ds[j]?=some ds[j]:=List.getElem?_eq_getElem (by first|lia|omega)
      have q2:es[j]?=some es[j]:=List.getElem?_eq_getElem (by first|lia|omega)
      obtain ⟨x,ex,ix⟩:=hxs.get q1
      obtain ⟨y,ey,iy⟩:=hys.get q2
      obtain ⟨ux,eu,ru⟩:=r1.get ex
      obtain ⟨uy,ew,rw'⟩:=r2.get ey
      have g1:ai.toArray[j]=ux:=by
       have:ai[j]?=some ai[j]:=List.getElem?_eq_getElem (by simpa using h1)
       rw [this] at eu;simpa using eu
      have g2:its2.toArray[j]=uy:=by
       have:its2[j]?=some its2[j]:=List.getElem?_eq_getElem (by simpa using h2)
       rw [this] at ew;simpa using ew
      rw [g1,g2]
      have pe:pairEq ds es j=D.eq ds[j] es[j]:=by unfold pairEq;rw [q1,q2]
      rw [pe]
      have dg:=me q1
      exact (ih _ _ A.in1 x y ux uy (by first|lia|omega) (by rw [in1_units];(first|lia|omega)) (oQ (show D.eqOks ds es=true from ok) q1 q2) ix iy ru rw').1
     have hrc:SeqAt.RcAt A s (.ref a) (.ref b) (D.eqs ds es):=by
      rw [←ml ds es,←n1,←n2]
      exact SeqAt.RcAt.tuples p1 p2 (by first|lia|omega) he
     have hne:SeqAt.RcNeAt A s (.ref a) (.ref b) (!D.eqs ds es):=by
      rw [←ml ds es,←n1,←n2]
      exact SeqAt.RcNeAt.tuples p1 p2 (by first|lia|omega) he
     refine ⟨?_,fun _=>⟨hrc,hne⟩⟩
     by_cases hab:a=b
     ·subst hab
      have e:=Is.inj I (.tup hx hxs) (.tup hy hys) ok
      rw [nQ _ _ _ (Nat.le_refl _) ok e]
      exact SeqAt.EqAt.same _
     ·exact SeqAt.EqAt.of_refs hab hrc
    |_=>exact cj ok
   |_=>exact absurd rfl h0
section
variable {X:Cx}
noncomputable def xk:D→D→DH→KD→Prop
 |.ref l,.ref r,M,Q=>∃xs ys,LstAt M l xs∧LstAt M r ys∧(xs=[]∨ys=[])∧Q (.bl (xs.isEmpty && ys.isEmpty)) M
 |.tup xs,.tup ys,M,Q=>D.eqOks xs ys=true∧D.deps xs≤150∧Q (.bl (D.eqs xs ys)) M
 |.int i,.int j,M,Q=>Q (.bl (decide (i=j))) M
 |.str i,.str j,M,Q=>Q (.bl (decide (i=j))) M
 |.bl i,.bl j,M,Q=>Q (.bl (decide (i=j))) M
 |.non,.non,M,Q=>Q (.bl true) M
 |_,_,_,_=>False
noncomputable def qd:D→D→DH→KD→Prop
 |.ref l,.ref r,M,Q=>∃xs ys,LstAt M l xs∧LstAt M r ys∧(xs=[]∨ys=[])∧Q (.bl (!(xs.isEmpty && ys.isEmpty))) M
 |.tup xs,.tup ys,M,Q=>D.eqOks xs ys=true∧D.deps xs≤150∧Q (.bl (!D.eqs xs ys)) M
 |.int i,.int j,M,Q=>Q (.bl (!decide (i=j))) M
 |.str i,.str j,M,Q=>Q (.bl (!decide (i=j))) M
 |.bl i,.bl j,M,Q=>Q (.bl (!decide (i=j))) M
 |_,_,_,_=>False
theorem qU {i j:Int}:decide (V.int i=V.int j)=decide (i=j):=by by_cases h:i=j<;>simp [h]
theorem vK {i j:Str}:decide (V.str i=V.str j)=decide (i=j):=by by_cases h:i=j<;>simp [h]
theorem vg {i j:Bool}:decide (V.bl i=V.bl j)=decide (i=j):=by by_cases h:i=j<;>simp [h]
theorem wO {xs ys:List D} (h:xs=[]∨ys=[]):(xs.length=ys.length∧xs=[]∧ys=[])∨(xs.length≠ys.length∧(xs.isEmpty && ys.isEmpty)=false):=by
 cases xs with
 |nil=>cases ys with
  |nil=>exact .inl ⟨rfl,rfl,rfl⟩
  |cons y ys=>exact .inr ⟨by simp,rfl⟩
 |cons x xs=>cases ys with
  |nil=>exact .inr ⟨by simp,rfl⟩
  |cons y ys=>rcases h with h|h<;>cases h
theorem cv {k:Nat} (hr:aW k X.A):cx X (compareOp .Eq) xk:=by
 rintro aa s σ H vx vy v u Q I rx ry ⟨x,y,M,Q',ix,iy,hm,q,hq⟩
 have hu:X.A.units+200 < cLine:=by have:=hr.un;(first|lia|omega)
 cases ix with
 |non=>cases iy with
  |non=>exact mD aa s σ H _ _ v u Q I rx ry ⟨rfl,hq.here hm (.bl _) (by have q':Q' (.bl true) M:=q;simpa using q')⟩
  |_=>exact q.elim
 |int i=>cases iy with
  |int j=>exact mD aa s σ H _ _ v u Q I rx ry ⟨rfl,hq.here hm (.bl _) (by rw [qU];exact q)⟩
  |_=>exact q.elim
 |str i=>cases iy with
  |str j=>exact mD aa s σ H _ _ v u Q I rx ry ⟨rfl,hq.here hm (.bl _) (by rw [vK];exact q)⟩
  |_=>exact q.elim
 |bl i=>cases iy with
  |bl j=>exact mD aa s σ H _ _ v u Q I rx ry ⟨rfl,hq.here hm (.bl _) (by rw [vg];exact q)⟩
  |_=>exact q.elim
 |ty n=>exact q.elim
 |rol h hxs=>first|exact q.elim|(cases iy<;>exact q.elim)
 |@tup a xs ds hx hxs=>cases iy with
  |@tup b ys es hy hys =>
   obtain ⟨ok,dp,q⟩:=q
   have z:=(tS I 151 (.tup ds) (.tup es) X.A (.ref a) (.ref b) v u (Nat.succ_le_succ dp) (by first|lia|omega) ok (.tup hx hxs) (.tup hy hys) rx ry).2 (Nat.succ_ne_zero _)
   exact z.1 _ _ _ _ ⟨.bl _,H,I,rfl,hq.here hm (.bl _) q⟩
  |_=>exact q.elim
 |ref l=>cases iy with
  |ref r =>
   obtain ⟨xs,ys,hl,hr',hz,q⟩:=q
   cases rx
   cases ry
   obtain ⟨us,hu1,i1⟩:=hm.lst hl
   obtain ⟨ws,hw,i2⟩:=hm.lst hr'
   obtain ⟨ai,r1,p1,_⟩:=I.list hu1
   obtain ⟨its2,r2,p2,_⟩:=I.list hw
   have n1:ai.toArray.size=xs.length:=by rw [List.size_toArray,←r1.length,i1.length]
   have n2:its2.toArray.size=ys.length:=by rw [List.size_toArray,←r2.length,i2.length]
   rcases wO hz with ⟨he,h1,h2⟩|⟨hn,hb⟩
   ·subst h1 h2
    refine SeqAt.eq_listAt (e:=fun _=>true) p1.isList p2.isList (by rw [n1,n2]) (by first|lia|omega) (fun j h1=>absurd h1 (by rw [n1];simp)) ⟨.bl _,H,I,rfl,hq.here hm (.bl _) ?_⟩
    rw [n1]
    simpa using q
   ·rw [hb] at q
    exact SeqAt.eq_list_lengthsAt p1.isList p2.isList (by rw [n1,n2];simpa using hn) (by first|lia|omega) ⟨.bl _,H,I,rfl,hq.here hm (.bl _) q⟩
  |_=>exact q.elim
theorem gJ {k:Nat} (hr:aW k X.A):cx X (compareOp .NotEq) qd:=by
 rintro aa s σ H vx vy v u Q I rx ry ⟨x,y,M,Q',ix,iy,hm,q,hq⟩
 have hu:X.A.units+200 < cLine:=by have:=hr.un;(first|lia|omega)
 cases ix with
 |non=>exact q.elim
 |int i=>cases iy with
  |int j=>exact nA aa s σ H _ _ v u Q I rx ry ⟨rfl,hq.here hm (.bl _) (by rw [qU];exact q)⟩
  |_=>exact q.elim
 |str i=>cases iy with
  |str j=>exact nA aa s σ H _ _ v u Q I rx ry ⟨rfl,hq.here hm (.bl _) (by rw [vK];exact q)⟩
  |_=>exact q.elim
 |bl i=>cases iy with
  |bl j=>exact nA aa s σ H _ _ v u Q I rx ry ⟨rfl,hq.here hm (.bl _) (by rw [vg];exact q)⟩
  |_=>exact q.elim
 |ty n=>exact q.elim
 |rol h hxs=>first|exact q.elim|(cases iy<;>exact q.elim)
 |@tup a xs ds hx hxs=>cases iy with
  |@tup b ys es hy hys =>
   obtain ⟨ok,dp,q⟩:=q
   have z:=(tS I 151 (.tup ds) (.tup es) X.A (.ref a) (.ref b) v u (Nat.succ_le_succ dp) (by first|lia|omega) ok (.tup hx hxs) (.tup hy hys) rx ry).2 (Nat.succ_ne_zero _)
   exact z.2 _ _ _ _ ⟨.bl _,H,I,rfl,hq.here hm (.bl _) q⟩
  |_=>exact q.elim
 |ref l=>cases iy with
  |ref r =>
   obtain ⟨xs,ys,hl,hr',hz,q⟩:=q
   cases rx
   cases ry
   obtain ⟨us,hu1,i1⟩:=hm.lst hl
   obtain ⟨ws,hw,i2⟩:=hm.lst hr'
   obtain ⟨ai,r1,p1,_⟩:=I.list hu1
   obtain ⟨its2,r2,p2,_⟩:=I.list hw
   have n1:ai.toArray.size=xs.length:=by rw [List.size_toArray,←r1.length,i1.length]
   have n2:its2.toArray.size=ys.length:=by rw [List.size_toArray,←r2.length,i2.length]
   rcases wO hz with ⟨he,h1,h2⟩|⟨hn,hb⟩
   ·subst h1 h2
    refine SeqAt.RcNeAt.lists (e:=fun _=>true) p1.isList p2.isList (by rw [n1,n2]) (by first|lia|omega) (fun j h1=>absurd h1 (by rw [n1];simp)) _ _ _ _ ⟨.bl _,H,I,rfl,hq.here hm (.bl _) ?_⟩
    rw [n1]
    simpa using q
   ·rw [hb] at q
    exact SeqAt.RcNeAt.lists_lengths p1.isList p2.isList (by rw [n1,n2];simpa using hn) (by first|lia|omega) _ _ _ _ ⟨.bl _,H,I,rfl,hq.here hm (.bl _) q⟩
  |_=>exact q.elim
end
end DL
namespace DL
open PySem PySem.Spec PyProof.Rows L2
section
variable {X:Cx} {e a b c:Expr} {es:List Expr} {pos:Pos} {ta tb tc te:aD} {t:br}
noncomputable def fm:br:=fun _ M Q=>Q [] M
noncomputable def de (ta:aD) (tr:br):br:=fun τ M Q=>ta τ M fun x M1=>tr τ M1 fun xs M2=>Q (x::xs) M2
theorem ah:PA X [] (cg X.K fm):=Hr.imp fun σ H Q ⟨τ,M,Q',hs,hm,h,hq⟩=>hq [] M [] H hm (Ext.refl H) .nil h
theorem ag (ha:PE X e (low X.K te)) (hr:PA X es (cg X.K t)) (hs:starEach (e::es) X.env=(false,eval e X.env)::starEach es X.env:=by rfl):PA X (e::es) (cg X.K (de te t)) :=
 (FT ha hr hs).imp fun σ H Q ⟨τ,M,Q',hs,hm,h,hq⟩ =>
  ⟨τ,M,_,hs,hm,h,fun x M1 vx H1 m1 e1 i1 h1=>⟨τ,M1,_,hs.mono e1,m1,h1,fun xs M2 vs H2 m2 e2 i2 h2=>hq (x::xs) M2 (vx::vs) H2 m2 (e1.trans e2) (.cons (i1.mono e2) i2) h2⟩⟩
noncomputable def lN (t:br):aD:=fun τ M Q=>t τ M fun xs M1=>if xs.length≤1000 then Q (.tup xs) M1 else False
noncomputable def sP (t:br):aD:=fun τ M Q=>t τ M fun xs M1=>if xs.length≤1000 then ∀p,M1 p=none→Q (.ref p) (aj M1 p (.lst xs)) else False
theorem cL {n:Nat} (h:n≤1000):n≤sizeLine:=Nat.le_of_lt (cC h)
theorem aM {x1} (h:PA X es (cg X.K t)):PE X (.Tuple es x1 pos) (low X.K (lN t)) :=
 (Ah h).imp fun σ H Q ⟨τ,M,Q',hs,hm,h,hq⟩=>⟨τ,M,_,hs,hm,h,fun xs M1 vs H1 m1 e1 i1 h1=>by
  by_cases hl:xs.length≤1000
  ·rw [if_pos hl] at h1
   refine ⟨by rw [i1.length];exact cL hl,fun p hp=>?_⟩
   exact hq _ M1 _ _ (m1.new hp) (e1.trans (bP hp)) (.tup (aZ.of bV) (i1.mono (bP hp))) h1
  ·rw [if_neg hl] at h1;exact h1.elim⟩
theorem cq (h:PA X es (cg X.K t)):PE X (.List es pos) (low X.K (sP t)) :=
 (EC h).imp fun σ H Q ⟨τ,M,Q',hs,hm,h,hq⟩=>⟨τ,M,_,hs,hm,h,fun xs M1 vs H1 m1 e1 i1 h1=>by
  by_cases hl:xs.length≤1000
  ·rw [if_pos hl] at h1
   refine ⟨by rw [i1.length];exact cL hl,fun p hp=>?_⟩
   exact hq _ _ _ _ (m1.newL hp i1) (e1.trans (bP hp)) (.ref p) (h1 p (m1.free hp))
  ·rw [if_neg hl] at h1;exact h1.elim⟩
noncomputable abbrev RC:=List D→DH→KD→Prop
noncomputable def vq (K:PySem.W.Frag) (r:RC):List V→Hp→VK→Prop:=fun vs H Q=>∃ds M Q',az K H vs ds∧aw K M H∧r ds M Q'∧cN K H Q' Q
noncomputable def fT (X:Cx) (f:Value) (r:RC):Prop:=gy X f (vq X.K r)
noncomputable def qt (r:RC) (t:br):aD:=fun τ M Q=>t τ M fun ds M1=>r ds M1 Q
theorem sS {K:PySem.W.Frag} {r:RC} {t:br} {σ:St} {H:Hp} {Q:VK} (h:low K (qt r t) σ H Q):qi (vq K r) (cg K t) σ H Q:=by
 obtain ⟨τ,M,Q',hs,hm,h,hq⟩:=h
 exact ⟨τ,M,_,hs,hm,h,fun ds M1 vs H1 m1 e1 i1 h1=>⟨ds,M1,Q',i1,m1,h1,hq.ext e1⟩⟩
variable {x:Str} {p:Pos} {id T:String} {r:RC}
theorem cG (hc:fT X (.builtin id) r) (hg:Gl X x) (hm:X.mg x=none) (hv:bootBuiltins x=some (.builtin id)) (ha:PA X (e::es) (cg X.K t)) (hn:x≠ "__name__" :=by decide) (hdb:(x ==("__debug__" : Str))=false:=by decide)
  (he:starEach (e::es) X.env=(false,eval e X.env)::starEach es X.env:=by rfl) (hpl:(backTo pos (starEach es X.env)).any (·.1)=false:=by rfl):PE X (.Call (.Name x p) (e::es) [] pos) (low X.K (qt r t)) :=
 (Ao hc hg hm hv ha hn hdb he hpl).imp fun _ _ _ h=>sS h
theorem dX (hc:fT X (.type T) r) (hg:Gl X x) (hm:X.mg x=none) (hv:bootBuiltins x=some (.type T)) (ha:PA X (e::es) (cg X.K t)) (hn:x≠ "__name__" :=by decide) (hdb:(x ==("__debug__" : Str))=false:=by decide)
  (he:starEach (e::es) X.env=(false,eval e X.env)::starEach es X.env:=by rfl) (hpl:(backTo pos (starEach es X.env)).any (·.1)=false:=by rfl):PE X (.Call (.Name x p) (e::es) [] pos) (low X.K (qt r t)) :=
 (Ho hc hg hm hv ha hn hdb he hpl).imp fun _ _ _ h=>sS h
theorem Fv {n:String} (hg:Gl X x) (hm:X.mg x=none) (hv:bootBuiltins x=some (.type n)) (hn:x≠ "__name__" :=by decide) (hd:(x ==("__debug__" : Str))=false:=by decide):PE X (.Name x pos) (low X.K (eC (.ty n))) :=
 (G6 (v:=.ty n) hg hm hv rfl hn hd).imp fun _ _ _ h=>gZ (fun _=>.ty n) h
theorem cc {K:PySem.W.Frag} {H:Hp} {vs:List V} {d:D} (h:az K H vs [d]):∃v,vs=[v]∧Is K H v d:=by
 cases h with
 |cons i t=>cases t;exact ⟨_,rfl,i⟩
theorem lA {K:PySem.W.Frag} {H:Hp} {vs:List V} {d d':D} (h:az K H vs [d,d']):∃v v',vs=[v,v']∧Is K H v d∧Is K H v' d':=by
 cases h with
 |cons i t=>obtain ⟨v',rfl,i'⟩:=cc t;exact ⟨_,_,rfl,i,i'⟩
noncomputable def FR:List D→DH→KD→Prop
 |[.str z],M,Q=>z.length≤sizeLine∧Q (.int z.length) M
 |[.tup xs],M,Q=>Q (.int xs.length) M
 |[.rol xs],M,Q=>Q (.int xs.length) M
 |[.ref l],M,Q=>∃xs,LstAt M l xs∧Q (.int xs.length) M
 |_,_,_=>False
theorem dn:fT X (.builtin "len") FR:=by
 rintro aa s σ H vs us Q I r ⟨ds,M,Q',iss,hm,q,hq⟩
 match ds,q,iss with
 |[.str z],q,iss =>
  obtain ⟨v,rfl,i⟩:=cc iss
  (first|cases i.inv|cases i)
  exact BK aa s σ H _ us Q I r ⟨z,rfl,q.1,hq.here hm (.int _) q.2⟩
 |[.tup xs],q,iss =>
  obtain ⟨v,rfl,i⟩:=cc iss
  cases i with
  |tup h hs=>exact qB aa s σ H _ us Q I r ⟨_,_,rfl,.inr h,hq.here hm (.int _) (by rw [hs.length];exact q)⟩
 |[.rol xs],q,iss =>
  obtain ⟨v,rfl,i⟩:=cc iss
  cases i with
  |rol h hs=>exact qB aa s σ H _ us Q I r ⟨_,_,rfl,.inl h.sq,hq.here hm (.int _) (by rw [hs.length];exact q)⟩
 |[.ref l],q,iss =>
  obtain ⟨v,rfl,i⟩:=cc iss
  (first|cases i.inv|cases i)
  obtain ⟨xs,hl,q⟩:=q
  obtain ⟨ys,h,hs⟩:=hm.lst hl
  exact qB aa s σ H _ us Q I r ⟨_,_,rfl,.inl h,hq.here hm (.int _) (by rw [hs.length];exact q)⟩
noncomputable def intD:List D→DH→KD→Prop
 |[.int i],M,Q=>Q (.int i) M
 |[.bl k],M,Q=>Q (.int (if k then 1 else 0)) M
 |_,_,_=>False
theorem vA:fT X (.type "int") intD:=by
 rintro aa s σ H vs us Q I r ⟨ds,M,Q',iss,hm,q,hq⟩
 match ds,q,iss with
 |[.int j],q,iss =>
  obtain ⟨v,rfl,i⟩:=cc iss
  (first|cases i.inv|cases i)
  exact uE aa s σ H _ us Q I r (.inl ⟨_,rfl,hq.here hm (.int _) q⟩)
 |[.bl k],q,iss =>
  obtain ⟨v,rfl,i⟩:=cc iss
  (first|cases i.inv|cases i)
  exact uE aa s σ H _ us Q I r (.inr ⟨_,rfl,hq.here hm (.int _) q⟩)
noncomputable def Cg:List D→DH→KD→Prop
 |[.int i,.int j],M,Q=>Q (.int (if j > i then j else i)) M
 |_,_,_=>False
theorem FF (hc:X.calm=true):fT X (.builtin "max") Cg:=by
 rintro aa s σ H vs us Q I r ⟨ds,M,Q',iss,hm,q,hq⟩
 match ds,q,iss with
 |[.int i,.int j],q,iss =>
  obtain ⟨v,v',rfl,h1,h2⟩:=lA iss
  (first|cases h1.inv|cases h1)
  (first|cases h2.inv|cases h2)
  exact AJ hc aa s σ H _ us Q I r ⟨_,_,rfl,hq.here hm (.int _) q⟩
noncomputable def CL:List D→DH→KD→Prop
 |[.tup xs],M,Q=>Q (.tup xs) M
 |[.ref l],M,Q=>∃xs,LstAt M l xs∧Q (.tup xs) M
 |_,_,_=>False
theorem iq:fT X (.type "tuple") CL:=by
 rintro aa s σ H vs us Q I r ⟨ds,M,Q',iss,hm,q,hq⟩
 match ds,q,iss with
 |[.tup xs],q,iss =>
  obtain ⟨v,rfl,i⟩:=cc iss
  cases i with
  |tup h hs=>exact uk aa s σ H _ us Q I r ⟨_,_,rfl,.inr ⟨h,hq.here hm (.tup h hs) q⟩⟩
 |[.ref l],q,iss =>
  obtain ⟨v,rfl,i⟩:=cc iss
  (first|cases i.inv|cases i)
  obtain ⟨xs,hl,q⟩:=q
  obtain ⟨ys,h,hs⟩:=hm.lst hl
  exact uk aa s σ H _ us Q I r ⟨_,_,rfl,.inl ⟨h,fun p hp=>hq _ M _ _ (hm.new hp) (bP hp) (.tup (aZ.of bV) (hs.mono (bP hp))) q⟩⟩
theorem nY {K:PySem.W.Frag} {H:Hp} {xs:List V} {ds:List D} {i:Int} {d:D} (h:az K H xs ds) (e:bA ds i=some d):∃v,bA xs i=some v∧Is K H v d:=by
 unfold bA at e ⊢
 rw [h.length]
 cases q:fI ds.length i with
 |none=>rw [q] at e;cases e
 |some j =>
  rw [q] at e
  exact h.get e
noncomputable def gw:D→D→DH→KD→Prop
 |.tup ds,.int i,M,Q=>fK (bA ds i) fun d=>Q d M
 |.rol ds,.int i,M,Q=>fK (bA ds i) fun d=>Q d M
 |.str z,.int i,M,Q=>z.length≤sizeLine∧∃k,bA z.cps.toList i=some k∧Q (.str ⟨#[k]⟩) M
 |.ref l,.int i,M,Q=>∃ds d,LstAt M l ds∧bA ds i=some d∧Q d M
 |_,_,_,_=>False
noncomputable def Bu (X:Cx) (r:gr):Prop:=j7 X (mL X.K r)
theorem Ci:Bu X gw:=by
 rintro value slice aa s σ H vx vy v u Q I rx ry ⟨x,y,M,Q',ix,iy,hm,q,hq⟩ hs
 cases ix with
 |tup h hxs=>cases iy with
  |int i =>
   rename_i ds
   cases q1:bA ds i with
   |none=>exact (show (fK (bA ds i) fun d=>Q' d M)→False from fun z=>by rw [q1] at z;exact z) q |>.elim
   |some d =>
    replace q:Q' d M:=(show (fK (bA ds i) fun d=>Q' d M)→Q' d M from fun z=>by rw [q1] at z;exact z) q
    obtain ⟨v',e',i'⟩:=nY hxs q1
    exact Eb value slice aa s σ H _ _ v u Q I rx ry ⟨_,_,_,_,rfl,rfl,h,e',hq.here hm i' q⟩ hs
  |_=>exact q.elim
 |rol h hxs=>cases iy with
  |int i =>
   rename_i ds
   cases q1:bA ds i with
   |none=>exact (show (fK (bA ds i) fun d=>Q' d M)→False from fun z=>by rw [q1] at z;exact z) q |>.elim
   |some d =>
    replace q:Q' d M:=(show (fK (bA ds i) fun d=>Q' d M)→Q' d M from fun z=>by rw [q1] at z;exact z) q
    obtain ⟨v',e',i'⟩:=nY hxs q1
    exact sg value slice aa s σ H _ _ v u Q I rx ry ⟨_,_,_,_,rfl,rfl,h.sq,e',hq.here hm i' q⟩ hs
  |_=>exact q.elim
 |str z=>cases iy with
  |int i =>
   obtain ⟨hz,k,hk,q⟩:=q
   exact Bo value slice aa s σ H _ _ v u Q I rx ry ⟨_,_,_,rfl,rfl,hz,hk,hq.here hm (.str _) q⟩ hs
  |_=>exact q.elim
 |ref l=>cases iy with
  |int i =>
   obtain ⟨ds,d,hl,hd,q⟩:=q
   obtain ⟨ys,h,hys⟩:=hm.lst hl
   obtain ⟨v',e',i'⟩:=nY hys hd
   exact sg value slice aa s σ H _ _ v u Q I rx ry ⟨_,_,_,_,rfl,rfl,h,e',hq.here hm i' q⟩ hs
  |_=>exact q.elim
 |_=>first|exact q.elim|(cases iy<;>exact q.elim)
theorem av (ha:PE X a (low X.K ta)) (hb:PE X b (low X.K tb)) (hs:rO b:=by intro _ _;rfl):PE X (.Subscript a b pos) (low X.K (dF gw ta tb)) :=
 (HC (Ci (X:=X)) ha hb hs).imp fun _ _ _ h=>mW h
end
end DL
namespace DL
open PySem PySem.Spec PyProof.Rows L2
section
variable {X:Cx} {e a b c:Expr} {es:List Expr} {pos:Pos} {ta tb tc te:aD} {t:br}
noncomputable abbrev ku:=aJ→DH→(Option Int→DH→Prop)→Prop
noncomputable def lx (K:PySem.W.Frag) (te:ku):TO:=fun σ H Q=>∃τ M Q',aO K τ σ H∧aw K M H∧te τ M Q'∧∀o M1 H1,aw K M1 H1→Ext K H H1→Q' o M1→Q o H1
theorem _root_.L2.PO.imp {oe:Option Expr} {t t':TO} (h:PO X oe t) (hi:∀σ H Q,t' σ H Q→t σ H Q):PO X oe t':=fun aa s σ H Q I q=>h aa s σ H Q I (hi _ _ _ q)
noncomputable def Bs:ku:=fun _ M Q=>Q none M
noncomputable def CY (t:aD):ku:=fun τ M Q=>t τ M fun x M1=>wV x fun i=>Q (some i) M1
theorem jR:PO X none (lx X.K Bs):=AQ.imp fun σ H Q ⟨τ,M,Q',hs,hm,h,hq⟩=>hq none M H hm (Ext.refl H) h
theorem fC (h:PE X e (low X.K te)):PO X (some e) (lx X.K (CY te)):=(Cz h).imp fun σ H Q ⟨τ,M,Q',hs,hm,h,hq⟩ =>
 ⟨τ,M,_,hs,hm,h,fun x M1 v H1 m1 e1 i1 h1=>by
  cases i1 with
  |int i=>exact ⟨i,rfl,hq (some i) M1 H1 m1 e1 h1⟩
  |_=>exact h1.elim⟩
noncomputable def cutD {α:Type} (xs:List α) (lo hi:Option Int):List α:=(xs.drop (HT.aI xs.length 0 lo)).take (HT.aI xs.length xs.length hi-HT.aI xs.length 0 lo)
noncomputable abbrev lQ:=D→Option Int→Option Int→DH→KD→Prop
noncomputable def Az (K:PySem.W.Frag) (r:lQ):V→Option Int→Option Int→Hp→VK→Prop:=fun v lo hi H Q=>∃x M Q',Is K H v x∧aw K M H∧r x lo hi M Q'∧cN K H Q' Q
noncomputable def uD (X:Cx) (r:lQ):Prop:=mK X (Az X.K r)
noncomputable def yZ (r:lQ) (te:aD) (tl th:ku):aD:=fun τ M Q=>te τ M fun x M1=>tl τ M1 fun l M2=>th τ M2 fun u M3=>r x l u M3 Q
theorem gg {r:lQ} {lo hi:Option Expr} {tl th:ku} {p2:Pos} (hr:uD X r) (he:PE X e (low X.K te)) (hl:PO X lo (lx X.K tl)) (hu:PO X hi (lx X.K th)):PE X (.Subscript e (.Slice lo hi none p2) pos) (low X.K (yZ r te tl th)) :=
 (Hz hr he hl hu).imp fun σ H Q ⟨τ,M,Q',hs,hm,h,hq⟩ =>
  ⟨τ,M,_,hs,hm,h,fun x M1 v H1 m1 e1 i1 h1=>⟨τ,M1,_,hs.mono e1,m1,h1,fun l M2 H2 m2 e2 h2=>⟨τ,M2,_,hs.mono (e1.trans e2),m2,h2,fun u M3 H3 m3 e3 h3 =>
   ⟨x,M3,Q',i1.mono (e2.trans e3),m3,h3,hq.ext (e1.trans (e2.trans e3))⟩⟩⟩⟩
theorem yS {prog:Program} {w:World} {A:Around} {E:Value→Shared→Prop} {s:Shared} {t sl:Addr} {items:Array Value} {vl vu:Value} {lo hi:Option Int} {Q:Value→Shared→Prop} (ht:IsTup s.heap t items) (hs:s.heap.IsSliceOf sl vl vu .none) (pl:IsPart vl lo) (pu:IsPart vu hi)
  (hw:HT.aI items.size 0 lo=0∧HT.aI items.size items.size hi=items.size)
  (h:Q (.ref t) s):wpAny (model prog w) A (getItem (.ref t) (.ref sl)) Q E s:=by
 obtain ⟨os,hos,hcs,hds⟩:=id hs
 have hTs:s.TypeIs (.ref sl) "slice" :=⟨os,hos,hcs⟩
 unfold getItem
 try with_reducible refine wpAny_holding ?_
 first|refine wpAny_bind (wpAny_pure ?_)|skip
 refine wpAny_bind (wpAny_sequenceKey ht.typeIs (by decide) ?_)
 refine wpAny_bind (wpAny_callSpecial?_slot (name:=Str.ofString "__getitem__") ht.typeIs PyProof.Rows.slot_tuple_getitem
  (wpAny_call_entry PyProof.Rows.slot_tuple_getitem ht.typeIs entry_tuple_getitem ?_ (args_tuple_getitem _ _)))
 show wpAny _ _ (Builtin.Tuple.tupleItemsOf (.ref t) >>=_) _ _ s
 refine wpAny_bind (tupleItemsOf_ ht ?_)
 refine wpAny_bind (wpAny_typeOf hTs ?_)
 rw [if_pos (by decide)]
 refine wpAny_bind (HT.uF hs pl pu ?_)
 have hyes:(((HT.aI items.size 0 lo:Nat):Int) ==0 && (1:Int) ==1 && (HT.aI items.size items.size hi-HT.aI items.size 0 lo) ==items.size)=true:=by
  rw [hw.1,hw.2];simp
 show wpAny _ _ (if (((HT.aI items.size 0 lo:Nat):Int) ==0 && (1:Int) ==1 && (HT.aI items.size items.size hi-HT.aI items.size 0 lo) ==items.size)=true then _ else _) _ _ s
 rw [if_pos hyes]
 refine wpAny_bind ?_
 have ex:wpAny (model prog w) A.in1 (Builtin.Tuple.tupleIsExact (.ref t)) (fun a s'=>a=true∧s'=s) E s:=by
  unfold Builtin.Tuple.tupleIsExact
  first
   |exact wpAny_bind (wpAny_typeOf ht.typeIs (wpAny_pure ⟨by decide,rfl⟩))
   |exact wpAny_bind (wpAny_typeOf ht.typeIs ⟨by decide,rfl⟩)
 refine wpAny_mono ex (fun a s' zz0=>?_) fun _ _ z=>z
 obtain ⟨ea,es⟩:=zz0
 subst ea es
 rw [if_pos rfl]
 first
  |exact wpAny_bind (wpAny_rule (wpAny_pure ⟨_,rfl,h⟩))
  |exact wpAny_bind (wpAny_rule (wpAny_pure ⟨_,rfl,wpAny_pure h⟩))
  |exact wpAny_bind (wpAny_rule (wpAny_bind (wpAny_pure (wpAny_pure ⟨_,rfl,h⟩))))
  |exact wpAny_bind (wpAny_rule (wpAny_bind (wpAny_pure (wpAny_pure ⟨_,rfl,wpAny_pure h⟩))))
noncomputable def yn:D→Option Int→Option Int→DH→KD→Prop
 |.tup xs,lo,hi,M,Q=>Q (.tup (cutD xs lo hi)) M
 |.ref l,lo,hi,M,Q=>∃xs,LstAt M l xs∧∀p,M p=none→Q (.ref p) (aj M p (.lst (cutD xs lo hi)))
 |.rol xs,lo,hi,M,Q=>∀p,M p=none→Q (.ref p) (aj M p (.lst (cutD xs lo hi)))
 |.str z,lo,hi,M,Q=>z.length≤sizeLine∧Q (.str (Txt.slice z lo hi)) M
 |_,_,_,_,_=>False
theorem az.cut {K:PySem.W.Frag} {H:Hp} {vs:List V} {ds:List D} (h:az K H vs ds) (lo hi:Option Int):az K H (gA vs lo hi) (cutD ds lo hi):=by
 unfold gA cutD
 rw [h.length]
 exact (h.drop _).take _
theorem FX {α:Type} {xs:List α} {lo hi:Option Int} (h:HT.aI xs.length 0 lo=0∧HT.aI xs.length xs.length hi=xs.length):cutD xs lo hi=xs:=by
 unfold cutD
 rw [h.1,h.2]
 simp
theorem fZ:uD X yn:=by
 rintro aa s σ H vx v vl vu lo hi sl Q I rx hs pl pu ⟨x,M,Q',ix,hm,q,hq⟩
 cases ix with
 |@tup a xs ds h hxs =>
  by_cases hw:HT.aI xs.length 0 lo=0∧HT.aI xs.length xs.length hi=xs.length
  ·cases rx
   obtain ⟨ai,r,ht,hz⟩:=I.tuple h
   have hlen:ai.toArray.size=xs.length:=by rw [List.size_toArray];exact r.length.symm
   refine ⟨"tuple",_,PyProof.Rows.slot_tuple_getitem.lookup,ht.typeIs,?_⟩
   refine yS ht hs pl pu (by rw [hlen];exact hw) ⟨.ref a,H,I,rfl,hq.here hm (.tup h hxs) ?_⟩
   have q':Q' (.tup (cutD ds lo hi)) M:=q
   rw [FX (by rw [←hxs.length];exact hw)] at q'
   exact q'
  ·exact xX aa s σ H _ v vl vu lo hi sl Q I rx hs pl pu ⟨a,xs,rfl,h,hw,fun p hp=>hq _ M _ _ (hm.new hp) (bP hp) (.tup (aZ.of bV) ((hxs.cut lo hi).mono (bP hp))) q⟩
 |rol h hys=>exact rA aa s σ H _ v vl vu lo hi sl Q I rx hs pl pu ⟨_,_,rfl,h.sq,fun p hp=>hq _ _ _ _ (hm.newL hp (hys.cut lo hi)) (bP hp) (.ref p) (q p (hm.free hp))⟩
 |ref l =>
  obtain ⟨xs,hl,q⟩:=q
  obtain ⟨ys,h,hys⟩:=hm.lst hl
  exact rA aa s σ H _ v vl vu lo hi sl Q I rx hs pl pu ⟨_,ys,rfl,h,fun p hp=>hq _ _ _ _ (hm.newL hp (hys.cut lo hi)) (bP hp) (.ref p) (q p (hm.free hp))⟩
 |str z =>
  obtain ⟨hz,q⟩:=q
  obtain ⟨t,rfl⟩:=rx
  obtain ⟨os,ho,hc,hd⟩:=hs
  have fin:∀(l u:Option (Int×Tok)),l.map (·.1)=lo→u.map (·.1)=hi→partValue l=vl→partValue u=vu→∃T id,typeLookup (.type T) "__getitem__" = pure (some (.builtin id))∧s.TypeIs (.str z t) T∧wpAny (model X.prog X.w) X.A (getItem (.str z t) (.ref sl)) (EP X aa σ Q) X.xe s:=by
   intro l u el eu e1 e2
   refine ⟨"str",_,F.slot_str_getitem.lookup,typeIs_str _ _ _,wpAny_getItem_str_slice (l:=l) (u:=u) (st:=none) ⟨os,ho,hc,by rw [hd,e1,e2];rfl⟩ rfl ?_⟩
   refine post_val_or_str ⟨Nat.le_trans (Txt.slice_le z _ _) hz,fun t' k=>?_⟩
   refine ⟨.str (Txt.slice z lo hi),H,I.tok k,?_,hq.here hm (.str _) q⟩
   rw [←el,←eu]
   exact ⟨_,rfl⟩
  cases pl with
  |none=>cases pu with
   |none=>exact fin none none rfl rfl rfl rfl
   |int j tj=>exact fin none (some (j,tj)) rfl rfl rfl rfl
  |int i ti=>cases pu with
   |none=>exact fin (some (i,ti)) none rfl rfl rfl rfl
   |int j tj=>exact fin (some (i,ti)) (some (j,tj)) rfl rfl rfl rfl
 |_=>exact q.elim
noncomputable abbrev RM:=D→List D→DH→KD→Prop
noncomputable def xO (K:PySem.W.Frag) (r:RM):V→List V→Hp→VK→Prop:=fun v vs H Q=>∃x ds M Q',Is K H v x∧az K H vs ds∧aw K M H∧r x ds M Q'∧cN K H Q' Q
noncomputable def fH (X:Cx) (id:String) (r:RM):Prop:=pN X id (xO X.K r)
noncomputable def oB (T:String):D→DH→Prop
 |.str _,_=>T= "str"
 |.int _,_=>T= "int"
 |.ref l,M=>T= "list" ∧ ∃xs,LstAt M l xs
 |_,_=>False
noncomputable def DE (T:String) (r:RM) (to:aD):aD:=fun τ M Q=>to τ M fun x M1=>oB T x M1∧r x [] M1 Q
noncomputable def xa (T:String) (r:RM) (to:aD) (t:br):aD:=fun τ M Q=>to τ M fun x M1=>oB T x M1∧t τ M1 fun ds M2=>r x ds M2 Q
theorem qM {K:PySem.W.Frag} {H:Hp} {M:DH} {T:String} {v:V} {x:D} (i:Is K H v x) (hm:aw K M H) (h:oB T x M):lO K T v H:=by
 cases i with
 |str z=>exact h
 |int j=>exact h
 |ref l=>exact .inl ⟨h.1,let ⟨xs,hl⟩:=h.2;let ⟨ys,q,_⟩:=hm.lst hl;⟨ys,q⟩⟩
 |_=>exact h.elim
variable {o:Expr} {to:aD} {name:Str} {apos aA:Pos} {T id:String} {r:RM}
theorem C7 (pa:PlainAttrs T) (slot:Slot T name id) (hty:typeOf (.builtin id)=pure (.type "method_descriptor")) (hm:fH X id r) (ho:PE X o (low X.K to))
  (hbase:attributeBase o name X.env (eval o X.env)=eval o X.env:=by rfl) (hline:(apos.endLine ==aA.line)=true:=by rfl):PE X (.Call (.Attribute o name apos) [] [] aA) (low X.K (DE T r to)) :=
 (G3 pa slot hty hm ho hbase hline).imp fun σ H Q ⟨τ,M,Q',hs,hm,h,hq⟩ =>
  ⟨τ,M,_,hs,hm,h,fun x M1 v H1 m1 e1 i1 h1=>⟨qM i1 m1 h1.1,x,[],M1,Q',i1,.nil,m1,h1.2,hq.ext e1⟩⟩
theorem eM (pa:PlainAttrs T) (slot:Slot T name id) (hty:typeOf (.builtin id)=pure (.type "method_descriptor")) (hm:fH X id r) (ho:PE X o (low X.K to)) (ha:PA X (e::es) (cg X.K t))
  (hbase:attributeBase o name X.env (eval o X.env)=eval o X.env:=by rfl)
  (hfew:((backTo aA (starEach (e::es) X.env)).all (fun x=>!x.1) && (backToKw aA (keywordEach [] X.env)).all (fun x=>x.1.isSome)
   && decide ((e::es).length+([]:List Keyword).length+(if ([]:List Keyword).isEmpty then 0 else 1) < 30))=true:=by rfl)
  (hline:(apos.endLine ==aA.line)=true:=by rfl) (hs:starEach (e::es) X.env=(false,eval e X.env)::starEach es X.env:=by rfl) (hplain:(backTo aA (starEach es X.env)).any (·.1)=false:=by rfl) :
  PE X (.Call (.Attribute o name apos) (e::es) [] aA) (low X.K (xa T r to t)) :=
 (FN pa slot hty hm ho ha hbase hfew hline hs hplain).imp fun σ H Q ⟨τ,M,Q',hs,hm,h,hq⟩ =>
  ⟨τ,M,_,hs,hm,h,fun x M1 v H1 m1 e1 i1 h1=>⟨qM i1 m1 h1.1,τ,M1,_,hs.mono e1,m1,h1.2,fun ds M2 vs H2 m2 e2 i2 h2=>⟨x,ds,M2,Q',i1.mono e2,i2,m2,h2,hq.ext (e1.trans e2)⟩⟩⟩
noncomputable def sk:D→List D→DH→KD→Prop
 |.ref l,[y],M,Q=>∃xs,M l=some (.lst xs)∧xs.length < sizeLine∧Q .non (aj M l (.lst (xs++[y])))
 |_,_,_,_=>False
theorem i5:fH X "list.append" sk:=by
 rintro aa s σ H vx vs v us Q I rx rs ⟨x,ds,M,Q',ix,iss,hm,q,hq⟩
 match x,ds,q,ix,iss with
 |.ref l,[y],q,ix,iss =>
  obtain ⟨xs,hl,hz,q⟩:=q
  cases ix with
  |ref =>
   obtain ⟨vy,rfl,iy⟩:=cc iss
   obtain ⟨ys,h1,h2⟩:=hm l _ hl
   refine si aa s σ H _ _ v us Q I rx rs ⟨l,ys,vy,rfl,rfl,h1,by rw [h2.length];exact hz,?_⟩
   obtain ⟨m1,e1⟩:=hm.setL hl h1 (h2.append (.cons iy .nil))
   exact hq _ _ _ _ m1 e1 .non q
noncomputable def CI:D→List D→DH→KD→Prop
 |.ref l,[],M,Q=>∃xs y,M l=some (.lst (xs++[y]))∧Q y (aj M l (.lst xs))
 |_,_,_,_=>False
theorem Al:fH X "list.pop" CI:=by
 rintro aa s σ H vx vs v us Q I rx rs ⟨x,ds,M,Q',ix,iss,hm,q,hq⟩
 match x,ds,q,ix,iss with
 |.ref l,[],q,ix,iss =>
  obtain ⟨xs,y,hl,q⟩:=q
  cases ix with
  |ref =>
   cases iss
   obtain ⟨ys,h1,h2⟩:=hm l _ hl
   have hlen:=h2.length
   rw [List.length_append,List.length_singleton] at hlen
   obtain ⟨vy,ey,iy⟩:=h2.get (i:=ys.length-1) (d:=y) (by rw [hlen];simp)
   refine Dk aa s σ H _ _ v us Q I rx rs ⟨l,ys,vy,rfl,rfl,h1,ey,?_⟩
   have h3:=h2.dropLast
   rw [List.dropLast_concat] at h3
   obtain ⟨m1,e1⟩:=hm.setL hl h1 h3
   exact hq _ _ _ _ m1 e1 (iy.mono e1) q
noncomputable def Dy:D→DH→(Bool→Prop)→Prop
 |.non,_,Q=>Q false
 |.bl k,_,Q=>Q k
 |.int i,_,Q=>Q (i !=0)
 |.str y,_,Q=>y.length≤sizeLine∧Q ((y.length:Int) !=0)
 |.tup ds,_,Q=>Q (!ds.isEmpty)
 |.rol ds,_,Q=>Q (!ds.isEmpty)
 |.ref l,M,Q=>∃xs,LstAt M l xs∧Q (!xs.isEmpty)
 |.ty _,_,_=>False
noncomputable def yN (te:aD):bZ:=fun τ M Q=>te τ M fun x M1=>Dy x M1 fun k=>Q k M1
theorem az.empty {K:PySem.W.Frag} {H:Hp} {vs:List V} {ds:List D} (h:az K H vs ds):vs.isEmpty=ds.isEmpty:=by cases h<;>rfl
theorem mJ (ha:PE X a (low X.K ta)) (he:∀whole,isTrue a X.env whole=(do let v ←whole;standAt a.pos;holding [v] (truthy v)):=by intro _;rfl):PT X a (cm X.K (yN ta)) :=
 (AX ha he).imp fun σ H Q ⟨τ,M,Q',hs,hm,h,hq⟩=>⟨τ,M,_,hs,hm,h,fun x M1 v H1 m1 e1 i1 h1=>by
  cases i1 with
  |non=>exact ⟨false,rfl,hq _ M1 H1 m1 e1 h1⟩
  |bl k=>exact ⟨k,rfl,hq _ M1 H1 m1 e1 h1⟩
  |int i=>exact ⟨_,rfl,hq _ M1 H1 m1 e1 h1⟩
  |str y=>exact ⟨_,⟨h1.1,rfl⟩,hq _ M1 H1 m1 e1 h1.2⟩
  |ty n=>exact h1.elim
  |tup hx hxs=>exact ⟨_,.inr (.inl ⟨_,hx,rfl⟩),hq _ M1 H1 m1 e1 (by rw [hxs.empty];exact h1)⟩
  |rol hx hxs=>exact ⟨_,.inl ⟨_,hx.sq,rfl⟩,hq _ M1 H1 m1 e1 (by rw [hxs.empty];exact h1)⟩
  |ref l =>
   obtain ⟨xs,hl,q⟩:=h1
   obtain ⟨ys,h2,h3⟩:=m1.lst hl
   exact ⟨_,.inl ⟨_,h2,rfl⟩,hq _ M1 H1 m1 e1 (by rw [h3.empty];exact q)⟩⟩
noncomputable def zM (t u:bZ):bZ:=fun τ M Q=>t τ M fun k M1=>if k=true then u τ M1 Q else Q false M1
noncomputable def Cf (t u:bZ):bZ:=fun τ M Q=>t τ M fun k M1=>if k=true then Q true M1 else u τ M1 Q
noncomputable def Cm (t:bZ):bZ:=fun τ M Q=>t τ M fun k M1=>Q (!k) M1
variable {tA tB:bZ} {rest:List Expr}
theorem Hs (ha:PT X a (cm X.K tA)):PW X (.BoolOp .And [a] pos) (cm X.K tA):=CP ha
theorem lK (ha:PT X a (cm X.K tA)):PW X (.BoolOp .Or [a] pos) (cm X.K tA):=Hk ha
theorem AU (ha:PT X a (cm X.K tA)) (hb:PW X (.BoolOp .And (b::rest) pos) (cm X.K tB)):PW X (.BoolOp .And (a::b::rest) pos) (cm X.K (zM tA tB)) :=
 L2.PW.imp (zF ha hb) fun σ H Q ⟨τ,M,Q',hs,hm,h,hq⟩=>⟨τ,M,_,hs,hm,h,fun k M1 H1 m1 e1 h1=>by
  cases k with
  |true=>rw [if_pos rfl] at h1 ⊢;exact ⟨τ,M1,Q',hs.mono e1,m1,h1,fun k M2 H2 m2 e2 h2=>hq k M2 H2 m2 (e1.trans e2) h2⟩
  |false=>rw [if_neg Bool.false_ne_true] at h1 ⊢;exact hq false M1 H1 m1 e1 h1⟩
theorem lq (ha:PT X a (cm X.K tA)) (hb:PW X (.BoolOp .Or (b::rest) pos) (cm X.K tB)):PW X (.BoolOp .Or (a::b::rest) pos) (cm X.K (Cf tA tB)) :=
 L2.PW.imp (xF ha hb) fun σ H Q ⟨τ,M,Q',hs,hm,h,hq⟩=>⟨τ,M,_,hs,hm,h,fun k M1 H1 m1 e1 h1=>by
  cases k with
  |true=>rw [if_pos rfl] at h1 ⊢;exact hq true M1 H1 m1 e1 h1
  |false=>rw [if_neg Bool.false_ne_true] at h1 ⊢;exact ⟨τ,M1,Q',hs.mono e1,m1,h1,fun k M2 H2 m2 e2 h2=>hq k M2 H2 m2 (e1.trans e2) h2⟩⟩
theorem zL (ha:PT X a (cm X.K tA)):PT X (.UnaryOp .Not a pos) (cm X.K (Cm tA)) :=
 L2.PT.imp (yr ha) fun σ H Q ⟨τ,M,Q',hs,hm,h,hq⟩=>⟨τ,M,_,hs,hm,h,fun k M1 H1 m1 e1 h1=>hq (!k) M1 H1 m1 e1 h1⟩
noncomputable def B9 (ta tb:aD):aD:=fun τ M Q=>ta τ M fun x M1=>oS x fun k=>if k=true then tb τ M1 Q else Q (.bl false) M1
noncomputable def BD (ta:aD):aD:=fun τ M Q=>ta τ M fun x M1=>oS x fun k=>Q (.bl (!k)) M1
theorem tY {op} (h:PE X a (low X.K ta)):PE X (.BoolOp op [a] pos) (low X.K ta):=DW h
theorem we (ha:PE X a (low X.K ta)) (hb:PE X (.BoolOp .And (b::rest) pos) (low X.K tb)):PE X (.BoolOp .And (a::b::rest) pos) (low X.K (B9 ta tb)) :=
 L2.PE.imp (xC ha hb) fun σ H Q ⟨τ,M,Q',hs,hm,h,hq⟩=>⟨τ,M,_,hs,hm,h,fun x M1 v H1 m1 e1 i1 h1=>by
  cases i1 with
  |bl k=>cases k with
   |true=>exact ⟨true,rfl,by rw [if_pos rfl];exact ⟨τ,M1,Q',hs.mono e1,m1,h1,hq.ext e1⟩⟩
   |false=>exact ⟨false,rfl,by rw [if_neg Bool.false_ne_true];exact hq _ M1 _ H1 m1 e1 (.bl false) h1⟩
  |_=>exact h1.elim⟩
theorem Ae (ha:PE X a (low X.K ta)):PE X (.UnaryOp .Not a pos) (low X.K (BD ta)) :=
 L2.PE.imp (EJ ha) fun σ H Q ⟨τ,M,Q',hs,hm,h,hq⟩=>⟨τ,M,_,hs,hm,h,fun x M1 v H1 m1 e1 i1 h1=>by
  cases i1 with
  |bl k=>exact ⟨k,rfl,hq _ M1 _ H1 m1 e1 (.bl _) h1⟩
  |_=>exact h1.elim⟩
end
section
variable {X:Cx} {st:Stmt} {rest:List Stmt} {t u:aF} {e c:Expr} {te:aD} {tc:bZ} {pos:Pos}
noncomputable def rh:aF:=fun D τ M=>D.nx τ M
noncomputable def jt (t u:aF):aF:=fun D τ M=>t { D with nx:=u D } τ M
theorem bF:bx X [] (aR X.K rh):=yP.imp fun D σ H ⟨τ,M,D',hs,hm,h,hd⟩=>hd.nx τ M σ H hs hm (Ext.refl H) h
theorem aq (h1:PS X st (aR X.K t)) (h2:bx X rest (aR X.K u)):bx X (st::rest) (aR X.K (jt t u)) :=
 (AA h1 h2).imp fun D σ H ⟨τ,M,D',hs,hm,h,hd⟩ =>
  ⟨τ,M,{ D' with nx:=u D' },hs,hm,h,⟨fun τ1 M1 σ1 H1 s1 m1 e1 q=>⟨τ1,M1,D',s1,m1,q,hd.ext e1⟩,hd.rt,hd.bk,hd.ct⟩⟩
theorem ax (h1:PS X st (aR X.K t)):bx X [st] (aR X.K t):=EF h1
noncomputable def xf (te:aD):aF:=fun D τ M=>te τ M fun _ M1=>D.nx τ M1
theorem eh (he:PE X e (low X.K te)) (hs:swapsWith e none pos.line X.env=pure false:=by rfl):PS X (.Expr e pos) (aR X.K (xf te)) :=
 (FG he hs).imp fun D σ H ⟨τ,M,D',hs,hm,h,hd⟩=>⟨τ,M,_,hs,hm,h,fun _ M1 _ H1 m1 e1 _ q=>hd.nx τ M1 σ H1 (hs.mono e1) m1 e1 q⟩
noncomputable def uH (te:aD):aF:=fun D τ M=>te τ M D.rt
theorem aG (he:PE X e (low X.K te)):PS X (.Return (some e) pos) (aR X.K (uH te)) :=
 (AK he).imp fun D σ H ⟨τ,M,D',hs,hm,h,hd⟩=>⟨τ,M,_,hs,hm,h,hd.rt⟩
noncomputable def uP (c:bZ) (t u:aF):aF:=fun D τ M=>c τ M fun k M1=>if k=true then t D τ M1 else u D τ M1
theorem bz {a b:List Stmt} (hc:PT X c (cm X.K tc)) (ha:bx X a (aR X.K t)) (hb:bx X b (aR X.K u)):PS X (.If c a b pos) (aR X.K (uP tc t u)) :=
 (Cp hc ha hb).imp fun D σ H ⟨τ,M,D',hs,hm,h,hd⟩=>⟨τ,M,_,hs,hm,h,fun k M1 H1 m1 e1 q=>by
  cases k with
  |true=>rw [if_pos rfl] at q ⊢;exact ⟨τ,M1,D',hs.mono e1,m1,q,hd.ext e1⟩
  |false=>rw [if_neg Bool.false_ne_true] at q ⊢;exact ⟨τ,M1,D',hs.mono e1,m1,q,hd.ext e1⟩⟩
noncomputable abbrev aV:=D→aJ→DH→(aJ→DH→Prop)→Prop
noncomputable abbrev jU:=List D→aJ→DH→(aJ→DH→Prop)→Prop
noncomputable def lowG (K:PySem.W.Frag) (g:aV):TG:=fun v σ H Q=>∃d τ M Q',Is K H v d∧aO K τ σ H∧aw K M H∧g d τ M Q'∧∀τ1 M1 σ1 H1,aO K τ1 σ1 H1→aw K M1 H1→Ext K H H1→Q' τ1 M1→Q σ1 H1
noncomputable def mf (K:PySem.W.Frag) (g:jU):fQ:=fun vs σ H Q=>∃ds τ M Q',az K H vs ds∧aO K τ σ H∧aw K M H∧g ds τ M Q'∧∀τ1 M1 σ1 H1,aO K τ1 σ1 H1→aw K M1 H1→Ext K H H1→Q' τ1 M1→Q σ1 H1
theorem _root_.L2.PG.imp {tg:Expr} {t t':TG} (h:PG X tg t) (hi:∀v σ H Q,t' v σ H Q→t v σ H Q):PG X tg t':=fun aa s σ H v u Q I r q=>h aa s σ H v u Q I r (hi _ _ _ _ q)
theorem _root_.L2.er.imp {tg:List Expr} {t t':fQ} (h:er X tg t) (hi:∀v σ H Q,t' v σ H Q→t v σ H Q):er X tg t':=fun aa s σ H v u Q I r q=>h aa s σ H v u Q I r (hi _ _ _ _ q)
noncomputable def hName (i:Nat):aV:=fun d τ M Q=>Q (τ.set i (some d)) M
theorem bE {i:Nat} {x:Str} (hN:X.N.Nodup) (hi:X.N[i]?=some x:=by rfl) (hx:Loc X.env.scope x:=by first|exact Or.inl rfl|exact Or.inr rfl) (hf:X.fn x=true∨X.env.scope.names.lookup x=some .local:=by first|exact .inl rfl|exact .inr rfl|assumption):PG X (.Name x pos) (lowG X.K (hName i)) :=
 (Er hN hi hx hf).imp fun v σ H Q ⟨d,τ,M,Q',i,hs,hm,h,hq⟩=>hq _ M _ H (hs.set i) hm (Ext.refl H) h
noncomputable def lJ:List D→aJ→DH→(aJ→DH→Prop)→Prop
 |[],τ,M,Q=>Q τ M
 |_::_,_,_,_=>False
noncomputable def gj (g:aV) (gs:jU):List D→aJ→DH→(aJ→DH→Prop)→Prop
 |d::r,τ,M,Q=>g d τ M fun τ1 M1=>gs r τ1 M1 Q
 |[],_,_,_=>False
theorem kF:er X [] (mf X.K lJ):=xH.imp fun v σ H Q ⟨ds,τ,M,Q',iss,hs,hm,h,hq⟩=>by
 cases iss with
 |nil=>exact ⟨rfl,hq τ M σ H hs hm (Ext.refl H) h⟩
 |cons _ _=>exact h.elim
theorem eN {es:List Expr} {g:aV} {gs:jU} (h1:PG X e (lowG X.K g)) (h2:er X es (mf X.K gs))
  (hs:(assignEach (e::es) X.env).map (·.2)=assign e X.env::(assignEach es X.env).map (·.2):=by rfl):er X (e::es) (mf X.K (gj g gs)) :=
 (Fy h1 h2 hs).imp fun v σ H Q ⟨ds,τ,M,Q',iss,hs,hm,h,hq⟩=>by
  cases iss with
  |nil=>exact h.elim
  |cons i t=>exact ⟨_,_,rfl,_,τ,M,_,i,hs,hm,h,fun τ1 M1 σ1 H1 s1 m1 e1 q=>⟨_,τ1,M1,Q',t.mono e1,s1,m1,q,fun τ2 M2 σ2 H2 s2 m2 e2 q2=>hq τ2 M2 σ2 H2 s2 m2 (e1.trans e2) q2⟩⟩
noncomputable def wC (gs:jU):D→aJ→DH→(aJ→DH→Prop)→Prop
 |.tup ds,τ,M,Q=>gs ds τ M Q
 |_,_,_,_=>False
theorem j5 {es:List Expr} {k n:Nat} {gs:jU} (hc:X.calm=true) (h:er X es (mf X.K gs)) (hln:∀ds τ M Q,gs ds τ M Q→ds.length=n)
  (hn:(assignEach es X.env).length=n:=by rfl) (hst:(assignEach es X.env).findIdx? (·.1)=none:=by rfl):PG X (.Tuple es k pos) (lowG X.K (wC gs)) :=
 (zK hc h hn hst).imp fun v σ H Q ⟨d,τ,M,Q',i,hs,hm,h,hq⟩=>by
  cases i with
  |tup hx hxs=>exact ⟨_,_,rfl,hx,by rw [hxs.length];exact hln _ _ _ _ h,_,τ,M,Q',hxs,hs,hm,h,hq⟩
  |_=>exact h.elim
noncomputable def eO (te:aD) (g:aV):aF:=fun D τ M=>te τ M fun x M1=>g x τ M1 D.nx
theorem ES {K:PySem.W.Frag} {g:aV} {D:Ends} {σ:St} {H:Hp} (h:aR K (eO te g) D σ H):nq (low K te) (lowG K g) D σ H:=by
 obtain ⟨τ,M,D',hs,hm,h,hd⟩:=h
 exact ⟨τ,M,_,hs,hm,h,fun x M1 v H1 m1 e1 i1 q=>⟨x,τ,M1,_,i1,hs.mono e1,m1,q,fun τ2 M2 σ2 H2 s2 m2 e2 q2=>hd.nx τ2 M2 σ2 H2 s2 m2 (e1.trans e2) q2⟩⟩
theorem dq {tg:Expr} {g:aV} (he:PE X e (low X.K te)) (hg:PG X tg (lowG X.K g)) (hs:swapsWithSole [tg] e pos.line X.env=pure false:=by rfl) (hw:swappedStores [tg] e X.env=pure none:=by rfl)
  (h1:(assignEach [tg] X.env).map (·.2)=[assign tg X.env]:=by rfl):PS X (.Assign [tg] e pos) (aR X.K (eO te g)) :=
 (De he hg hs hw h1).imp fun _ _ _ h=>ES h
theorem aE {i:Nat} {x:Str} {pos':Pos} (hN:X.N.Nodup) (he:PE X e (low X.K te)) (hi:X.N[i]?=some x:=by rfl) (hx:Loc X.env.scope x:=by first|exact Or.inl rfl|exact Or.inr rfl) (hs:swapsWith e (some (.Name x pos')) pos.line X.env=pure false:=by rfl) (hf:X.fn x=true∨X.env.scope.names.lookup x=some .local:=by first|exact .inl rfl|exact .inr rfl|assumption) :
  PS X (.Assign [.Name x pos'] e pos) (aR X.K (eO te (hName i))) :=
 (BI hN hi hx he hs hf).imp fun D σ H ⟨τ,M,D',hs,hm,h,hd⟩=>⟨τ,M,_,hs,hm,h,fun x M1 v H1 m1 e1 i1 q=>hd.nx _ M1 _ H1 ((hs.mono e1).set i1) m1 e1 q⟩
noncomputable def ui:D→D→DH→KD→Prop
 |.int i,.int j,M,Q=>Q (.int (i+j)) M
 |.str i,.str j,M,Q=>i.length+j.length≤sizeLine∧Q (.str (i++j)) M
 |_,_,_,_=>False
theorem AI:uN X .Add (mL X.K ui):=by
 rintro aa s σ H vx vy v u Q I rx ry ⟨x,y,M,Q',ix,iy,hm,q,hq⟩
 cases ix with
 |int i=>cases iy with
  |int j=>exact HK aa s σ H _ _ v u Q I rx ry ⟨_,_,rfl,rfl,hq.here hm (.int _) q⟩
  |_=>exact q.elim
 |str i=>cases iy with
  |str j=>exact C4 aa s σ H _ _ v u Q I rx ry ⟨_,_,rfl,rfl,q.1,hq.here hm (.str _) q.2⟩
  |_=>exact q.elim
 |_=>first|exact q.elim|(cases iy<;>exact q.elim)
noncomputable def C8 (i:Nat) (te:aD):aF:=fun E τ M=>lu τ[i]? fun x=>te τ M fun y M1=>ui x y M1 fun z M2=>E.nx (τ.set i (some z)) M2
theorem Bt {i:Nat} {x:Str} {pos':Pos} (hN:X.N.Nodup) (he:PE X e (low X.K te)) (hi:X.N[i]?=some x:=by rfl) (hx:Loc X.env.scope x:=by first|exact Or.inl rfl|exact Or.inr rfl) (hf:X.fn x=true∨X.env.scope.names.lookup x=some .local:=by first|exact .inl rfl|exact .inr rfl|assumption) :
  PS X (.AugAssign (.Name x pos') .Add e pos) (aR X.K (C8 i te)) :=
 (zE hN hi hx he AI hf).imp fun D σ H ⟨τ,M,D',hs,hm,h,hd⟩=>by
  obtain ⟨d,hd',h⟩:=u9 h
  ·obtain ⟨v,h1,h2⟩:=hs.2 _ d hd'
   exact ⟨v,h1,τ,M,_,hs,hm,h,fun y M1 vy H1 m1 e1 i1 q=>⟨d,y,M1,_,h2.mono e1,i1,m1,q,fun z M2 vz H2 m2 e2 i2 q2=>hd.nx _ M2 _ H2 ((hs.mono (e1.trans e2)).set i2) m2 (e1.trans e2) q2⟩⟩
end
end DL
namespace DL
open PySem PySem.Spec PyProof.Rows L2
section
variable {X:Cx} {e c tg:Expr} {te:aD} {tc:bZ} {tb:aF} {g:aV} {pos:Pos}
noncomputable def C3 (c:bZ) (tb:aF):aF:=fun D τ M=>∃W:Nat→aJ→DH→Prop,(∃m,W m τ M)∧∀m τ M,W m τ M →
 c τ M fun k M1=>if k=true then tb { D with nx:=fun τ' M'=>∃m',m' < m∧W m' τ' M',ct:=fun τ' M'=>∃m',m' < m∧W m' τ' M',bk:=D.nx } τ M1 else D.nx τ M1
theorem nP {body:List Stmt} (hp:PassesOwn (model X.prog X.w) X.A X.env X.xe) (hc:PT X c (cm X.K tc)) (hb:bx X body (aR X.K tb)):PS X (.While c body [] pos) (aR X.K (C3 tc tb)) :=
 (CT hp hc hb).imp fun D σ H ⟨τ,M,D',hs,hm,⟨W,⟨m0,w0⟩,turn⟩,hd⟩=>by
  refine ⟨fun m σ1 H1=>∃τ1 M1,aO X.K τ1 σ1 H1∧aw X.K M1 H1∧Ext X.K H H1∧W m τ1 M1,⟨m0,τ,M,hs,hm,Ext.refl H,w0⟩,?_⟩
  rintro m σ1 H1 ⟨τ1,M1,s1,m1,e1,w1⟩
  refine ⟨τ1,M1,_,s1,m1,turn m τ1 M1 w1,fun k M2 H2 m2 e2 q2=>?_⟩
  cases k with
  |true =>
   rw [if_pos rfl] at q2 ⊢
   refine ⟨_,fun σ3 H3 h3=>h3,τ1,M2,_,s1.mono e2,m2,q2,⟨?_,hd.rt.ext (e1.trans e2),?_,?_⟩⟩
   ·rintro τ3 M3 σ3 H3 s3 m3 e3 ⟨m',hm',w3⟩
    exact ⟨m',hm',τ3,M3,s3,m3,e1.trans (e2.trans e3),w3⟩
   ·intro τ3 M3 σ3 H3 s3 m3 e3 q3
    exact hd.nx τ3 M3 σ3 H3 s3 m3 (e1.trans (e2.trans e3)) q3
   ·rintro τ3 M3 σ3 H3 s3 m3 e3 ⟨m',hm',w3⟩
    exact ⟨m',hm',τ3,M3,s3,m3,e1.trans (e2.trans e3),w3⟩
  |false =>
   rw [if_neg Bool.false_ne_true] at q2 ⊢
   exact hd.nx τ1 M2 σ1 H2 (s1.mono e2) m2 (e1.trans e2) q2
theorem wK {prog:Program} {w:World} {A:Around} {I:Addr} {fp wr:List Addr} {n:Nat} {P P':Nat→Value→Prop} {St:Nat→Heap→Prop} (W:Walks prog w A I fp wr n P St) (h:∀i v,P i v→P' i v):Walks prog w A I fp wr n P' St :=
 ⟨W.sub,W.frame,fun i s Q E hi st hQ=>W.item i s Q E hi st fun v h' tk hp=>hQ v h' tk (h i v hp),W.done,W.self⟩
noncomputable def pA (n:Nat) (f:Nat→V):It:=⟨fun i _=>i < n,fun i H x H'=>H'=H∧x=f i,fun i _=>i=n⟩
theorem vR {P:Program} {w:World} {K:PySem.W.Frag} {tg:Expr} (it:Addr) (n:Nat) (f:Nat→V) (St:Nat→Heap→Prop) (W:∀A:Around,A.handled=none→Walks P w A it [it] [it] n (fun i v=>RelV (f i) v) St)
  (hobj:∀i h,St i h→∃(o:Obj) (ty:String) (vs:Array Value),h.get? it=some o∧o.cls=.type ty∧o.data=.fields vs∧["enumerate", "zip", "dict_itemiterator", "dict_reverseitemiterator", "odict_iterator", "itertools.zip_longest", "itertools.pairwise"].contains ty=false)
  (self:∀(A:Around) (i:Nat) (s:Shared) (Q:Value→Shared→Prop) (E:Value→Shared→Prop),St i s.heap→Q (.ref it) s→wpAny (model P w) A (pyIter (.ref it)) Q E s) :
  Turn P w K tg (pA n f) [it] it St where
 mem:=by simp
 obj:=fun i h st b hb=>by
  have e:b=it:=by simpa using hb
  subst e
  obtain ⟨o,ty,vs,h1,h2,h3,_⟩:=hobj i h st
  exact ⟨o,h1,fun v z=>by rw [h3] at z;cases z⟩
 keep:=fun i h h' st k=>(W { depth:=0,units:=0,handled:=none,frames:=none } rfl).frame i h h' st k
 item:=by
  intro X hP hw hK hc i aa s σ H E I hf st hg
  subst hP hw hK
  obtain ⟨f0,f1,f2,f3,f4,f5⟩:=hf it (by simp)
  refine (W X.A (I.ok.hd hc)).item i s _ _ hg st fun v h' tk hv st' kk=>?_
  have I1:Inv X aa σ H { s with heap:=h',toks:=tk }:=I.turned (fun b o hb e=>kk b o (by simpa using hb) e) f0 f1 f3 f4 f5
  obtain ⟨o,ty,vs,h1,h2,h3,h4⟩:=hobj _ _ st'
  exact ⟨_,rfl,iG (s:={ s with heap:=h',toks:=tk }) (n:=ty) h1 h2 h3 h4 ⟨f i,H,I1,hv,⟨rfl,rfl⟩,st',fun b hb=>(hf b hb).1⟩⟩
 done:=by
  intro X hP hw hK hc i aa s σ H E I hf st hg
  subst hP hw hK
  obtain ⟨f0,f1,f2,f3,f4,f5⟩:=hf it (by simp)
  have e:i=n:=hg
  subst e
  exact (W X.A (I.ok.hd hc)).done s _ _ st fun h' tk kk=>⟨rfl,I.turned (fun b o hb e=>kk b o (by simpa using hb) e) f0 f1 f3 f4 f5⟩
 self:=self
noncomputable def kA (z:Str) (i:Nat):V:=.str ⟨#[z.cps.getD i 0]⟩
noncomputable def An (K:PySem.W.Frag) (tl:TE):TI:=fun σ H R=>tl σ H fun x H1=>(∃a,x=.ref a∧(((∃xs,bG K H1 a xs)∧R (oK K a) H1)∨((∃xs,aZ K H1 a xs)∧R (nN K a) H1)))∨∃z,x=.str z∧R (pA z.cps.size (kA z)) H1
theorem pG {l:Expr} {tl:TE} (hl:PE X l tl):PI X tg l (An X.K tl):=by
 intro aa s σ H R I h
 refine aC (hl aa s σ H _ I h) fun v s1 zz0=>?_
 obtain ⟨x,H1,I1,r1,q1⟩:=zz0
 have fr:∀b∈[s1.heap.objs.size],eG X aa H1 b:=fun b hb=>by
  have e:b=s1.heap.objs.size:=by simpa using hb
  subst e
  exact I1.fpOk (Nat.le_refl _) (I1.ao.fresh (Nat.le_refl _))
 rcases q1 with ⟨a,e,q1⟩|⟨z,e,q⟩
 ·subst e
  cases r1
  rcases q1 with ⟨⟨xs,hq⟩,q⟩|⟨⟨xs,hq⟩,q⟩
  ·obtain ⟨ai,rv,p,hz⟩:=I1.list hq
   refine wpAny_pyIter_list p.isList ?_
   exact ⟨s1.heap.objs.size,[s1.heap.objs.size],_,_,H1,rfl,I1.kept (t':=s1.toks) fun b o e=>Heap.get?_push_of_some _ e,GQ a _,⟨_,Heap.get?_push_size _ rfl,rfl,rfl⟩,fr,q⟩
  ·obtain ⟨ai,rv,p,hz⟩:=I1.tuple hq
   refine wpAny_pyIter_tuple (show s1.heap.IsTuple a ai.toArray from p) ?_
   exact ⟨s1.heap.objs.size,[s1.heap.objs.size],_,_,H1,rfl,I1.kept (t':=s1.toks) fun b o e=>Heap.get?_push_of_some _ e,AY a _,⟨_,Heap.get?_push_size _ rfl,rfl,rfl⟩,fr,q⟩
 ·subst e
  obtain ⟨t,rfl⟩:=r1
  have hrel:∀(i:Nat) (v:Value),(∃c u,z.cps[i]?=some c∧v=.str ⟨#[c]⟩ u)→RelV (kA z i) v:=fun i v ⟨c,u,e1,e2⟩=>by
   refine ⟨u,?_⟩
   have:z.cps.getD i 0=c:=by rw [Array.getD_eq_getD_getElem?,e1];rfl
   rw [e2,this]
  cases ha:z.cps.all (· < 128) with
  |true =>
   refine wpAny_pyIter_ascii ha ?_
   refine ⟨s1.heap.objs.size,[s1.heap.objs.size],_,_,H1,rfl,I1.kept (t':=s1.toks) fun b o e=>Heap.get?_push_of_some _ e,vR s1.heap.objs.size z.cps.size (kA z) (fun i h=>h.IsStrIter s1.heap.objs.size "str_ascii_iterator" z t i)
    (fun A hA=>wK (Walks.strAscii (A:=A) hA s1.heap.objs.size z t) hrel) (fun i h ⟨o,h1,h2,h3⟩=>⟨o,_,_,h1,h2,h3,by decide⟩) (fun _ _ _ _ _ st h=>wpAny_pyIter_striter_ascii st h),⟨_,Heap.get?_push_size _ rfl,rfl,rfl⟩,fr,q⟩
  |false =>
   refine wpAny_pyIter_wide ha ?_
   refine ⟨s1.heap.objs.size,[s1.heap.objs.size],_,_,H1,rfl,I1.kept (t':=s1.toks) fun b o e=>Heap.get?_push_of_some _ e,vR s1.heap.objs.size z.cps.size (kA z) (fun i h=>h.IsStrIter s1.heap.objs.size "str_iterator" z t i)
    (fun A hA=>wK (Walks.strWide (A:=A) hA s1.heap.objs.size z t) hrel) (fun i h ⟨o,h1,h2,h3⟩=>⟨o,_,_,h1,h2,h3,by decide⟩) (fun _ _ _ _ _ st h=>wpAny_pyIter_striter_wide st h),⟨_,Heap.get?_push_size _ rfl,rfl,rfl⟩,fr,q⟩
structure Gives (K:PySem.W.Frag) (J:It) (ds:List D) (H:Hp):Prop where
 go:∀i,i < ds.length→J.go i H
 yld:∀i x H',i < ds.length→J.yld i H x H'→H'=H∧∃d,ds[i]?=some d∧Is K H x d
 stop:J.stop ds.length H
theorem jj {K:PySem.W.Frag} {H:Hp} {a:Addr} {xs:List V} {ds:List D} (h:bG K H a xs) (i:az K H xs ds):Gives K (oK K a) ds H :=
 ⟨fun j hj=>let ⟨v,e,_⟩:=i.get (List.getElem?_eq_getElem hj);⟨xs,v,h,e⟩,fun j x H' _ ⟨e,y⟩=>⟨e,i.getV (y xs h)⟩,⟨xs,h,by rw [i.length];exact Nat.le_refl _⟩⟩
theorem pZ {K:PySem.W.Frag} {H:Hp} {a:Addr} {xs:List V} {ds:List D} (h:aZ K H a xs) (i:az K H xs ds):Gives K (nN K a) ds H :=
 ⟨fun j hj=>let ⟨v,e,_⟩:=i.get (List.getElem?_eq_getElem hj);⟨xs,v,h,e⟩,fun j x H' _ ⟨e,y⟩=>⟨e,i.getV (y xs h)⟩,⟨xs,h,by rw [i.length];exact Nat.le_refl _⟩⟩
noncomputable def signs (z:Str):List D:=z.cps.toList.map fun c=>.str ⟨#[c]⟩
theorem signs_length (z:Str):(signs z).length=z.cps.size:=by simp [signs]
theorem oA {K:PySem.W.Frag} {H:Hp} (z:Str):Gives K (pA z.cps.size (kA z)) (signs z) H :=
 ⟨fun j hj=>by rw [signs_length] at hj;exact hj,fun j x H' hj ⟨e,y⟩=>by
  refine ⟨e,.str ⟨#[z.cps.getD j 0]⟩,?_,by rw [y];exact .str _⟩
  rw [signs_length] at hj
  unfold signs
  rw [List.getElem?_map,Array.getElem?_toList,Array.getElem?_eq_getElem hj]
  simp [Array.getD_eq_getD_getElem?,hj],by rw [signs_length];exact rfl⟩
noncomputable def dE (ds:List D) (st:DH→Prop) (g:aV) (tb:aF) (E:cp) (τ:aJ) (M:DH):Prop:=∃W:Nat→aJ→DH→Prop,W 0 τ M∧(∀i τ M,i≤ds.length→W i τ M→st M) ∧
 (∀i d τ M,ds[i]?=some d→W i τ M→g d τ M fun τ2 M2=>tb { E with nx:=W (i+1),ct:=W (i+1),bk:=E.nx } τ2 M2)∧∀τ M,W ds.length τ M→E.nx τ M
noncomputable def G5 (g:aV) (tb:aF) (E:cp) (τ:aJ):D→DH→Prop
 |.tup ds,M=>dE ds (fun _=>True) g tb E τ M
 |.rol ds,M=>dE ds (fun _=>True) g tb E τ M
 |.str z,M=>dE (signs z) (fun _=>True) g tb E τ M
 |.ref l,M=>∃ds,M l=some (.lst ds)∧dE ds (fun M=>M l=some (.lst ds)) g tb E τ M
 |_,_=>False
noncomputable def Hh (te:aD) (g:aV) (tb:aF):aF:=fun E τ M=>te τ M fun x M1=>G5 g tb E τ x M1
theorem ya {K:PySem.W.Frag} {H H1:Hp} {D':cp} {E:Ends} {W:aJ→DH→Prop} (hd:dR K H D' E) (e:Ext K H H1) :
  dR K H1 { D' with nx:=W,ct:=W,bk:=D'.nx } { E with nx:=fun σ H2=>∃τ M,aO K τ σ H2∧aw K M H2∧Ext K H H2∧W τ M,ct:=fun σ H2=>∃τ M,aO K τ σ H2∧aw K M H2∧Ext K H H2∧W τ M,bk:=E.nx } :=
 ⟨fun τ M σ H2 s2 m2 e2 q=>⟨τ,M,s2,m2,e.trans e2,q⟩,hd.rt.ext e,fun τ M σ H2 s2 m2 e2 q=>hd.nx τ M σ H2 s2 m2 (e.trans e2) q,fun τ M σ H2 s2 m2 e2 q=>⟨τ,M,s2,m2,e.trans e2,q⟩⟩
theorem lC {K:PySem.W.Frag} {H H1:Hp} {D':cp} {E:Ends} {g:aV} {tb:aF} {d:D} {v:V} {τ:aJ} {σ:St} {M:DH} {W:aJ→DH→Prop} (hd:dR K H D' E) (e1:Ext K H H1) (i:Is K H1 v d) (s1:aO K τ σ H1) (m1:aw K M H1)
  (h:g d τ M fun τ2 M2=>tb { D' with nx:=W,ct:=W,bk:=D'.nx } τ2 M2) :
  lowG K g v σ H1 fun σ2 H2=>aR K tb { E with nx:=fun σ H2=>∃τ M,aO K τ σ H2∧aw K M H2∧Ext K H H2∧W τ M,ct:=fun σ H2=>∃τ M,aO K τ σ H2∧aw K M H2∧Ext K H H2∧W τ M,bk:=E.nx } σ2 H2 :=
 ⟨d,τ,M,_,i,s1,m1,h,fun τ2 M2 σ2 H2 s2 m2 e2 q2=>⟨τ2,M2,_,s2,m2,q2,ya hd (e1.trans e2)⟩⟩
theorem jX {K:PySem.W.Frag} {J:It} {ds:List D} {st:DH→Prop} {g:aV} {tb:aF} {D':cp} {E:Ends} {τ:aJ} {σ:St} {M:DH} {H H1:Hp} (hd:dR K H D' E) (e1:Ext K H H1) (s1:aO K τ σ H1) (m1:aw K M H1)
  (hg:∀M2 H2,aw K M2 H2→Ext K H1 H2→st M2→Gives K J ds H2) (h:dE ds st g tb D' τ M) :
  ∃W:Nat→Nat→St→Hp→Prop,(∃m,W 0 m σ H1)∧∀i m σ H,W i m σ H →
   (J.stop i H∧E.nx σ H)∨(J.go i H∧∃N:St→Hp→Prop,(∀σ' H',N σ' H'→∃m',m' < m∧W (i+1) m' σ' H')∧∀x H',J.yld i H x H'→lowG K g x σ H' fun σ2 H2=>aR K tb { E with nx:=N,ct:=N,bk:=E.nx } σ2 H2):=by
 obtain ⟨W,w0,stay,turn,done⟩:=h
 refine ⟨fun i m σ2 H2=>m=ds.length-i∧i≤ds.length∧∃τ2 M2,aO K τ2 σ2 H2∧aw K M2 H2∧Ext K H1 H2∧W i τ2 M2,⟨ds.length,by simp,Nat.zero_le _,τ,M,s1,m1,Ext.refl H1,w0⟩,?_⟩
 rintro i m σ2 H2 ⟨rfl,hi,τ2,M2,s2,m2,e2,w2⟩
 have G:=hg M2 H2 m2 e2 (stay i τ2 M2 hi w2)
 by_cases hlt:i < ds.length
 ·refine .inr ⟨G.go i hlt,fun σ3 H3=>∃τ3 M3,aO K τ3 σ3 H3∧aw K M3 H3∧Ext K H1 H3∧W (i+1) τ3 M3,fun σ3 H3 p=>⟨ds.length-(i+1),by first|lia|omega,rfl,hlt,p⟩,fun x H' y=>?_⟩
  obtain ⟨rfl,d,ed,id⟩:=G.yld i x H' hlt y
  exact lC (hd.ext e1) e2 id s2 m2 (turn i d τ2 M2 ed w2)
 ·have e:i=ds.length:=by (first|lia|omega)
  subst e
  exact .inl ⟨G.stop,hd.nx τ2 M2 σ2 H2 s2 m2 (e1.trans e2) (done τ2 M2 w2)⟩
theorem fM {iter:Expr} {body:List Stmt} (hp:PassesOwn (model X.prog X.w) X.A X.env X.xe) (hc:X.calm=true) (hi:PE X iter (low X.K te)) (hg:PG X tg (lowG X.K g)) (hb:bx X body (aR X.K tb))
  (hs:∀x,foldedSetIterable iter X.env x=pure x:=by intro _;rfl):PS X (.For tg iter body [] pos) (aR X.K (Hh te g tb)) :=
 (gS hp hc (pG hi) hg hb hs).imp fun D σ H ⟨τ,M,D',hs,hm,h,hd⟩=>⟨τ,M,_,hs,hm,h,fun x M1 v H1 m1 e1 i1 h1=>by
  cases i1 with
  |@tup a xs ds hx hxs=>exact .inl ⟨a,rfl,.inr ⟨⟨xs,hx⟩,jX hd e1 (hs.mono e1) m1 (fun M2 H2 m2 e2 _=>pZ (e2.t _ _ hx) (hxs.mono e2)) h1⟩⟩
  |@rol a xs ds hx hxs=>exact .inl ⟨a,rfl,.inl ⟨⟨xs,hx.sq⟩,jX hd e1 (hs.mono e1) m1 (fun M2 H2 m2 e2 _=>jj (e2.f _ _ hx).sq (hxs.mono e2)) h1⟩⟩
  |str z=>exact .inr ⟨z,rfl,jX hd e1 (hs.mono e1) m1 (fun M2 H2 m2 e2 _=>oA z) h1⟩
  |ref l =>
   obtain ⟨ds,hl,w⟩:=h1
   obtain ⟨xs,hx,hxs⟩:=m1 l _ hl
   exact .inl ⟨l,rfl,.inl ⟨⟨xs,bG.of hx⟩,jX hd e1 (hs.mono e1) m1 (fun M2 H2 m2 e2 hl2=>let ⟨ys,hy,iy⟩:=m2.lst hl2;jj hy iy) w⟩⟩
  |_=>exact h1.elim⟩
noncomputable def pU (f:Nat→Int) (n:Nat) (g:aV) (tb:aF) (E:cp) (τ:aJ) (M:DH):Prop:=∃W:Nat→aJ→DH→Prop,W 0 τ M ∧
 (∀i τ M,i < n→W i τ M→g (.int (f i)) τ M fun τ2 M2=>tb { E with nx:=W (i+1),ct:=W (i+1),bk:=E.nx } τ2 M2)∧∀τ M,W n τ M→E.nx τ M
noncomputable def zI (g:aV) (tb:aF) (E:cp) (τ:aJ):List D→DH→Prop
 |[.int j],M=>(-(2 ^ 62)≤j∧j < 2 ^ 62)∧pU (fun i=>(i:Int)) j.toNat g tb E τ M
 |_,_=>False
noncomputable def Ca (ta:br) (g:aV) (tb:aF):aF:=fun E τ M=>ta τ M fun vs M1=>zI g tb E τ vs M1
theorem Gi {K:PySem.W.Frag} {lo:Int} {n:Nat} {g:aV} {tb:aF} {D':cp} {E:Ends} {τ:aJ} {σ:St} {M:DH} {H H1:Hp} (hd:dR K H D' E) (e1:Ext K H H1) (s1:aO K τ σ H1) (m1:aw K M H1) (h:pU (fun i=>lo+(i:Int)) n g tb D' τ M) :
  ∃W:Nat→Nat→St→Hp→Prop,(∃m,W 0 m σ H1)∧∀i m σ H,W i m σ H →
   ((fD lo n).stop i H∧E.nx σ H)∨((fD lo n).go i H∧∃N:St→Hp→Prop,(∀σ' H',N σ' H'→∃m',m' < m∧W (i+1) m' σ' H')∧∀x H',(fD lo n).yld i H x H'→lowG K g x σ H' fun σ2 H2=>aR K tb { E with nx:=N,ct:=N,bk:=E.nx } σ2 H2):=by
 obtain ⟨W,w0,turn,done⟩:=h
 refine zR (fun i σ2 H2=>∃τ2 M2,aO K τ2 σ2 H2∧aw K M2 H2∧Ext K H1 H2∧W i τ2 M2) ⟨τ,M,s1,m1,Ext.refl H1,w0⟩ ?_ ?_
 ·rintro i σ2 H2 hi ⟨τ2,M2,s2,m2,e2,w2⟩
  exact lC (hd.ext e1) e2 (.int _) s2 m2 (turn i τ2 M2 hi w2)
 ·rintro σ2 H2 ⟨τ2,M2,s2,m2,e2,w2⟩
  exact hd.nx τ2 M2 σ2 H2 s2 m2 (e1.trans e2) (done τ2 M2 w2)
theorem qz {a:Expr} {ta:br} {body:List Stmt} {p aA:Pos} (hp:PassesOwn (model X.prog X.w) X.A X.env X.xe) (hc:X.calm=true) (hm:X.mg "range" = none) (ha:PA X [a] (cg X.K ta)) (hg:PG X tg (lowG X.K g)) (hb:bx X body (aR X.K tb)) (hgl:Gl X "range" :=by rfl)
  (hst:starEach [a] X.env=[(false,eval a X.env)]:=by rfl) (hs:∀x,foldedSetIterable (.Call (.Name "range" p) [a] [] aA) X.env x=pure x:=by intro _;rfl):PS X (.For tg (.Call (.Name "range" p) [a] [] aA) body [] pos) (aR X.K (Ca ta g tb)) :=
 (gS hp hc (mR hgl hm ha hst) hg hb hs).imp fun D σ H ⟨τ,M,D',hs,hm,h,hd⟩=>⟨τ,M,_,hs,hm,h,fun ds M1 vs H1 m1 e1 i1 h1=>by
  match ds,h1,i1 with
  |[.int j],h1,i1 =>
   obtain ⟨v,rfl,i⟩:=cc i1
   (first|cases i.inv|cases i)
   obtain ⟨⟨q1,q2⟩,w⟩:=h1
   have w':pU (fun i=>0+(i:Int)) j.toNat g tb D' τ M1:=by
    have e:(fun i:Nat=>0+(i:Int))=fun i:Nat=>(i:Int):=by funext i;(first|lia|omega)
    rw [e];exact w
   exact ⟨j,rfl,q1,q2,Gi hd e1 (hs.mono e1) m1 w'⟩⟩
noncomputable abbrev aS:=List D→DH→KD→Prop
noncomputable def dS (K:PySem.W.Frag) (sp:aS):Sp:=fun vs H Q _=>∃ds M Q',az K H vs ds∧aw K M H∧sp ds M Q'∧cN K H Q' Q
structure bu (P:Program) (w:World) (K:PySem.W.Frag) (mg:Str→Option Value) (base:Heap) (k:Nat) (x:Str) (ps:List Str) (sp:aS):Prop where
 ex:∃f fd,cn P w K mg base cY k f fd ps (dS K sp)∧mg x=some (.ref f)∧PySem.W.keepIn K (.ref f)=true∧Binds K fd ps []
theorem bu.mono {P:Program} {w:World} {K:PySem.W.Frag} {mg:Str→Option Value} {base:Heap} {j k:Nat} {x:Str} {ps:List Str} {sp:aS} (F:bu P w K mg base j x ps sp) (h:j≤k):bu P w K mg base k x ps sp :=
 let ⟨f,fd,a,b,c,d⟩:=F.ex;⟨f,fd,a.mono h,b,c,d⟩
theorem bu.imp {P:Program} {w:World} {K:PySem.W.Frag} {mg:Str→Option Value} {base:Heap} {k:Nat} {x:Str} {ps:List Str} {sp sp':aS} (F:bu P w K mg base k x ps sp) (h:∀ds M Q,sp' ds M Q→sp ds M Q):bu P w K mg base k x ps sp' :=
 let ⟨f,fd,a,b,c,d⟩:=F.ex;⟨f,fd,a.imp (fun _ _ _ _ ⟨ds,M,Q',i,m,q,hq⟩=>⟨ds,M,Q',i,m,h _ _ _ q,hq⟩),b,c,d⟩
noncomputable def oP (sp:aS) (t:br):aD:=fun τ M Q=>t τ M fun ds M1=>sp ds M1 Q
theorem aH {k:Nat} {x:Str} {ps:List Str} {sp:aS} {p:Pos} {es:List Expr} {t:br} (F:bu X.prog X.w X.K X.mg X.base k x ps sp) (hr:aW k X.A) (ha:PA X (e::es) (cg X.K t)) (hg:Gl X x:=by rfl) (hdb:(x ==("__debug__" : Str))=false:=by decide)
  (he:starEach (e::es) X.env=(false,eval e X.env)::starEach es X.env:=by rfl) (hpl:(backTo pos (starEach es X.env)).any (·.1)=false:=by rfl):PE X (.Call (.Name x p) (e::es) [] pos) (low X.K (oP sp t)):=by
 obtain ⟨f,fd,F,hm,hk,hb⟩:=F.ex
 refine (zk (E:=E0) F hr hg hm hk hb .nil oo ha hdb he hpl).imp fun σ H Q zz0=>?_
 obtain ⟨τ,M,Q',hs,hm,h,hq⟩:=zz0
 refine ⟨τ,M,_,hs,hm,h,fun ds M1 vs H1 m1 e1 i1 h1=>?_⟩
 show dS X.K sp (vs++[]) H1 Q E0
 rw [List.append_nil]
 exact ⟨ds,M1,Q',i1,m1,h1,hq.ext e1⟩
noncomputable def fh (N:List Str) (ds:List D):aJ:=ds.map some++List.replicate (N.length-ds.length) none
theorem vS {K:PySem.W.Frag} {H:Hp} {N:List Str} {vs:List V} {ds:List D} (h:az K H vs ds):aO K (fh N ds) (L2.start N vs) H:=by
 have hl:=h.length
 refine ⟨by unfold fh L2.start;simp [hl],fun i d e=>?_⟩
 unfold fh at e
 by_cases hi:i < ds.length
 ·rw [List.getElem?_append_left (by simpa using hi),List.getElem?_map] at e
  cases q:ds[i]? with
  |none=>rw [q] at e;cases e
  |some d' =>
   rw [q] at e
   cases e
   obtain ⟨v,ev,iv⟩:=h.get q
   refine ⟨v,?_,iv⟩
   unfold L2.start
   rw [List.getElem?_append_left (by simpa [hl] using hi),List.getElem?_map,ev]
   rfl
 ·rw [List.getElem?_append_right (by simpa using hi),List.getElem?_replicate] at e
  split at e<;>cases e
noncomputable def fo (Q:KD):cp:={ nx:=fun _ M'=>∃M0,Sub M0 M'∧Q .non M0,rt:=fun d M'=>∃M0,Sub M0 M'∧Q d M0 }
section
variable {P:Program} {w:World} {K:PySem.W.Frag} {mg:Str→Option Value} {base:Heap}
theorem kZ {x qual:Str} {st:Stmt} {f:Addr} {fd:FuncData} {N ps:List Str} {k:Nat} {sp:aS} (F:e8 K x qual st f fd) (S:aX N ps (au st)) (len:∀ds M Q,sp ds M Q→ds.length=ps.length)
  (hbody:∀(cdv:Value) (A:Around) (outer:List Env) (s:Shared) (H:Hp) (E:XK),aW k (A.deeper (envOfC qual (au st) s.heap.objs.size f cdv)) →
   ∃t:aF,bx (cu cY P w K mg base N qual (au st) f cdv A outer s H E).nox (aU st) (aR K t)∧∀ds M Q,sp ds M Q→t (fo Q) (fh N ds) M):cn P w K mg base cY (k+1) f fd ps (dS K sp):=by
 refine F.ok S (fun vs H Q E h=>?_) (fun cdv A outer s H vs Q E hr h=>?_)
 ·obtain ⟨ds,M,Q',i,_,q,_⟩:=h
  rw [i.length]
  exact len _ _ _ q
 ·obtain ⟨t,h1,h2⟩:=hbody cdv A outer s H E hr
  obtain ⟨ds,M,Q',i,hm,q,hq⟩:=h
  refine ⟨_,h1,fh N ds,M,fo Q',vS i,hm,h2 _ _ _ q,⟨?_,?_,?_,?_⟩⟩
  ·rintro τ M1 σ H1 s1 m1 e1 ⟨M0,sub,q0⟩
   exact hq _ M0 _ H1 (m1.sub sub) e1 .non q0
  ·rintro d M1 v H1 m1 e1 i1 ⟨M0,sub,q0⟩
   exact hq d M0 v H1 (m1.sub sub) e1 i1 q0
  ·intro τ M1 σ H1 _ _ _ q0;exact q0.elim
  ·intro τ M1 σ H1 _ _ _ q0;exact q0.elim
noncomputable def bH (K:PySem.W.Frag) (mg:Str→Option Value) (x:Str) (st:Stmt) (ps:List Str):Prop:=∃f fd,e8 K x x st f fd∧Binds K fd ps []∧mg x=some (.ref f)
theorem bW {x:Str} {st:Stmt} {N ps:List Str} {k:Nat} {sp:aS} (T:bH K mg x st ps) (S:aX N ps (au st)) (len:∀ds M Q,sp ds M Q→ds.length=ps.length)
  (hbody:∀(f:Addr) (cdv:Value) (A:Around) (outer:List Env) (s:Shared) (H:Hp) (E:XK),aW k (A.deeper (envOfC x (au st) s.heap.objs.size f cdv)) →
   ∃t:aF,bx (cu cY P w K mg base N x (au st) f cdv A outer s H E).nox (aU st) (aR K t)∧∀ds M Q,sp ds M Q→t (fo Q) (fh N ds) M):bu P w K mg base (k+1) x ps sp:=by
 obtain ⟨f,fd,F,hb,hm⟩:=T
 exact ⟨f,fd,kZ F S len (hbody f),hm,F.kp,hb⟩
noncomputable def j8:aS:=fun ds M Q=>∃ns:List Int,ds=[.rol (ns.map .int)]∧ns.length≤63∧Q (.bl true) M
theorem zH {K:PySem.W.Frag} {H:Hp} {a:Addr} {ns:List Int} (hO:lM H) (hl:ns.length≤63) (hS:bG K H a (ns.map V.int)):dS K j8 [.ref a] H (fun v _=>v=.bl true) fun _ _ _=>False:=by
 have hF:gz K H a (ns.map V.int):=by
  rcases hS with (h|⟨o,h⟩)|h
  ·rcases hO a with z|⟨o,xs,z⟩<;>rw [z] at h<;>cases h
  ·exact .inl ⟨o,h⟩
  ·exact .inr h
 have hI:∀ns:List Int,az K H (ns.map V.int) (ns.map D.int):=fun ns=>by
  induction ns with
  |nil=>exact .nil
  |cons n ns ih=>exact .cons (.int n) ih
 refine ⟨[.rol (ns.map .int)],fun _=>none,fun d _=>d=.bl true,.cons (.rol hF (hI ns)) .nil,fun a o e=>(nomatch e),⟨ns,rfl,hl,rfl⟩,fun d M1 v H1 _ _ i q=>?_⟩
 have q':d=.bl true:=q
 subst q'
 (first|cases i.inv|cases i)
 rfl
end
end
end DL
namespace DL
open PySem PySem.Spec PyProof.Rows L2
noncomputable def pick {α:Type} (js:List (Option Nat)) (τ:List (Option α)):List (Option α):=js.map fun o=>match o with
 |none=>none
 |some j=>match τ[j]? with
  |some v=>v
  |none=>none
noncomputable def bB (X:Cx) (Nc:List Str) (scope:Scope) (cl:List (Str×Addr)) (C:Addr) (s:Shared) (H:Hp) (fp:List Addr):Cx where
 prog:=X.prog
 w:=X.w
 K:=X.K
 mg:=X.mg
 base:=X.base
 A:=X.A
 N:=Nc
 s₀:=s
 H₀:=H
 env:=compEnvC scope cl C X.env
 outer:=X.stack
 stack:=X.stack
 ex:=fp
 fn:=fun _=>false
 calm:=X.calm
 pn:=[]
 xe:=fun _ _=>False
structure eX (X:Cx) (Nc:List Str) (js:List (Option Nat)) (scope:Scope) (cl:List (Str×Addr)):Prop where
 kind:scope.kind=.function
 clos:closureFor scope X.env=pure cl
 nocell:∀y∈scope.names,y.2≠.cell
 names:∀y∈scope.names,y.2=.local→scope.names.lookup y.1=some .local
 sub:∀p∈cl,X.env.cells.lookup p.1=some p.2
 has:((relabel scope X.env).names.all fun p=>(p.2 !=.cell && p.2 !=.free) ||(cl.lookup p.1).isSome)=true
 len:js.length=Nc.length
 fr:∀(i j:Nat) (x:Str),js[i]?=some (some j)→Nc[i]?=some x→X.N[j]?=some x∧(X.env.kindOf x=some .cell∨X.env.kindOf x=some .free) ∧
  ((relabel scope X.env).names.lookup x=some .cell∨(relabel scope X.env).names.lookup x=some .free)∧X.fs=X.fs
theorem wI {α:Type} {js:List (Option Nat)} {τ:List (Option α)} {i:Nat} {v:α} (h:(pick js τ)[i]?=some (some v)):∃j,js[i]?=some (some j)∧τ[j]?=some (some v):=by
 unfold pick at h
 rw [List.getElem?_map] at h
 cases q:js[i]? with
 |none=>rw [q] at h;cases h
 |some o =>
  rw [q] at h
  cases o with
  |none=>cases h
  |some j =>
   refine ⟨j,rfl,?_⟩
   have h':(match τ[j]? with
    |some v=>v
    |none=>none)=some v:=Option.some.inj h
   cases e:τ[j]? with
   |none=>rw [e] at h';cases h'
   |some u=>rw [e] at h';exact congrArg some h'
noncomputable def mm (wi:TI) (g:TG) (tt:TT) (te:TE) (js:List (Option Nat)):TE:=fun σ H Q=>wi σ H fun J H1=>∀l,H1 l=none→∃W:Nat→Nat→St→Hp→Prop,(∃m,W 0 m (pick js σ) (upd H1 l (.lst [])))∧∀i m σ2 H2,W i m σ2 H2 →
 (J.stop i H2∧Q (.ref l) H2)∨(J.go i H2∧∀x H3,J.yld i H2 x H3→g x σ2 H3 fun σ4 H4=>tt σ4 H4 fun b H5=>if b=true then te σ4 H5 fun y H6=>∃ys,H6 l=some (.lst ys)∧ys.length < sizeLine∧∃m',m' < m∧W (i+1) m' σ4 (upd H6 l (.lst (ys++[y])))
  else ∃m',m' < m∧W (i+1) m' σ4 H5)
noncomputable def jm (X:Cx) (ifs:List Expr) (t:TT):Prop:=(ifs=[]∧t=fun _ H Q=>Q true H)∨∃c,ifs=[c]∧PT X c t
section
variable {X:Cx} {tg elt iter:Expr} {ifs:List Expr} {scope:Scope} {pos:Pos} {wi:TI} {g:TG} {tt:TT} {te:TE} {js:List (Option Nat)} {Nc:List Str} {cl:List (Str×Addr)}
theorem BH {aa:List (Addr×Obj)} {σ:St} {H:Hp} {s:Shared} {fp:List Addr} {C:Addr} {s':Shared} {H':Hp} (O:eX X Nc js scope cl) (I:Inv X aa σ H s) (f:∀b∈fp,eG X aa H b) (hfp:∀b∈fp,b < C) (hC:s.heap.objs.size≤C)
  (os:s'.os=s.os) (bare:AllBare s'.gens) (un:Un (bw X.stack) fp H H' s.heap s'.heap) (hn:s'.heap.Ns C fun _=>none) (hfree:H' C=none) (ao:bM X.prog X.w H' s'.heap) (old:∀b o,s.heap.get? b=some o→s'.heap.get? b=some o):Inv (bB X Nc scope cl C s H fp) [] (pick js σ) H' s':=by
 have clk:∀x c,cl.lookup x=some c→X.env.cells.lookup x=some c:=fun x c e=>O.sub (x,c) (PySem.mem_of_lookup e)
 have kin:∀x k,(relabel scope X.env).names.lookup x=some k→(k=.cell∨k=.free)→∃c,cl.lookup x=some c:=fun x k e hk=>by
  have h1:=List.all_eq_true.mp O.has (x,k) (PySem.mem_of_lookup e)
  rcases hk with rfl|rfl
  ·exact Option.isSome_iff_exists.mp (by simpa using h1)
  ·exact Option.isSome_iff_exists.mp (by simpa using h1)
 have cfree:∀x c,cl.lookup x=some c→∃o,s.heap.get? c=some o:=fun x c e=>by
  obtain ⟨v,o,ho,_⟩:=I.cell x c (clk x c e)
  exact ⟨o,ho⟩
 refine ⟨⟨I.ok.mod,by simp [bB,compEnvC,relabel,O.kind],I.ok.glob,I.ok.blt,hC,fun x y c h1 h2=>I.ok.inj x y c (clk x c h1) (clk y c h2),fun x hx=>?_,fun x c h=>(nomatch h),I.ok.hd,I.ok.frames,.inl rfl,fun b hb=>⟨Nat.ne_of_lt (hfp b hb),fun x c e=>(f b hb).2.2.2.2.1 x c (clk x c e)⟩,
   I.bs,Nat.le_trans I.ok.bsz I.sz,fun b o e hb=>?_,fun b hb z=>?_,I.stack,I.stkFree⟩,os,bare,un,⟨_,hn,fun i x v e1 e2 e3=>?_⟩,fun x c e=>?_,hfree,fun x c e=>?_,fun p hp=>absurd (show p∈([]:List (Addr×Obj)) from hp) (by simp),ao,?_⟩
 ·rcases hx with hx|hx
  ·exact kin x _ hx (.inl rfl)
  ·exact kin x _ hx (.inr rfl)
 ·rcases (f b hb).2.2.2.1 with z|z
  ·exact I.ok.noex b o e z
  ·exact absurd (Nat.lt_of_lt_of_le (Heap.lt_size e) (Nat.le_trans I.ok.bsz z)) (Nat.lt_irrefl _)
 ·rcases List.mem_cons.mp (I.stkSub b z) with z|z
  ·exact (f b hb).2.1 z
  ·exact (f b hb).2.2.1 z
 ·obtain ⟨j,ej,ev⟩:=wI e2
  obtain ⟨hN,hk,hk',_⟩:=O.fr i j x ej e1
  obtain ⟨m,_,hl⟩:=I.loc
  have vis:kE X.env.scope x:=by rcases hk with k|k;exact .inr (.inl k);exact .inr (.inr k)
  obtain ⟨u,r,lk⟩:=hl j x v hN ev vis
  refine ⟨u,r,.inr ⟨hk',?_⟩⟩
  obtain ⟨c,ec⟩:∃c,cl.lookup x=some c:=by
   rcases hk' with k|k
   ·exact kin x _ k (.inl rfl)
   ·exact kin x _ k (.inr rfl)
  refine ⟨c,ec,?_⟩
  rcases lk with ⟨kl,_⟩|⟨_,c',ec',hc⟩
  ·rcases hk with k|k<;>(rw [k] at kl;cases kl)
  ·rw [clk x c ec] at ec'
   cases ec'
   obtain ⟨o,ho,hd⟩:=hc
   exact ⟨o,old _ o ho,hd⟩
 ·obtain ⟨v,o,ho,hd⟩:=I.cell x c (clk x c e)
  exact ⟨v,o,old _ o ho,hd⟩
 ·obtain ⟨v,o,ho,hd⟩:=I.cell x c (clk x c e)
  exact un.free c o ho (I.freeC x c (clk x c e)) fun z=>(f c z).2.2.2.2.1 x c (clk x c e) rfl
 ·unfold pick
  rw [List.length_map]
  exact O.len
theorem vO {use:Option (Value→Sem Unit)} {Qf:Value→Shared→Prop} {aa:List (Addr×Obj)} {s:Shared} {σ:St} {H:Hp} {Q:VK} {ipos:Pos} (O:eX X Nc js scope cl) (hc:X.calm=true) (hi:PI X tg iter wi) (hg:∀C s H fp,PG (bB X Nc scope cl C s H fp) tg g) (hif:∀C s H fp,jm (bB X Nc scope cl C s H fp) ifs tt) (he:∀C s H fp,PE (bB X Nc scope cl C s H fp) elt te)
  (hs:∀x,foldedSetIterable iter X.env x=pure x) (I:Inv X aa σ H s) (h:mm wi g tt te js σ H Q)
  (fin:∀s5 H4 l C m f,Inv X aa σ H4 s5→eG X aa H4 C→s5.heap.Ns C m→Q (.ref l) H4→compPost (model X.prog X.w) X.A X.xe use Qf (.ref l) C (.ok f) s5) :
  wpAny (model X.prog X.w) X.A (comprehension (.ListComp elt [⟨tg,iter,ifs,0⟩] scope pos) scope X.env ipos (newList []) false (eval iter X.env) use) Qf X.xe s:=by
 refine wpAny_comprehension_free (use:=use) rfl hs O.clos O.kind O.names (aC (hi aa s σ H _ I h) fun v s1 h1=>aC h1 fun itv s2 h2=>?_)
 obtain ⟨it,fp,tn,J,H2,e,I2,T,st2,f2,q⟩:=h2
 subst e
 have hl:H2 s2.heap.objs.size=none:=I2.ao.fresh (Nat.le_refl _)
 obtain ⟨W,⟨m0,w0⟩,turn⟩:=q _ hl
 refine wpAny_newObj_type (wpAny_newFunctionEnv O.nocell (by intro y hy;simp at hy) (fun h₁ hns₁ hsb₁=>?_) O.kind)
 dsimp only at hns₁ hsb₁ ⊢
 generalize hH2:s2.heap.push { cls:=.type "list",dict:=none,data:=.seq ([]:List Value).toArray }=G2 at hns₁ hsb₁ ⊢
 have hC:G2.objs.size=s2.heap.objs.size+1:=by rw [←hH2,Heap.size_push]
 have below:∀b,b < s2.heap.objs.size→b≠G2.objs.size∧b≠s2.heap.objs.size:=fun b hb=>⟨by rw [hC];exact Nat.ne_of_lt (Nat.lt_succ_of_lt hb),Nat.ne_of_lt hb⟩
 have old:∀b o,s2.heap.get? b=some o→h₁.get? b=some o:=fun b o e=>hsb₁.extBut b o (below b (Heap.lt_size e)).1 (Heap.get?_push_of_some _ (hH2▸Heap.get?_push_of_some _ e))
 have hDC:s2.heap.objs.size≠G2.objs.size:=by rw [hC];exact Nat.ne_of_lt (Nat.lt_succ_self _)
 have hacc:h₁.get? s2.heap.objs.size=some { cls:=.type "list",dict:=none,data:=.seq ([]:List Value).toArray }:=hsb₁.extBut _ _ hDC (Heap.get?_push_of_some _ (hH2▸Heap.get?_push_size _ rfl))
 have hfp:∀b∈fp,b < s2.heap.objs.size:=fun b hb=>let ⟨o,e,_⟩:=T.obj _ _ st2 b hb;Heap.lt_size e
 have hCn:upd H2 s2.heap.objs.size (.lst []) G2.objs.size=none:=by
  rw [aK (Ne.symm hDC)]
  exact I2.ao.fresh (by rw [hC];exact Nat.le_succ _)
 have I3:Inv (bB X Nc scope cl G2.objs.size s2 H2 fp) [] (pick js σ) (upd H2 s2.heap.objs.size (.lst [])) { s2 with heap:=h₁,toks:=s2.toks+([]:List (Str×Value)).length } :=
  BH O I2 f2 (fun b hb=>by rw [hC];exact Nat.lt_succ_of_lt (hfp b hb)) (by rw [hC];exact Nat.le_succ _) rfl I2.bare (Un.laid old (Nat.le_refl _) hl) hns₁ hCn (I2.ao.laid old (Nat.le_refl _) ⟨by simp,[],0,.nil,hacc⟩) old
 have st3:tn 0 h₁:=T.keep _ _ _ st2 fun b hb o e=>old b o e
 have nofp:∀b∈fp,upd H2 s2.heap.objs.size (.lst []) b=none:=fun b hb=>by rw [aK (Nat.ne_of_lt (hfp b hb))];exact (f2 b hb).1
 have stat:∀{H':Hp},(∀b∈fp,H' b=none)→∀b∈fp,eG (bB X Nc scope cl G2.objs.size s2 H2 fp) [] H' b:=fun hn b hb =>
  ⟨hn b hb,Nat.ne_of_lt (by rw [hC];exact Nat.lt_succ_of_lt (hfp b hb)),fun z=>by
   rcases List.mem_cons.mp (I2.stkSub b z) with z|z
   ·exact (f2 b hb).2.1 z
   ·exact (f2 b hb).2.2.1 z,.inl hb,fun x c ec=>(f2 b hb).2.2.2.2.1 x c (O.sub (x,c) (PySem.mem_of_lookup ec)),fun p hp=>absurd (show p∈([]:List (Addr×Obj)) from hp) (by simp)⟩
 have loop:∀s₃:Shared,s₃={ s2 with heap:=h₁,toks:=s2.toks+([]:List (Str×Value)).length } →
   codeAny (model X.prog X.w) X.A (.compLoop (.ListComp elt [⟨tg,iter,ifs,0⟩] scope pos) 0 (.ref it) (.ref s2.heap.objs.size) (compEnvC scope cl G2.objs.size X.env)) (compPost (model X.prog X.w) X.A X.xe use Qf (.ref s2.heap.objs.size) G2.objs.size) s₃:=by
  rintro s₃ rfl
  refine codeAny_loop rfl (fun n s'=>∃i σ' H',Inv (bB X Nc scope cl G2.objs.size s2 H2 fp) [] σ' H' s'∧tn i s'.heap∧(∀b∈fp,H' b=none)∧W i n σ' H') ?_ m0 ⟨0,_,_,I3,st3,nofp,w0⟩
  rintro n s4 ⟨i,σ4,H4,I4,st4,fr4,w4⟩
  show wpAny _ X.A ((compTurn (.ListComp elt [⟨tg,iter,ifs,0⟩] scope pos) 0 (.ref it) (.ref s2.heap.objs.size) (compEnvC scope cl G2.objs.size X.env)).onRaise (fun x=>do noteFrame x (compEnvC scope cl G2.objs.size X.env);theTreesLotGoes x)) _ _ s4
  refine wpAny_noted ?_
  rw [compTurn_list]
  refine wpAny_bind (wpAny_standAt (wpAny_bind ?_))
  rcases turn i n σ4 H4 w4 with ⟨stop,qn⟩|⟨go,step⟩
  ·refine aC (T.done (bB X Nc scope cl G2.objs.size s2 H2 fp) rfl rfl rfl hc i [] s4 σ4 H4 _ I4 (stat fr4) st4 stop) fun r s5 zz0=>?_
   obtain ⟨hr,I5⟩:=zz0
   subst hr
   refine wpAny_pure ?_
   obtain ⟨m,hn,_⟩:=I5.loc
   have J5:Inv X aa σ H4 s5:=I2.call' I5.os I5.base I5.ao I5.bare fun b hb=>⟨(f2 b hb).2.2.2.1,(f2 b hb).2.1,(f2 b hb).2.2.2.2.1,(f2 b hb).2.2.2.2.2⟩
   exact fin s5 H4 _ _ m _ J5 (I2.fpOk (by rw [hC];exact Nat.le_succ _) I5.free) hn qn
  ·refine aC (T.item (bB X Nc scope cl G2.objs.size s2 H2 fp) rfl rfl rfl hc i [] s4 σ4 H4 _ I4 (stat fr4) st4 go) fun r s5 zz0=>?_
   obtain ⟨u,hr,h5⟩:=zz0
   subst hr
   refine wpAny_bind (aC h5 fun _ s6 zz0=>?_)
   obtain ⟨x,H6,I6,r6,y6,st6,fr6⟩:=zz0
   have I6':=I6.pinned (stat fr6) (T.obj _ _ st6)
   have again':∀{s9:Shared} {σ9:St} {H9:Hp},Inv (bB X Nc scope cl G2.objs.size s2 H2 fp) ([]++iW fp s6.heap) σ9 H9 s9→(∃m',m' < n∧W (i+1) m' σ9 H9) →
     ∃m,m < n∧∃i σ' H',Inv (bB X Nc scope cl G2.objs.size s2 H2 fp) [] σ' H' s9∧tn i s9.heap∧(∀b∈fp,H' b=none)∧W i m σ' H':=fun {s9 σ9 H9} I9 ⟨m',hm,w9⟩=>by
    refine ⟨m',hm,i+1,σ9,H9,I9.unpinned,T.keep _ _ _ st6 fun b hb o e=>(I9.pin (b,o) (List.mem_append_right _ (List.mem_append_right _ (kI hb e)))).1,fun b hb=>?_,w9⟩
    obtain ⟨o,e,d⟩:=T.obj _ _ st6 b hb
    exact (I9.pin (b,o) (List.mem_append_right _ (List.mem_append_right _ (kI hb e)))).2.1
   refine wpAny_bind (wpAny_mono (hg G2.objs.size s2 H2 fp _ s6 σ4 H6 x u _ I6' r6 (step x H6 y6)) (fun _ s7 zz0=>?_) fun _ _ z=>z.elim)
   obtain ⟨σ7,H7,I7,q7⟩:=zz0
   have tests:∀{R:Bool→Shared→Prop} {E':Value→Shared→Prop},(∀b s8,(∃H8,Inv (bB X Nc scope cl G2.objs.size s2 H2 fp) ([]++iW fp s6.heap) σ7 H8 s8∧(if b=true then te σ7 H8 fun y H6=>∃ys,H6 s2.heap.objs.size=some (.lst ys)∧ys.length < sizeLine∧∃m',m' < n∧W (i+1) m' σ7 (upd H6 s2.heap.objs.size (.lst (ys++[y])))
     else ∃m',m' < n∧W (i+1) m' σ7 H8))→R b s8)→wpAny (model X.prog X.w) X.A (forIn ifs true fun c r=>if r=true then do let ok ←isTrue c (compEnvC scope cl G2.objs.size X.env) (eval c (compEnvC scope cl G2.objs.size X.env));pure (ForInStep.yield ok) else pure (ForInStep.yield r)) R E' s7:=by
    intro R E' hR
    rcases hif G2.objs.size s2 H2 fp with ⟨e1,e2⟩|⟨c,e1,e2⟩
    ·subst e1 e2
     exact wpAny_tests_nil (hR true s7 ⟨H7,I7,q7⟩)
    ·subst e1
     refine wpAny_tests_one (wpAny_mono (e2 _ s7 σ7 H7 _ I7 q7) (fun b s8 zz0=>?_) fun _ _ z=>z.elim)
     obtain ⟨H8,I8,q8⟩:=zz0
     exact hR b s8 ⟨H8,I8,q8⟩
   refine wpAny_bind (tests fun ok s8 zz0=>?_)
   obtain ⟨H8,I8,q8⟩:=zz0
   cases ok with
   |false =>
    rw [if_neg Bool.false_ne_true] at q8
    exact wpAny_pure ⟨rfl,again' I8 q8⟩
   |true =>
    rw [if_pos rfl] at q8
    refine wpAny_bind (wpAny_bind (wpAny_mono (he G2.objs.size s2 H2 fp _ s8 σ7 H8 _ I8 q8) (fun xv s9 zz0=>?_) fun _ _ z=>z.elim))
    obtain ⟨y,H9,I9,r9,ys,hy,hlen,q9⟩:=zz0
    refine wpAny_bind (wpAny_mono (si (X:=bB X Nc scope cl G2.objs.size s2 H2 fp) _ s9 σ7 H9 (.ref s2.heap.objs.size) [y] (.ref s2.heap.objs.size) [xv] (fun v H'=>∃m',m' < n∧W (i+1) m' σ7 H') I9 rfl (.cons r9 .nil) ⟨_,ys,y,rfl,rfl,hy,hlen,q9⟩) (fun _ s10 ⟨v,H10,I10,_,q10⟩=>wpAny_pure (wpAny_pure ⟨rfl,again' I10 q10⟩)) fun _ _ z=>z.elim)
 exact codeAny_compStart_list (loop _ rfl) (T.self _ 0 _ _ _ st3 (loop _ rfl))
theorem wj (O:eX X Nc js scope cl) (hc:X.calm=true) (hi:PI X tg iter wi) (hg:∀C s H fp,PG (bB X Nc scope cl C s H fp) tg g) (hif:∀C s H fp,jm (bB X Nc scope cl C s H fp) ifs tt) (he:∀C s H fp,PE (bB X Nc scope cl C s H fp) elt te)
  (hs:∀x,foldedSetIterable iter X.env x=pure x:=by intro _;rfl):PE X (.ListComp elt [⟨tg,iter,ifs,0⟩] scope pos) (mm wi g tt te js):=by
 intro aa s σ H Q I h
 rw [eval_ListComp]
 exact vO (use:=none) O hc hi hg hif he hs I h fun s5 H4 l C m f J5 fp hn q=>⟨m,hn,fun h' hs'=>⟨.ref l,H4,J5.turned (t':=s5.toks) (it:=C) (fun b o hb e=>hs'.extBut b o hb e) fp.1 fp.2.1 fp.2.2.2.1 fp.2.2.2.2.1 fp.2.2.2.2.2,rfl,q⟩⟩
theorem nz {i:Nat} {y:Str} {py spos:Pos} (O:eX X Nc js scope cl) (hc:X.calm=true) (hN:X.N.Nodup) (hi':X.N[i]?=some y) (hx:Loc X.env.scope y) (hi:PI X tg iter wi) (hg:∀C s H fp,PG (bB X Nc scope cl C s H fp) tg g) (hif:∀C s H fp,jm (bB X Nc scope cl C s H fp) ifs tt) (he:∀C s H fp,PE (bB X Nc scope cl C s H fp) elt te)
  (hs:∀x,foldedSetIterable iter X.env x=pure x) (hsw:swapsWith (.ListComp elt [⟨tg,iter,ifs,0⟩] scope pos) (some (.Name y py)) spos.line X.env=pure true) (hf:X.fn y=true∨X.env.scope.names.lookup y=some .local) :
  PS X (.Assign [.Name y py] (.ListComp elt [⟨tg,iter,ifs,0⟩] scope pos) spos) (nq (mm wi g tt te js) (pE i)):=by
 intro aa s σ H D I h
 rw [exec_Assign_Name_used _ _ _ _ hsw]
 refine wpAny_bind (wpAny_standAt (wpAny_bind ?_))
 show wpAny _ X.A (do let _ ←comprehension (.ListComp elt [⟨tg,iter,ifs,0⟩] scope pos) scope X.env _ (newList []) false (eval iter X.env) (some (assign (.Name y py) X.env))) _ _ s
 refine wpAny_bind (wpAny_mono (vO (use:=some (assign (.Name y py) X.env)) (Qf:=fun _ s'=>SP X aa D .next s') O hc hi hg hif he hs I h fun s5 H4 l C m f J5 fp hn q=>?_) (fun _ s' hq=>wpAny_pure (wpAny_pure hq)) fun _ _ e=>e)
 obtain ⟨o,es,ep,ho,rr⟩:=hn
 have J6:=J5.pinned (fp:=[C]) (fun b hb=>by rw [List.mem_singleton.mp hb];exact fp) fun b hb=>⟨o,by rw [List.mem_singleton.mp hb];exact ho,fun v z=>by rw [rr.1] at z;cases z⟩
 refine wpAny_assign_Name (kq J6 hN hi' hx (v:=.ref l) rfl (fun s6 I6=>?_) hf)
 have pc:=(I6.pin (C,o) (List.mem_append_right _ (List.mem_append_right _ (kI (List.mem_singleton.mpr rfl) ho)))).1
 exact ⟨m,⟨o,es,ep,pc,rr⟩,fun h' hs'=>⟨_,H4,I6.unpinned.turned (t':=s6.toks) (it:=C) (fun b o hb e=>hs'.extBut b o hb e) fp.1 fp.2.1 fp.2.2.2.1 fp.2.2.2.2.1 fp.2.2.2.2.2,q⟩⟩
noncomputable def jf (τ0 τ:aJ):Prop:=τ.length=τ0.length∧∀(i:Nat) d,τ0[i]?=some (some d)→τ[i]?=some (some d)
theorem aO.forget {K:PySem.W.Frag} {τ0 τ:aJ} {σ:St} {H:Hp} (h:aO K τ σ H) (f:jf τ0 τ):aO K τ0 σ H:=⟨f.1.symm.trans h.1,fun i d e=>h.2 i d (f.2 i d e)⟩
theorem aO.pick {K:PySem.W.Frag} {τ:aJ} {σ:St} {H:Hp} (h:aO K τ σ H) (js:List (Option Nat)):aO K (pick js τ) (DL.pick js σ) H:=by
 refine ⟨by unfold DL.pick;rw [List.length_map,List.length_map],fun i d e=>?_⟩
 obtain ⟨j,ej,ed⟩:=wI e
 obtain ⟨v,ev,iv⟩:=h.2 j d ed
 refine ⟨v,?_,iv⟩
 unfold DL.pick
 rw [List.getElem?_map,ej]
 simp [ev]
noncomputable def jr (ds:List D) (g:aV) (tt:bZ) (te:aD) (js:List (Option Nat)) (τ:aJ) (M:DH) (Q:KD):Prop:=ds.length≤1000000∧∃f:D→Option D,
 (∀d∈ds,∀p acc,M p=none→g d (pick js τ) (aj M p (.lst acc)) fun τ2 M2=>jf (pick js τ) τ2∧tt τ2 M2 fun b M3=>if b=true then te τ2 M3 fun y M4=>M4=aj M p (.lst acc)∧f d=some y else M3=aj M p (.lst acc)∧f d=none) ∧
 ∀p,M p=none→Q (.ref p) (aj M p (.lst (ds.filterMap f)))
noncomputable def Et (g:aV) (tt:bZ) (te:aD) (js:List (Option Nat)) (τ:aJ):D→DH→KD→Prop
 |.tup ds,M,Q=>jr ds g tt te js τ M Q
 |.rol ds,M,Q=>jr ds g tt te js τ M Q
 |.str z,M,Q=>jr (signs z) g tt te js τ M Q
 |.ref l,M,Q=>∃ds,M l=some (.lst ds)∧jr ds g tt te js τ M Q
 |_,_,_=>False
noncomputable def lD (ti:aD) (g:aV) (tt:bZ) (te:aD) (js:List (Option Nat)):aD:=fun τ M Q=>ti τ M fun x M1=>Et g tt te js τ x M1 Q
noncomputable def zN:bZ:=fun _ M Q=>Q true M
noncomputable def kf (X:Cx) (ifs:List Expr) (t:bZ):Prop:=(ifs=[]∧t=zN)∨∃c,ifs=[c]∧PT X c (cm X.K t)
theorem fu {K:PySem.W.Frag} {J:It} {ds:List D} {g:aV} {ttd:bZ} {ted:aD} {ttv:TT} {τ:aJ} {σ:St} {M:DH} {H H1:Hp} {Q':KD} {Q:VK} (hs:aO K τ σ H1) (e1:Ext K H H1) (m1:aw K M H1) (hq:cN K H Q' Q)
  (htt:∀σ H R,cm K ttd σ H R→ttv σ H R) (hgv:∀l M2 H2,aw K M2 H2→Ext K H1 H2→(∀a ds,M a=some (.lst ds)→M2 a=some (.lst ds))→H1 l=none→Gives K J ds H2) (h:jr ds g ttd ted js τ M Q') :
  ∀l,H1 l=none→∃W:Nat→Nat→St→Hp→Prop,(∃m,W 0 m (pick js σ) (upd H1 l (.lst [])))∧∀i m σ2 H2,W i m σ2 H2 →
   (J.stop i H2∧Q (.ref l) H2)∨(J.go i H2∧∀x H3,J.yld i H2 x H3→lowG K g x σ2 H3 fun σ4 H4=>ttv σ4 H4 fun b H5=>if b=true then low K ted σ4 H5 fun y H6=>∃ys,H6 l=some (.lst ys)∧ys.length < sizeLine∧∃m',m' < m∧W (i+1) m' σ4 (upd H6 l (.lst (ys++[y])))
    else ∃m',m' < m∧W (i+1) m' σ4 H5):=by
 obtain ⟨hz,f,turn,done⟩:=h
 intro l hl
 have hMl:M l=none:=m1.free hl
 refine ⟨fun i m σ2 H2=>m=ds.length-i∧i≤ds.length∧aO K (pick js τ) σ2 H2∧aw K (aj M l (.lst ((ds.take i).filterMap f))) H2∧Ext K H1 H2,⟨ds.length,by simp,Nat.zero_le _,(hs.pick js).mono (bP hl),m1.newL hl .nil,bP hl⟩,?_⟩
 rintro i m σ2 H2 ⟨rfl,hi,s2,m2,e2⟩
 have G:=hgv l _ H2 m2 e2 (fun a es ea=>by rw [ay (by intro z;subst z;rw [hMl] at ea;cases ea)];exact ea) hl
 by_cases hlt:i < ds.length
 ·refine .inr ⟨G.go i hlt,fun x H3 y=>?_⟩
  obtain ⟨rfl,d,ed,id⟩:=G.yld i x H3 hlt y
  have hd:d∈ds:=List.mem_of_getElem? ed
  have tk:(ds.take (i+1)).filterMap f=(ds.take i).filterMap f++(match f d with|some y=>[y]|none=>[]):=by
   rw [List.take_add_one,ed,List.filterMap_append]
   congr 1
   cases hfd:f d with
   |none=>simp [hfd]
   |some y=>simp [hfd]
  have hlen:((ds.take i).filterMap f).length < sizeLine:=by
   have h1:=List.length_filterMap_le f (ds.take i)
   have h2:(ds.take i).length≤ds.length:=by simp;(first|lia|omega)
   have h3:sizeLine=16777216:=sizeLine_eq
   (first|lia|omega)
  refine ⟨d,_,_,_,id,s2,m2,turn d hd l _ hMl,fun τ4 M4 σ4 H4 s4 m4 e4 zz0=>?_⟩
  obtain ⟨fg,q4⟩:=zz0
  refine htt _ _ _ ⟨τ4,M4,_,s4,m4,q4,fun b M5 H5 m5 e5 q5=>?_⟩
  cases b with
  |true =>
   rw [if_pos rfl] at q5 ⊢
   refine ⟨τ4,M5,_,s4.mono e5,m5,q5,fun y M6 v H6 m6 e6 i6 q6=>?_⟩
   obtain ⟨rfl,fy⟩:=q6
   obtain ⟨ys,hy,iy⟩:=m6 l _ ar
   refine ⟨ys,hy,by rw [iy.length];exact hlen,ds.length-(i+1),by first|lia|omega,rfl,hlt,?_⟩
   obtain ⟨m7,e7⟩:=m6.setL ar hy (iy.append (.cons i6 .nil))
   refine ⟨((s4.forget fg).mono (e5.trans e6)).mono e7,?_,e2.trans (e4.trans (e5.trans (e6.trans e7)))⟩
   rw [tk,fy]
   rw [gC] at m7
   exact m7
  |false =>
   rw [if_neg Bool.false_ne_true] at q5 ⊢
   obtain ⟨rfl,fy⟩:=q5
   refine ⟨ds.length-(i+1),by first|lia|omega,rfl,hlt,(s4.forget fg).mono e5,?_,e2.trans (e4.trans e5)⟩
   rw [tk,fy,List.append_nil]
   exact m5
 ·have e:i=ds.length:=by (first|lia|omega)
  subst e
  refine .inl ⟨G.stop,?_⟩
  have q:=done l hMl
  rw [List.take_length] at m2
  exact hq _ _ _ _ m2 (e1.trans e2) (.ref l) q
theorem jN {ti ted:aD} {gd:aV} {ttd:bZ} (O:eX X Nc js scope cl) (hc:X.calm=true) (hi:PE X iter (low X.K ti)) (hg:∀C s H fp,PG (bB X Nc scope cl C s H fp) tg (lowG X.K gd)) (hif:∀C s H fp,kf (bB X Nc scope cl C s H fp) ifs ttd) (he:∀C s H fp,PE (bB X Nc scope cl C s H fp) elt (low X.K ted))
  (hs:∀x,foldedSetIterable iter X.env x=pure x:=by intro _;rfl):PE X (.ListComp elt [⟨tg,iter,ifs,0⟩] scope pos) (low X.K (lD ti gd ttd ted js)):=by
 intro aa s0 σ0 H0 Q0 I0 hw
 obtain ⟨ttv,hif',htt⟩:∃ttv:TT,(∀C s H fp,jm (bB X Nc scope cl C s H fp) ifs ttv)∧∀σ H R,cm X.K ttd σ H R→ttv σ H R:=by
  rcases hif 0 s0 H0 [] with ⟨e1,e2⟩|⟨c,e1,_⟩
  ·subst e1 e2
   refine ⟨_,fun _ _ _ _=>.inl ⟨rfl,rfl⟩,fun σ H R zz0=>?_⟩
   obtain ⟨τ,M,Q',_,hm,h,hq⟩:=zz0
   exact hq true M H hm (Ext.refl H) h
  ·subst e1
   refine ⟨cm X.K ttd,fun C s H fp=>?_,fun σ H R h=>h⟩
   rcases hif C s H fp with ⟨e1,_⟩|⟨c',e1,h⟩
   ·cases e1
   ·cases e1
    exact .inr ⟨c,rfl,h⟩
 refine ((wj O hc (pG hi) hg hif' he hs).imp (t':=low X.K (lD ti gd ttd ted js)) fun σ H Q zz0=>?_) aa s0 σ0 H0 Q0 I0 hw
 obtain ⟨τ,M,Q',hs,hm,h,hq⟩:=zz0
 refine ⟨τ,M,_,hs,hm,h,fun x M1 v H1 m1 e1 i1 h1=>?_⟩
 cases i1 with
 |@tup a xs ds hx hxs=>exact .inl ⟨a,rfl,.inr ⟨⟨xs,hx⟩,fu (hs.mono e1) e1 m1 hq htt (fun l M2 H2 m2 e2 _ _=>pZ (e2.t _ _ hx) (hxs.mono e2)) h1⟩⟩
 |@rol a xs ds hx hxs=>exact .inl ⟨a,rfl,.inl ⟨⟨xs,hx.sq⟩,fu (hs.mono e1) e1 m1 hq htt (fun l M2 H2 m2 e2 _ _=>jj (e2.f _ _ hx).sq (hxs.mono e2)) h1⟩⟩
 |str z=>exact .inr ⟨z,rfl,fu (hs.mono e1) e1 m1 hq htt (fun l M2 H2 m2 e2 _ _=>oA z) h1⟩
 |ref l0 =>
  obtain ⟨ds,hl,w⟩:=h1
  obtain ⟨xs,hx,hxs⟩:=m1 l0 _ hl
  exact .inl ⟨l0,rfl,.inl ⟨⟨xs,bG.of hx⟩,fu (hs.mono e1) e1 m1 hq htt (fun l M2 H2 m2 e2 hk _=>let ⟨ys,hy,iy⟩:=m2.lst (hk l0 ds hl);jj hy iy) w⟩⟩
 |_=>exact h1.elim
end
end DL
namespace DL
open PySem PySem.Spec PyProof.Rows L2
section
variable {X:Cx} {e a b c tg:Expr} {pos:Pos} {ta tb te:aD} {tc:bZ}
noncomputable def zQ (te:aD):aD:=fun τ M Q=>te τ M fun x M1=>wV x fun i=>Q (.int (-i)) M1
theorem FA (h:PE X a (low X.K ta)):PE X (.UnaryOp .USub a pos) (low X.K (zQ ta)) :=
 L2.PE.imp (Ak EA h) fun σ H Q ⟨τ,M,Q',hs,hm,h,hq⟩=>⟨τ,M,_,hs,hm,h,fun x M1 v H1 m1 e1 i1 h1=>by
  cases i1 with
  |int i=>exact ⟨i,rfl,hq _ M1 _ H1 m1 e1 (.int _) h1⟩
  |_=>exact h1.elim⟩
theorem one_sign {i : Str} {k : Nat} (h : i.cps.toList = [k]) : i = ⟨#[k]⟩ := by
  cases i with
  | mk cps => have : cps = #[k] := by rw [← Array.toArray_toList (xs := cps), h]
              rw [this]
theorem wA {K:PySem.W.Frag} {H:Hp}:∀{vs:List V} {us:List Value} {ns:List Int},az K H vs (ns.map D.int)→Vals vs us→IntsAre us ns
 |_,_,[],.nil,.nil=>.nil
 |_,_,n::ns,.cons i t,.cons r t'=>by
  (first|cases i.inv|cases i)
  obtain ⟨tk,rfl⟩:=r
  exact .cons n tk (wA t t')
theorem mq {i j:Nat}:∀ds τ M Q,gj (hName i) (gj (hName j) lJ) ds τ M Q→ds.length=2:=fun ds τ M Q h=>by
 match ds,h with
 |[],h=>exact h.elim
 |[_],h=>exact h.elim
 |[_,_],h=>rfl
 |_::_::_::_,h=>exact h.elim
theorem df:bootBuiltins "len" = some (.builtin "len"):=by decide +kernel
theorem AN:bootBuiltins "max" = some (.builtin "max"):=by decide +kernel
theorem wL:bootBuiltins "isinstance" = some (.builtin "isinstance"):=by decide +kernel
theorem wg:bootBuiltins "int" = some (.type "int"):=by decide +kernel
theorem hV:bootBuiltins "tuple" = some (.type "tuple"):=by decide +kernel
theorem qr:bootBuiltins "list" = some (.type "list"):=by decide +kernel
noncomputable def Bv:D→D→DH→KD→Prop
 |.int i,.int j,M,Q=>nh i j∧Q (.int (i*j)) M
 |.str z,.int n,M,Q=>(z.length≤100000∧0≤n∧n≤100)∧Q (.str (Txt.mul z n)) M
 |_,_,_,_=>False
theorem j6:cx X (binaryOp .Mult) Bv:=by
 rintro aa s σ H vx vy v u Q I rx ry ⟨x,y,M,Q',ix,iy,hm,q,hq⟩
 cases ix with
 |int i=>cases iy with
  |int j=>exact y4 aa s σ H _ _ v u Q I rx ry ⟨_,_,rfl,rfl,q.1,hq.here hm (.int _) q.2⟩
  |_=>exact q.elim
 |str z=>cases iy with
  |int n =>
   obtain ⟨⟨h1,h2,h3⟩,q⟩:=q
   obtain ⟨t,rfl⟩:=rx
   obtain ⟨t',rfl⟩:=ry
   have hz:z.length*n.toNat≤100000*100:=Nat.mul_le_mul h1 (by first|lia|omega)
   refine SB.mul ⟨?_,fun h4 _=>?_,fun _ _=>?_⟩ fun t2 k=>⟨.str _,H,I.tok k,⟨_,rfl⟩,hq.here hm (.str _) q⟩
   ·have e1:decide (n < -(2 ^ 63:Int))=false:=decide_eq_false (by first|lia|omega)
    have e2:decide (n ≥ 2 ^ 63)=false:=decide_eq_false (by first|lia|omega)
    rw [e1,e2];rfl
   ·have h5:(100:Int)*92233720368547758≤(2 ^ 63-1):=by decide
    have h6:(92233720368547758:Int)≤(2 ^ 63-1) / n:=by
     rw [Int.le_ediv_iff_mul_le (by first|lia|omega)]
     calc (92233720368547758:Int)*n≤92233720368547758*100:=Int.mul_le_mul_of_nonneg_left h3 (by decide)
      _≤_:=by decide
    (first|lia|omega)
   ·unfold Builtin.Str.tooLong
    simp only [decide_eq_false_iff_not]
    have h3:sizeLine=16777216:=sizeLine_eq
    (first|lia|omega)
  |_=>exact q.elim
 |_=>first|exact q.elim|(cases iy<;>exact q.elim)
end
end DL
namespace DL
open PySem PySem.Spec PyProof.Rows L2
section
variable {X:Cx} {tg:Expr} {g:aV} {tb:aF} {pos:Pos}
end
end DL
namespace DL
open PySem PySem.Spec PyProof.Rows L2
noncomputable def eY (cells:List (Str×Addr)):List (Str×NameKind)→List (Str×Addr)→List (Str×Addr)
 |[],acc=>acc
 |(n,k)::r,acc=>eY cells r (if k ==.free then (n,(cells.lookup n).getD 0)::acc else acc)
theorem vZ {env:Env}:∀(names:List (Str×NameKind)) (acc:List (Str×Addr)),(∀y∈names,y.2=.free→∃c,env.cells.lookup y.1=some c) →
  (forIn (m:=Sem) names acc fun x cs=>if x.2 ==NameKind.free then do let c ←cellOf env x.1;pure (ForInStep.yield ((x.1,c)::cs)) else pure (ForInStep.yield cs))=pure (eY env.cells names acc)
 |[],acc,_=>rfl
 |(n,k)::r,acc,h=>by
  rw [List.forIn_cons]
  have ih:=fun acc'=>vZ (env:=env) r acc' fun y hy=>h y (List.mem_cons_of_mem _ hy)
  by_cases hk:(k ==NameKind.free)=true
  ·obtain ⟨c,hc⟩:=h (n,k) List.mem_cons_self (by simpa using hk)
   have hc':env.cells.lookup n=some c:=hc
   have e1:cellOf env n=pure c:=by unfold cellOf;rw [hc']
   simp only [hk,if_true,e1,pure_bind,ih]
   rw [eY,if_pos hk,hc']
   rfl
  ·have hk':(k ==NameKind.free)=false:=by simpa using hk
   simp only [hk',Bool.false_eq_true,if_false,pure_bind,ih]
   rw [eY,if_neg (by simp [hk'])]
theorem Ib {env:Env} {scope:Scope} (h:∀y∈scope.names,y.2=.free→∃c,env.cells.lookup y.1=some c):closureFor scope env=pure (eY env.cells scope.names []):=by
 have z:=vZ (env:=env) scope.names [] h
 simp only [closureFor]
 first
  |exact z
  |(simp only [bind_pure];exact z)
  |(rw [z];rfl)
theorem tu {cells:List (Str×Addr)}:∀(names:List (Str×NameKind)) (acc:List (Str×Addr)) (p:Str×Addr),(∀y∈names,y.2=.free→∃c,cells.lookup y.1=some c)→p∈eY cells names acc→p∈acc∨cells.lookup p.1=some p.2
 |[],acc,p,_,h=>.inl h
 |(n,k)::r,acc,p,hf,h=>by
  rw [eY] at h
  rcases tu r _ p (fun y hy=>hf y (List.mem_cons_of_mem _ hy)) h with h|h
  ·by_cases hk:(k ==NameKind.free)=true
   ·rw [if_pos hk] at h
    rcases List.mem_cons.mp h with rfl|h
    ·obtain ⟨c,hc⟩:=hf (n,k) List.mem_cons_self (by simpa using hk)
     have hc':cells.lookup n=some c:=hc
     exact .inr (by show cells.lookup n=some ((cells.lookup n).getD 0);rw [hc'];rfl)
    ·exact .inl h
   ·rw [if_neg hk] at h;exact .inl h
  ·exact .inr h
theorem rb {cells:List (Str×Addr)} {x:Str}:∀(names:List (Str×NameKind)) (acc:List (Str×Addr)),(x,NameKind.free)∈names∨(acc.lookup x).isSome=true→((eY cells names acc).lookup x).isSome=true
 |[],acc,h=>h.elim (fun h=>(nomatch h)) id
 |(n,k)::r,acc,h=>by
  rw [eY]
  refine rb r _ ?_
  by_cases hk:(k ==NameKind.free)=true
  ·rw [if_pos hk]
   by_cases hx:(x ==n)=true
   ·exact .inr (by rw [List.lookup_cons,hx];rfl)
   ·have hx':(x ==n)=false:=by simpa using hx
    rcases h with h|h
    ·rcases List.mem_cons.mp h with h|h
     ·cases h;simp at hx
     ·exact .inl h
    ·exact .inr (by rw [List.lookup_cons,hx'];exact h)
  ·rw [if_neg hk]
   rcases h with h|h
   ·rcases List.mem_cons.mp h with h|h
    ·cases h;simp at hk
    ·exact .inl h
   ·exact .inr h
theorem xp {env:Env} (hk:env.scope.kind=.function):∀{names:List (Str×NameKind)} {x:Str},names.lookup x=some .free→env.kindOf x=some .cell →
  (names.map fun (n,k)=>if (k ==NameKind.free && env.scope.kind ==.function && env.kindOf n ==some .cell) then (n,NameKind.cell) else (n,k)).lookup x=some .cell
 |[],_,h,_=>by simp at h
 |(n,k)::r,x,h,hx=>by
  have ih:=@xp env hk r x
  show List.lookup x ((if (k ==NameKind.free && env.scope.kind ==.function && env.kindOf n ==some .cell)=true then (n,NameKind.cell) else (n,k))::_)=_
  cases e:x ==n with
  |true =>
   simp only [List.lookup_cons,e] at h
   cases h
   have en:x=n:=by simpa using e
   subst en
   rw [if_pos (by simp [hk,hx])]
   simp [List.lookup_cons]
  |false =>
   simp only [List.lookup_cons,e] at h
   by_cases hc:(k ==NameKind.free && env.scope.kind ==.function && env.kindOf n ==some .cell)=true
   ·rw [if_pos hc];simp only [List.lookup_cons,e];exact ih h hx
   ·rw [if_neg hc];simp only [List.lookup_cons,e];exact ih h hx
noncomputable def kM (N:List Str) (ns:List (Str×NameKind)):List (Option Nat)→List Str→Bool
 |none::js,_::Nc=>kM N ns js Nc
 |some j::js,x::Nc=>decide (N[j]?=some x) && decide (ns.lookup x=some .free) && kM N ns js Nc
 |[],[]=>true
 |_,_=>false
theorem pM {N:List Str} {ns:List (Str×NameKind)}:∀{js:List (Option Nat)} {Nc:List Str},kM N ns js Nc=true→js.length=Nc.length
 |[],[],_=>rfl
 |[],_::_,h=>cj h
 |none::_,[],h=>cj h
 |some _::_,[],h=>cj h
 |none::js,_::Nc,h=>congrArg (·+1) (pM (js:=js) (Nc:=Nc) h)
 |some j::js,x::Nc,h=>congrArg (·+1) (pM (js:=js) (Nc:=Nc) (Bool.and_eq_true_iff.mp h).2)
theorem qv {N:List Str} {ns:List (Str×NameKind)}:∀{js:List (Option Nat)} {Nc:List Str} {i j:Nat} {x:Str},kM N ns js Nc=true→js[i]?=some (some j)→Nc[i]?=some x→N[j]?=some x∧ns.lookup x=some .free
 |[],_,_,_,_,_,e,_=>(nomatch e)
 |_::_,[],_,_,_,_,_,e=>(nomatch e)
 |none::js,_::Nc,0,_,_,_,e,_=>(nomatch e)
 |none::js,_::Nc,i+1,j,x,h,e1,e2=>qv (js:=js) (Nc:=Nc) (i:=i) h e1 e2
 |some j'::js,y::Nc,0,j,x,h,e1,e2=>by
  cases e1
  cases e2
  have h:=Bool.and_eq_true_iff.mp (Bool.and_eq_true_iff.mp h).1
  exact ⟨of_decide_eq_true h.1,of_decide_eq_true h.2⟩
 |some j'::js,y::Nc,i+1,j,x,h,e1,e2=>by
  exact qv (js:=js) (Nc:=Nc) (i:=i) (Bool.and_eq_true_iff.mp h).2 e1 e2
section
variable {X:Cx}
theorem dN {Nc:List Str} {js:List (Option Nat)} {scope:Scope} {n:Nat} (N:List Str) (ns:List (Str×NameKind)) (hN:X.N=N) (hS:X.env.scope.names=ns) (hE:X.env.cells=cellsFrom n X.env.scope.names []) (hK:X.env.scope.kind=.function)
  (hfr:∀y∈scope.names,y.2=.free→ns.lookup y.1=some .cell) (hc:∀y∈scope.names,y.2≠.cell) (hn:∀y∈scope.names,y.2=.local→scope.names.lookup y.1=some .local)
  (hk:scope.kind=.function) (hj:kM N scope.names js Nc=true):eX X Nc js scope (eY X.env.cells scope.names []):=by
 have hcell:∀y∈scope.names,y.2=.free→∃c,X.env.cells.lookup y.1=some c:=fun y hy hf=>by
  rw [hE,hS];exact L2.nH (sc:={ X.env.scope with names:=ns }) (hfr y hy hf)
 refine ⟨hk,Ib hcell,hc,hn,fun p hp=>?_,?_,pM hj,fun i j x e1 e2=>?_⟩
 ·rcases tu _ _ p hcell hp with h|h
  ·cases h
  ·exact h
 ·unfold relabel
  rw [List.all_map,List.all_eq_true]
  rintro ⟨y,k⟩ hp
  by_cases hf:k=.free
  ·subst hf
   have z:=rb (cells:=X.env.cells) (x:=y) scope.names [] (.inl hp)
   simp only [Function.comp]
   split<;>(rw [z];simp)
  ·have h1:(k ==NameKind.free)=false:=by simpa using hf
   have h2:k≠.cell:=hc _ hp
   simp [h1,h2,hf]
 ·obtain ⟨h1,h2⟩:=qv hj e1 e2
  have hx:X.env.kindOf x=some .cell:=by
   show X.env.scope.names.lookup x=_
   rw [hS];exact hfr (x,.free) (PySem.mem_of_lookup h2) rfl
  exact ⟨by rw [hN];exact h1,.inl hx,.inl (xp hK h2 hx),rfl⟩
end
end DL
namespace DL
open PySem PySem.Spec PyProof.Rows L2
noncomputable def gP:Key→D
 |.inl i=>.int i
 |.inr x=>.str x
noncomputable def keyOf:D→Option Key
 |.int i=>some (.inl i)
 |.str x=>some (.inr x)
 |_=>none
noncomputable def ba (ae:List (Key×D)) (k:Key):Option D:=(ae.find? fun kv=>decide (kv.1=k)).map (·.2)
noncomputable def putD (ae:List (Key×D)) (k:Key) (d:D):List (Key×D) :=
 if (ae.any fun kv=>decide (kv.1=k))=true then ae.map (fun kv=>if kv.1=k then (kv.1,d) else kv) else ae++[(k,d)]
theorem yR {k:Key}:ba [] k=none:=rfl
theorem fP {p:Key×D} {r:List (Key×D)} {k:Key} (e:p.1=k):ba (p::r) k=some p.2:=by simp [ba,List.find?_cons,e]
theorem fS {p:Key×D} {r:List (Key×D)} {k:Key} (e:¬p.1=k):ba (p::r) k=ba r k:=by simp [ba,List.find?_cons,e]
theorem g8 (k:Key):∀ae:List (Key×D),(ae.any fun kv=>decide (kv.1=k))=(ba ae k).isSome
 |[]=>rfl
 |p::r=>by
  rw [List.any_cons]
  by_cases e:p.1=k
  ·rw [fP e,decide_eq_true e];rfl
  ·rw [fS e,decide_eq_false e,Bool.false_or];exact g8 k r
theorem m9 {ae:List (Key×D)} {k:Key} (d:D) (h:ba ae k=none):putD ae k d=ae++[(k,d)]:=by
 unfold putD;rw [g8,h];exact if_neg (by decide)
theorem BB {ae:List (Key×D)} {k:Key} (d:D) (h:(ba ae k).isSome=true):putD ae k d=ae.map fun kv=>if kv.1=k then (kv.1,d) else kv:=by
 unfold putD;rw [g8,h];exact if_pos rfl
theorem om (k j:Key) (d:D):∀ae:List (Key×D),ba ae k=none→ba (ae++[(k,d)]) j=if j=k then some d else ba ae j
 |[],_=>by
  by_cases e:k=j
  ·rw [if_pos e.symm];exact fP (p:=(k,d)) e
  ·rw [if_neg (fun z=>e z.symm)];exact fS (p:=(k,d)) e
 |p::r,hn=>by
  rw [List.cons_append]
  have hk:¬p.1=k:=fun z=>by rw [fP z] at hn;cases hn
  rw [fS hk] at hn
  have ih:=om k j d r hn
  by_cases e:p.1=j
  ·rw [fP e,fP e,if_neg (fun z=>hk (e.trans z))]
  ·rw [fS e,fS e,ih]
noncomputable abbrev dh (K:PySem.W.Frag) (H:Hp):List (Key×V)→List (Key×D)→Prop:=Paired fun (p:Key×V) (q:Key×D)=>p.1=q.1∧Is K H p.2 q.2
section
variable {K:PySem.W.Frag} {M:DH} {H H':Hp} {kx:List (Key×V)} {ae:List (Key×D)} {k:Key} {p:Addr}
theorem key_is {v:V} {d:D} (i:Is K H v d) (e:keyOf d=some k):v=kV k:=by
 cases i with
 |int j=>cases e;rfl
 |str x=>cases e;rfl
 |_=>cases e
theorem p7 (r:dh K H kx ae) {d:D} (e:ba ae k=some d):∃v,dw kx k=some v∧Is K H v d:=by
 induction r with
 |nil=>rw [yR] at e;cases e
 |@cons a b as bs h t ih =>
  by_cases hk:b.1=k
  ·rw [fP hk] at e
   cases e
   exact ⟨a.2,lz (h.1.trans hk),h.2⟩
  ·rw [fS hk] at e
   obtain ⟨v,h1,h2⟩:=ih e
   exact ⟨v,by rw [jV fun z=>hk (h.1.symm.trans z)];exact h1,h2⟩
theorem qY (r:dh K H kx ae) (e:ba ae k=none):dw kx k=none:=by
 induction r with
 |nil=>rfl
 |@cons a b as bs h t ih =>
  have hk:¬b.1=k:=fun z=>by rw [fP z] at e;cases e
  rw [fS hk] at e
  rw [jV fun z=>hk (h.1.symm.trans z)]
  exact ih e
theorem qA (r:dh K H kx ae):(dw kx k).isSome=(ba ae k).isSome:=by
 cases e:ba ae k with
 |none=>rw [qY r e];rfl
 |some d=>obtain ⟨v,h1,_⟩:=p7 r e;rw [h1];rfl
theorem qe (r:dh K H kx ae):kx.length=ae.length:=Paired.length r
theorem Ar (e:fG K H H') (r:dh K H kx ae):dh K H' kx ae:=r.impP fun _ _ ⟨r1,r2⟩=>⟨r1,r2.mono0 e⟩
theorem uj (e:Ext K H H') (r:dh K H kx ae):dh K H' kx ae:=r.impP fun _ _ ⟨r1,r2⟩=>⟨r1,r2.mono e⟩
theorem Bx (r:dh K H kx ae) {v:V} {d:D} (i:Is K H v d):dh K H (putK kx k v) (putD ae k d):=by
 have e:(kx.any fun kv=>decide (kv.1=k))=ae.any fun kv=>decide (kv.1=k):=by rw [pd,g8,qA r]
 unfold putK putD
 rw [e]
 by_cases q:(ae.any fun kv=>decide (kv.1=k))=true
 ·rw [if_pos q,if_pos q]
  clear e q
  induction r with
  |nil=>exact .nil
  |@cons a b as bs h t ih =>
   rw [List.map_cons,List.map_cons]
   refine .cons ?_ ih
   by_cases z:b.1=k
   ·rw [if_pos z,if_pos (h.1.trans z)];exact ⟨h.1,i⟩
   ·rw [if_neg z,if_neg fun y=>z (h.1.symm.trans y)];exact h
 ·rw [if_neg q,if_neg q];exact Paired.snoc r ⟨rfl,i⟩
noncomputable abbrev dP (M:DH) (a:Addr) (ae:List (Key×D)):Prop:=M a=some (.dic ae)∨M a=some (.fdc ae)
theorem aw.dic {ae:List (Key×D)} {a:Addr} (h:aw K M H) (e:dP M a ae):∃kx,Rd H a (.dK kx)∧dh K H kx ae:=by
 rcases e with e|e
 ·obtain ⟨kx,h1,h2⟩:=h a _ e;exact ⟨kx,.inl h1,h2⟩
 ·obtain ⟨o,kx,h1,h2⟩:=h a _ e;exact ⟨kx,.inr ⟨o,h1⟩,h2⟩
theorem aw.newK (h:aw K M H) (e:H p=none):aw K (aj M p (.dic [])) (upd H p (.dK [])):=h.newM e (show ff K _ p (.dic []) from ⟨[],bV,.nil⟩)
theorem aw.setK {es:List (Key×D)} {ys:List (Key×V)} (h:aw K M H) (hx:H p=some (.dK kx)) (hy:dh K H ys es):aw K (aj M p (.dic es)) (upd H p (.dK ys))∧Ext K H (upd H p (.dK ys)):=by
 have ex:Ext K H (upd H p (.dK ys)):=iH (fun zs s=>by rcases s with s|⟨u,s⟩<;>rw [hx] at s<;>cases s) (fun u xs s=>by rw [hx] at s;cases s)
 refine ⟨fun a u q=>?_,ex⟩
 by_cases z:a=p
 ·subst z;rw [ar] at q;cases q;exact ⟨ys,bV,uj ex hy⟩
 ·rw [ay z] at q
  exact (h a u q).mono ex.e0 (fun v w=>by rw [aK z];exact w) (fun dx w=>by rw [aK (fY w hx (by intro k;cases k))];exact w)
end
section
variable {X:Cx} {e a b c o f:Expr} {es:List Expr} {pos apos aA:Pos} {ta tb tc te td ty tx:aD} {n:Nat}
noncomputable def GS:aD:=fun _ M Q=>∀p,M p=none→Q (.ref p) (aj M p (.dic []))
theorem fq:PE X (.Dict [] [] pos) (low X.K GS) :=
 FE.imp fun σ H Q ⟨τ,M,Q',hs,hm,h,hq⟩ p hp=>hq _ _ _ _ (hm.newK hp) (bP hp) (.ref p) (h p (hm.free hp))
noncomputable def D.flat:D→Bool
 |.non=>true
 |.bl _=>true
 |.int _=>true
 |.str _=>true
 |_=>false
theorem nZ {K:PySem.W.Frag} {H:Hp} {v:V} {d:D} (i:Is K H v d) (h:D.flat d=true):dH v=true:=by
 cases i<;>first|rfl|(cases h;done)
theorem oz {K:PySem.W.Frag} {H:Hp}:∀{ds:List D} {vs:List V},az K H vs ds→ds.all D.flat=true→vs.all dH=true
 |[],_,i,_=>by cases i;rfl
 |_::_,_,i,h=>by
  cases i with
  |cons i t =>
   rw [List.all_cons,Bool.and_eq_true] at h
   rw [List.all_cons,nZ i h.1,oz t h.2]
   rfl
theorem B5 {K:PySem.W.Frag} {H:Hp} {v v':V} {d d':D} (i:Is K H v d) (i':Is K H v' d') (h:D.flat d=true) (h':D.flat d'=true):eQ v v'=D.eq d d' :=
 (oU i i' (by cases d<;>cases d'<;>first|rfl|(cases h;done)|(cases h';done)) (by cases d<;>first|rfl|(cases h;done))).2.2
theorem qg {K:PySem.W.Frag} {H:Hp} {v:V} {d:D} (i:Is K H v d) (h:D.flat d=true):∀{vs:List V} {ds:List D},az K H vs ds→ds.all D.flat=true→mZ v vs=ds.any fun y=>D.eq y d
 |_,_,.nil,_=>rfl
 |_,_,.cons j t,hh=>by
  rw [List.all_cons,Bool.and_eq_true] at hh
  have ih:=qg i h t hh.2
  unfold mZ at ih ⊢
  rw [List.any_cons,List.any_cons,ih,B5 j i hh.1 h]
noncomputable def jZ (neg:Bool):D→D→DH→KD→Prop
 |.str i,.str j,M,Q=>∃k,i.cps.toList=[k]∧Q (.bl (if neg then !decide (k∈j.cps.toList) else decide (k∈j.cps.toList))) M
 |d,.ref l,M,Q=>(∃k ae,keyOf d=some k∧dP M l ae∧Q (.bl (if neg then !(ba ae k).isSome else (ba ae k).isSome)) M) ∨
   ∃xs,M l=some (.lst xs)∧D.flat d=true∧xs.all D.flat=true∧Q (.bl (if neg then !(xs.any fun y=>D.eq y d) else xs.any fun y=>D.eq y d)) M
 |_,_,_,_=>False
theorem sr {neg:Bool} {x:D} {l:Addr} {M:DH} {Q:KD} (h:jZ neg x (.ref l) M Q):(∃k ae,keyOf x=some k∧dP M l ae∧Q (.bl (if neg then !(ba ae k).isSome else (ba ae k).isSome)) M) ∨
   ∃xs,M l=some (.lst xs)∧D.flat x=true∧xs.all D.flat=true∧Q (.bl (if neg then !(xs.any fun y=>D.eq y x) else xs.any fun y=>D.eq y x)) M:=by
 cases x<;>exact h
theorem tQ {neg:Bool} {x:D} {j:Str} {M:DH} {Q:KD} (h:jZ neg x (.str j) M Q):∃i k,x=.str i∧i.cps.toList=[k]∧Q (.bl (if neg then !decide (k∈j.cps.toList) else decide (k∈j.cps.toList))) M:=by
 cases x with
 |str i=>obtain ⟨k,h1,h2⟩:=h;exact ⟨i,k,rfl,h1,h2⟩
 |_=>exact h.elim
theorem qO {b:Bool} {x y:D} {M:DH} {Q:KD} (q:jZ b x y M Q) (h1:∀j,y≠.str j) (h2:∀l,y≠.ref l):False:=by
 cases y with
 |str j=>exact h1 _ rfl
 |ref l=>exact h2 _ rfl
 |_=>cases x<;>exact q
theorem Dj (hr:aW n X.A):cx X (compareOp .In) (jZ false):=by
 rintro aa s σ H vx vy v u Q I rx ry ⟨x,y,M,Q',ix,iy,hm,q,hq⟩
 cases iy with
 |str j =>
  obtain ⟨i,k,rfl,hk,q⟩:=tQ q
  (first|cases ix.inv|cases ix)
  refine yC aa s σ H _ _ v u Q I rx ry ⟨_,_,rfl,rfl,?_⟩
  rw [one_sign hk,PySem.StrLaws.found_one]
  exact hq.here hm (.bl _) (by simpa using q)
 |ref l =>
  cases ry
  rcases sr q with ⟨k,ae,hk,hl,q⟩|⟨xs,hl,h1,h2,q⟩
  ·obtain ⟨kx,hx,hp⟩:=hm.dic hl
   have hv:=key_is ix hk
   subst hv
   refine zm (kQ hr) I (.inl ⟨kx,k,hx,rfl,rfl⟩) rx fun s' I'=>⟨.bl _,H,I',rfl,?_⟩
   rw [qA hp]
   exact hq.here hm (.bl _) q
  ·obtain ⟨ys,hy,iy⟩:=hm.lst hl
   refine C1 aa s σ H _ (.ref l) v _ Q I rx rfl ⟨l,ys,rfl,.inl hy,nZ ix h1,oz iy h2,?_⟩
   rw [qg ix h1 iy h2]
   exact hq.here hm (.bl _) q
 |_=>exact (qO q (fun _ z=>D.noConfusion z) fun _ z=>D.noConfusion z).elim
theorem ou (hr:aW n X.A):cx X (compareOp .NotIn) (jZ true):=by
 rintro aa s σ H vx vy v u Q I rx ry ⟨x,y,M,Q',ix,iy,hm,q,hq⟩
 cases iy with
 |str j =>
  obtain ⟨i,k,rfl,hk,q⟩:=tQ q
  (first|cases ix.inv|cases ix)
  refine ET aa s σ H _ _ v u Q I rx ry ⟨_,_,rfl,rfl,?_⟩
  rw [one_sign hk,PySem.StrLaws.found_one]
  exact hq.here hm (.bl _) (by simpa using q)
 |ref l =>
  cases ry
  rcases sr q with ⟨k,ae,hk,hl,q⟩|⟨xs,hl,h1,h2,q⟩
  ·obtain ⟨kx,hx,hp⟩:=hm.dic hl
   have hv:=key_is ix hk
   subst hv
   refine Gw (kQ hr) I (.inl ⟨kx,k,hx,rfl,rfl⟩) rx fun s' I'=>⟨.bl _,H,I',rfl,?_⟩
   rw [qA hp]
   exact hq.here hm (.bl _) q
  ·obtain ⟨ys,hy,iy⟩:=hm.lst hl
   refine xq aa s σ H _ (.ref l) v _ Q I rx rfl ⟨l,ys,rfl,.inl hy,nZ ix h1,oz iy h2,?_⟩
   rw [qg ix h1 iy h2]
   exact hq.here hm (.bl _) q
 |_=>exact (qO q (fun _ z=>D.noConfusion z) fun _ z=>D.noConfusion z).elim
noncomputable def GV:D→D→DH→KD→Prop
 |.ref l,y,M,Q=>∃k ae d,keyOf y=some k∧dP M l ae∧ba ae k=some d∧Q d M
 |_,_,_,_=>False
theorem iJ (hr:aW n X.A) (ha:PE X a (low X.K ta)) (hb:PE X b (low X.K tb)) (hs:kX b:=by intro _ _;rfl):PE X (.Subscript a b pos) (low X.K (dF GV ta tb)) :=
 (ER (kQ hr) ha hb hs).imp fun σ H Q ⟨τ,M,Q',hs,hm,h,hq⟩ =>
  ⟨τ,M,_,hs,hm,h,fun x M1 vx H1 m1 e1 i1 h1=>⟨τ,M1,_,hs.mono e1,m1,h1,fun y M2 vy H2 m2 e2 i2 h2=>by
   cases i1 with
   |ref l =>
    obtain ⟨k,ae,d,hk,hl,hd,q⟩:=h2
    obtain ⟨kx,hx,hp⟩:=m2.dic hl
    obtain ⟨v,hv,iv⟩:=p7 hp hd
    have hy:=key_is i2 hk
    subst hy
    exact ⟨l,v,rfl,.inl ⟨kx,k,hx,rfl,hv.symm⟩,hq d M2 v H2 m2 (e1.trans e2) iv q⟩
   |_=>exact h2.elim⟩⟩
noncomputable def Fz:D→D→D→DH→(DH→Prop)→Prop
 |.ref l,y,d,M,Q=>∃k ae,keyOf y=some k∧M l=some (.dic ae)∧ae.length < sizeLine∧Q (aj M l (.dic (putD ae k d)))
 |_,_,_,_,_=>False
noncomputable def C9 (to ti:aD):aV:=fun d τ M Q=>to τ M fun x M1=>ti τ M1 fun y M2=>Fz x y d M2 fun M3=>Q τ M3
noncomputable def Fu:km:=fun x y v H R=>∃l H',x=.ref l∧kG H l y v H'∧R H'
theorem set_dict (hr:aW n X.A):nX X Fu:=by
 rintro aa s σ H o i v ov iv u Q I ro ri rv ⟨l,H',e,g,q⟩
 subst e
 cases ro
 exact Hn (kQ hr) I g ri rv fun s' I'=>⟨H',I',q⟩
theorem eU {i:Expr} {to ti:aD} (hr:aW n X.A) (ho:PE X o (low X.K to)) (hi:PE X i (low X.K ti))
  (ha:∀v,assign (.Subscript o i pos) X.env v=(do
   let ov ←holding [v] (eval o X.env)
   let iv ←holding [v,ov] (eval i X.env)
   standAt pos
   holding [v,ov,iv] (setItem ov iv v)
   release [v,ov,iv] []):=by intro _;rfl):PG X (.Subscript o i pos) (lowG X.K (C9 to ti)) :=
 (rZ ho hi (set_dict hr) ha).imp fun v σ H Q ⟨d,τ,M,Q',i,hs,hm,h,hq⟩ =>
  ⟨τ,M,_,hs,hm,h,fun x M1 vx H1 m1 e1 i1 h1=>⟨τ,M1,_,hs.mono e1,m1,h1,fun y M2 vy H2 m2 e2 i2 h2=>by
   cases i1 with
   |ref l =>
    obtain ⟨k,ae,hk,hl,hz,q⟩:=h2
    obtain ⟨kx,hx,hp⟩:=m2 l _ hl
    have hy:=key_is i2 hk
    subst hy
    have e12:=e1.trans e2
    obtain ⟨m3,e3⟩:=m2.setK hx (Bx (k:=k) hp (i.mono e12))
    exact ⟨l,_,rfl,kG.k (k:=k) hx (by rw [qe hp];exact hz),hq τ _ σ _ (hs.mono (e12.trans e3)) m3 (e12.trans e3) q⟩
   |_=>exact h2.elim⟩⟩
noncomputable def Aj:D→DH→Prop
 |.ref l,M=>∃ae,dP M l ae
 |_,_=>False
noncomputable def Gk:D→D→D→DH→KD→Prop
 |.ref l,y,z,M,Q=>∃k ae,keyOf y=some k∧dP M l ae∧Q ((ba ae k).getD z) M
 |_,_,_,_,_=>False
noncomputable def DY (td ty tx:aD):aD:=fun τ M Q=>td τ M fun x M1=>Aj x M1∧ty τ M1 fun y M2=>tx τ M2 fun z M3=>Gk x y z M3 Q
theorem sX (hr:aW n X.A) (ho:PE X o (low X.K td)) (he:PE X e (low X.K ty)) (hf:PE X f (low X.K tx)) (m:M2 X o "get" apos e f aA:=by exact ⟨rfl,rfl,rfl,rfl⟩):PE X (.Call (.Attribute o "get" apos) [e,f] [] aA) (low X.K (DY td ty tx)) :=
 (Cu (kQ hr) ho he hf m).imp fun σ H Q ⟨τ,M,Q',hs,hm,h,hq⟩ =>
  ⟨τ,M,_,hs,hm,h,fun x M1 vx H1 m1 e1 i1 ⟨h0,h1⟩=>by
   cases i1 with
   |ref l =>
    obtain ⟨ae,hl⟩:=h0
    obtain ⟨kx,hx,hp⟩:=m1.dic hl
    refine ⟨l,rfl,.inl ⟨kx,hx⟩,τ,M1,_,hs.mono e1,m1,h1,fun y M2 vy H2 m2 e2 i2 h2=>⟨τ,M2,_,hs.mono (e1.trans e2),m2,h2,fun z M3 vz H3 m3 e3 i3 h3=>?_⟩⟩
    obtain ⟨k,kvs',hk,hl',q⟩:=h3
    obtain ⟨kx',hx',hp'⟩:=m3.dic hl'
    have hy:=key_is i2 hk
    subst hy
    refine ⟨dw kx' k,.inl ⟨kx',k,hx',rfl,rfl⟩,hq _ M3 _ H3 m3 (e1.trans (e2.trans e3)) ?_ q⟩
    cases ev:ba kvs' k with
    |none=>rw [qY hp' ev];exact i3
    |some d=>obtain ⟨v,h4,h5⟩:=p7 hp' ev;rw [h4];exact h5
   |_=>exact h0.elim⟩
noncomputable def xM:List D→DH→KD→Prop
 |[.ref l],M,Q=>∃ae,dP M l ae∧Q (.int ae.length) M
 |_,_,_=>False
theorem Ck:fT X (.builtin "len") xM:=by
 rintro aa s σ H vs us Q I r ⟨ds,M,Q',iss,hm,q,hq⟩
 match ds,q,iss with
 |[.ref l],q,iss =>
  obtain ⟨v,rfl,i⟩:=cc iss
  (first|cases i.inv|cases i)
  obtain ⟨ae,hl,q⟩:=q
  obtain ⟨kx,hx,hp⟩:=hm.dic hl
  obtain ⟨u,rfl,rx⟩:=vals1 r
  cases rx
  exact BF I hx fun t s' I'=>⟨.int kx.length,H,I',⟨t,rfl⟩,hq.here hm (.int _) (by rw [qe hp];exact q)⟩
noncomputable def y3:List D→DH→KD→Prop
 |[.ref l],M,Q=>∃ae,dP M l ae∧∀p,M p=none→Q (.ref p) (aj M p (.lst (ae.map fun kv=>gP kv.1)))
 |_,_,_=>False
theorem w5:∀{xs:List V} {us:List Value},us.length=xs.length→(∀(j:Nat) x u,xs[j]?=some x→us[j]?=some u→RelV x u)→Vals xs us
 |[],[],_,_=>.nil
 |[],_::_,h,_=>by simp at h
 |_::_,[],h,_=>by simp at h
 |x::xs,u::us,h,r=>.cons (r 0 x u rfl rfl) (w5 (by simpa using h) fun j y w e1 e2=>r (j+1) y w (by simpa using e1) (by simpa using e2))
theorem qJ {K:PySem.W.Frag} {H H':Hp}:∀{kx:List (Key×V)} {ae:List (Key×D)},dh K H kx ae→az K H' (kx.map fun kv=>kV kv.1) (ae.map fun kv=>gP kv.1)
 |_,_,.nil=>.nil
 |(k,v)::_,(k',d)::_,.cons h t=>by
  have e:k=k':=h.1
  subst e
  refine .cons ?_ (qJ t)
  cases k with
  |inl i=>exact .int i
  |inr x=>exact .str x
theorem pJ (hc:X.calm=true):fT X (.type "list") y3:=by
 rintro aa s σ H vs us Q I r ⟨ds,M,Q',iss,hm,q,hq⟩
 match ds,q,iss with
 |[.ref l],q,iss =>
  obtain ⟨v,rfl,i⟩:=cc iss
  (first|cases i.inv|cases i)
  obtain ⟨ae,hl,q⟩:=q
  obtain ⟨kx,hx,hp⟩:=hm.dic hl
  obtain ⟨u,rfl,rx⟩:=vals1 r
  cases rx
  obtain ⟨z,hd,vs,rel,dd⟩:=fV I.ao hx
  obtain ⟨ep,hat⟩:=dd.dictAt
  have hf:H s.heap.objs.size=none:=I.fresh
  refine PySem.W.kdl_call (PySem.W.kdl_dict hd) (I.ok.hd hc) hat (by rw [←rel.length];exact z) fun h' tk acc' c' kp e hacc=>?_
  have hv:Vals (kx.map fun kv=>kV kv.1) acc'.toList:=by
   refine w5 (by rw [Array.length_toList,hacc.1,List.length_map,rel.length]) fun j x w e1 e2=>?_
   obtain ⟨k,y,h1,h2⟩:=hacc.2 j w (by rw [←Array.getElem?_toList];exact e2)
   rw [List.getElem?_map] at e1
   cases e3:kx[j]? with
   |none=>rw [e3] at e1;cases e1
   |some pr =>
    rw [e3] at e1
    cases e1
    have e4:(kx.map (·.1))[j]?=some pr.1:=by rw [List.getElem?_map,e3];rfl
    rw [rel.keys,List.getElem?_map,h1] at e4
    have e5:k=pr.1:=Option.some.inj e4
    subst e5
    show RelV (kV pr.1) w
    rcases eA h2 with ⟨i,t,e6,rfl⟩|⟨i,t,e6,rfl⟩
    ·rw [e6];exact ⟨t,rfl⟩
    ·rw [e6];exact ⟨t,rfl⟩
  refine ⟨.ref s.heap.objs.size,_,I.laid (t':=tk) kp (Nat.le_refl _) (show bS X.prog X.w _ h' _ (.lst (kx.map fun kv=>kV kv.1)) from ⟨by rw [List.length_map];exact z,acc'.toList,c',hv,by rw [Array.toArray_toList];exact e⟩),rfl,?_⟩
  exact hq _ _ _ _ (hm.newL hf (qJ hp)) (bP hf) (.ref _) (q _ (hm.free hf))
end
end DL
namespace DL
open PySem PySem.Spec PyProof.Rows L2
section
variable {prog:Program} {w:World} {A:Around} {E:Value→Shared→Prop} {z:Shared}
theorem gY {j u:Addr} {i:Nat} {ys:Array Value} {x:Value} {Q:Value→Shared→Prop} (hj:z.heap.IsTupleIter j u i) (hu:z.heap.IsTuple u ys) (hx:ys[i]?=some x)
  (hQ:∀g,g.IsTupleIter j u (i+1)→Heap.SameBut j z.heap g→Q x { z with heap:=g }):wpAny (model prog w) A (Builtin.SmallTypes.nextOf (.ref j)) Q E z:=by
 obtain ⟨o,ho,hc,hd⟩:=id hj
 obtain ⟨o2,ho2,_,n2,hd2⟩:=hu
 unfold Builtin.SmallTypes.nextOf
 refine wpAny_bind (wpAny_callSpecial?_slot (name:=Str.ofString "__next__") hj.typeIs PySem.F.slot_tuple_iterator_next (wpAny_call_entry PySem.F.slot_tuple_iterator_next hj.typeIs PySem.F.entry_tuple_iterator_next ?_ (PySem.F.args_tuple_iterator_next_1 _)))
 show wpAny _ _ (field (.ref j) 0 >>=_) _ _ z
 refine wpAny_bind (wpAny_field ho hd (x:=.ref u) rfl ?_)
 show wpAny _ _ (if (Value.ref u ==Value.none)=true then _ else _) _ _ z
 rw [if_neg (show ¬((Value.ref u ==Value.none)=true) from Bool.false_ne_true)]
 show wpAny _ _ (field (.ref j) 1 >>=_) _ _ z
 refine wpAny_bind (wpAny_field ho hd (x:=.int i 0) rfl ?_);show wpAny _ _ (seqItems? (.ref u) >>=_) _ _ z
 refine wpAny_bind (wpAny_seqItems ho2 hd2 ?_)
 simp only [Int.toNat_natCast,hx]
 refine wpAny_bind (wpAny_setField ho hd (by simp) (wpAny_pure ⟨x,rfl,wpAny_pure (hQ _ ⟨_,Heap.get?_update_self _ ho (Obj.isFreed_of_fields (Obj.data_mapFields hd _)),(Obj.cls_mapFields ..).trans hc,?_⟩ (Heap.SameBut.update ..))⟩))
 rw [Obj.data_mapFields hd];simp [rawInt]
theorem ky {j u:Addr} {i:Nat} {ys:Array Value} {Q:Value→Shared→Prop} (hh:A.handled=none) (hj:z.heap.IsTupleIter j u i) (hu:z.heap.IsTuple u ys) (hx:ys[i]?=none)
  (hE:∀g e,Heap.ExtBut j z.heap g→(∃o,g.get? e=some o∧o.cls=.type "StopIteration")→E (.ref e) { z with heap:=g }):wpAny (model prog w) A (Builtin.SmallTypes.nextOf (.ref j)) Q E z:=by
 obtain ⟨o,ho,hc,hd⟩:=id hj
 obtain ⟨o2,ho2,_,n2,hd2⟩:=hu
 unfold Builtin.SmallTypes.nextOf
 refine wpAny_bind (wpAny_callSpecial?_slot (name:=Str.ofString "__next__") hj.typeIs PySem.F.slot_tuple_iterator_next (wpAny_call_entry PySem.F.slot_tuple_iterator_next hj.typeIs PySem.F.entry_tuple_iterator_next ?_ (PySem.F.args_tuple_iterator_next_1 _)))
 show wpAny _ _ (field (.ref j) 0 >>=_) _ _ z
 refine wpAny_bind (wpAny_field ho hd (x:=.ref u) rfl ?_)
 show wpAny _ _ (if (Value.ref u ==Value.none)=true then _ else _) _ _ z
 rw [if_neg (show ¬((Value.ref u ==Value.none)=true) from Bool.false_ne_true)]
 show wpAny _ _ (field (.ref j) 1 >>=_) _ _ z
 refine wpAny_bind (wpAny_field ho hd (x:=.int i 0) rfl ?_);show wpAny _ _ (seqItems? (.ref u) >>=_) _ _ z
 refine wpAny_bind (wpAny_seqItems ho2 hd2 ?_)
 simp only [Int.toNat_natCast,hx]
 refine wpAny_bind (wpAny_rule (wpAny_bind (wpAny_setField ho hd (by simp) ?_)));show wpAny _ _ (newExc (.type "StopIteration") [] >>=_) _ _ _
 refine wpAny_bind ?_;simp only [newExc,newTuple]
 refine wpAny_bind (wpAny_newObj_type ?_ (by size_fits));refine wpAny_bind (m:=firstArgMember _ _) (wpAny_of_eq (a:=Value.none) (by first|rfl|(simp only [firstArgMember];rfl)) ?_)
 refine wpAny_newObj_type ?_ (by size_fits);simp only [raiseNew];refine wpAny_bind (wpAny_handled ?_)
 first|rw [show A.in1.handled=none from hh];skip|rw [hh];skip
 refine wpAny_bind (wpAny_pure (wpAny_throw (hE _ _ (((Heap.SameBut.update ..).extBut.push _).push _) ⟨_,Heap.get?_push_size _ rfl,rfl⟩)))
noncomputable def fE:Bool→Heap→Addr→Array Value→Prop
 |true,h,a,ys=>h.IsTuple a ys
 |false,h,a,ys=>h.IsList a ys
noncomputable def fk:Bool→Heap→Addr→Addr→Nat→Prop
 |true,h,j,a,i=>h.IsTupleIter j a i
 |false,h,j,a,i=>h.IsListIter j a i
noncomputable def gc (K:PySem.W.Frag) (H:Hp) (a:Addr) (xs:List V):Bool→Prop
 |true=>aZ K H a xs
 |false=>bG K H a xs
theorem fk.keep {b:Bool} {h h':Heap} {j a:Addr} {i:Nat} (x:fk b h j a i) (k:∀o,h.get? j=some o→h'.get? j=some o):fk b h' j a i:=by
 cases b with
 |true=>obtain ⟨o,e,r⟩:=x;exact ⟨o,k o e,r⟩
 |false=>obtain ⟨o,e,r⟩:=x;exact ⟨o,k o e,r⟩
theorem fk.obj {b:Bool} {h:Heap} {j a:Addr} {i:Nat} (x:fk b h j a i):∃o,h.get? j=some o∧∃vs,o.data=.fields vs:=by
 cases b with
 |true=>obtain ⟨o,e,_,d⟩:=x;exact ⟨o,e,_,d⟩
 |false=>obtain ⟨o,e,_,d⟩:=x;exact ⟨o,e,_,d⟩
theorem fE.keep {b:Bool} {h h':Heap} {a:Addr} {ys:Array Value} (x:fE b h a ys) (k:∀o,h.get? a=some o→h'.get? a=some o):fE b h' a ys:=by
 cases b with
 |true=>obtain ⟨o,e,r⟩:=x;exact ⟨o,k o e,r⟩
 |false=>obtain ⟨o,e,r⟩:=x;exact ⟨o,k o e,r⟩
theorem fE.obj {b:Bool} {h:Heap} {a:Addr} {ys:Array Value} (x:fE b h a ys):∃o,h.get? a=some o∧∃n,o.data=.seq ys n:=by
 cases b with
 |true=>obtain ⟨o,e,_,n,d⟩:=x;exact ⟨o,e,n,d⟩
 |false=>obtain ⟨o,e,_,n,d⟩:=x;exact ⟨o,e,n,d⟩
theorem ub (b:Bool) (hh:A.handled=none) (j a:Addr) (hne:a≠j) (ys:Array Value):Draws prog w A j [j,a] ys.size (fun i v=>ys[i]?=some v) (fun i h=>fk b h j a i∧fE b h a ys) where
 live:=fun _ _ st=>let ⟨o,e,_⟩:=st.1.obj;⟨o,e⟩
 frame:=fun _ _ _ st k=>⟨st.1.keep fun o e=>k j (by simp) o e,st.2.keep fun o e=>k a (by simp) o e⟩
 item:=fun i s Q E hi st hQ=>by
  have hx:ys[i]?=some ys[i]:=by simp [hi]
  cases b with
  |true=>exact gY st.1 st.2 hx fun g hg hs=>hQ _ g s.toks hx ⟨hg,fE.keep (b:=true) st.2 fun o e=>(hs.2 a hne).trans e⟩ hs
  |false=>exact wpAny_nextOf_list_item st.1 st.2 hx fun g hg hs=>hQ _ g s.toks hx ⟨hg,fE.keep (b:=false) st.2 fun o e=>(hs.2 a hne).trans e⟩ hs
 done:=fun s Q E st hE=>by
  cases b with
  |true=>exact ky hh st.1 st.2 (by simp) hE
  |false=>exact wpAny_nextOf_list_end hh st.1 st.2 (by simp) hE
theorem wN {it:Addr} {fp:List Addr} {n:Nat} {P:Nat→Value→Prop} {St:Nat→Heap→Prop} (D:Draws prog w A it fp n P St) (c:Nat):Draws prog w A it fp (n+c) (fun i v=>P (i-c) v) (fun i h=>c≤i∧St (i-c) h) where
 live:=fun i h st=>D.live _ h st.2
 frame:=fun i h h' st k=>⟨st.1,D.frame _ h h' st.2 k⟩
 item:=fun i s Q E hi st hQ=>D.item (i-c) s Q E (by first|lia|omega) st.2 fun x h' tk p st' sb=>hQ x h' tk p ⟨by first|lia|omega,by rw [show i+1-c=i-c+1 by first|lia|omega];exact st'⟩ sb
 done:=fun s Q E st hE=>D.done s Q E (by have z:=st.2;rw [Nat.add_sub_cancel] at z;exact z) hE
theorem GN (l:Addr) (ys:Array Value) (n:Nat) (dx:Option Addr) (sx:Array (Option Value)) :
  Meets (Builtin.«enumerate.__new__» ⟨[.type "enumerate",.ref l],[]⟩) (fun _ R s=>s.heap.get? l=some { cls:=.type "tuple",dict:=dx,data:=.seq ys n,slots:=sx } ∧
   R (.ok (.ret (.ref (s.heap.push { cls:=.type "tuple_iterator",data:=.fields #[.ref l,.int 0 0] }).objs.size)))
    { s with heap:=(s.heap.push { cls:=.type "tuple_iterator",data:=.fields #[.ref l,.int 0 0] }).push { cls:=.type "enumerate",data:=.fields #[.none,.bool false,.ref s.heap.objs.size,rawInt 0,.none,.none] } }) :=
 .of_wp fun prog w A R s h=>by
  obtain ⟨hp,g,d,tk,os⟩:=s
  obtain ⟨hl,h⟩:=h
  have hsub:=sub_enumerate
  have hT:Heap.IsTuple (Shared.heap ⟨hp,g,d,tk,os⟩) l ys:=⟨_,hl,rfl,n,rfl⟩
  wp_walk using AutoSeq1.wpAny_loadPart' hl
  refine wpAny_stack_any fun st=>wpAny_pure ?_;split
  ·rename_i c _ _ _ _ _
   cases (c ==Value.type "enumerate")
   ·wp_walk using AutoSeq1.wpAny_loadPart' hl,wpAny_pyIter_tuple hT
    exact ⟨_,rfl,h⟩
   ·wp_walk using AutoSeq1.wpAny_loadPart' hl,wpAny_pyIter_tuple hT
    exact ⟨_,rfl,h⟩
  ·wp_walk using AutoSeq1.wpAny_loadPart' hl,wpAny_pyIter_tuple hT
   exact ⟨_,rfl,h⟩
theorem A9 {b:Bool} {l:Addr} {ys:Array Value} {Q:Value→Shared→Prop} (hL:fE b z.heap l ys)
  (h:∀g,IsEnum g (z.heap.objs.size+1) z.heap.objs.size 0 .none→fk b g z.heap.objs.size l 0→(∀b o,z.heap.get? b=some o→g.get? b=some o)→Q (.ref (z.heap.objs.size+1)) { z with heap:=g }) :
  wpAny (model prog w) A (call (.type "enumerate") [.ref l]) Q E z:=by
 cases b with
 |false=>exact call_enumerate_list hL fun g h1 h2 _ h4=>h g h1 h2 h4
 |true =>
  obtain ⟨⟨c,dx,dt,sx⟩,hl,hc,n,hd⟩:=hL
  replace hc:c=.type "tuple" :=hc
  replace hd:dt=.seq ys n:=hd
  subst hc hd
  refine callType_new PySem.F.called_enumerate (by decide) (PySem.F.typeCall_enumerate_1 _) (PySem.F.newCall_enumerate_1 _) (fun obj=>PySem.F.args_object_init_2 obj _) PySem.F.entry_enumerate_new (GN l ys n dx sx) ⟨hl,?_⟩
  have hz:(z.heap.push { cls:=.type "tuple_iterator",data:=.fields #[.ref l,.int 0 0] }).objs.size=z.heap.objs.size+1:=Heap.size_push ..
  show _∧_
  rw [hz]
  have he:IsEnum ((z.heap.push { cls:=.type "tuple_iterator",data:=.fields #[.ref l,.int 0 0] }).push { cls:=.type "enumerate",data:=.fields #[.none,.bool false,.ref z.heap.objs.size,rawInt 0,.none,.none] }) (z.heap.objs.size+1) z.heap.objs.size 0 .none:=by
   have q:=Heap.get?_push_size (z.heap.push { cls:=.type "tuple_iterator",data:=.fields #[.ref l,.int 0 0] }) (o:={ cls:=.type "enumerate",data:=.fields #[.none,.bool false,.ref z.heap.objs.size,rawInt 0,.none,.none] }) rfl
   rw [hz] at q
   exact q
  exact ⟨⟨_,he,rfl⟩,h _ he (show Heap.IsTupleIter _ _ _ _ from ⟨_,Heap.get?_push_of_some _ (Heap.get?_push_size _ rfl),rfl,rfl⟩) fun b o x=>Heap.get?_push_of_some _ (Heap.get?_push_of_some _ x)⟩
end
noncomputable def jx (K:PySem.W.Frag) (b:Bool) (c:Nat) (a:Addr):It :=
 ⟨fun i H=>∃xs x,gc K H a xs b∧xs[i]?=some x,fun i H x H'=>∃T,H T=none∧x=.ref T∧∀xs,gc K H a xs b→∃y,xs[i]?=some y∧H'=upd H T (.tup [.int ((c+i:Nat):Int),y]),fun i H=>∃xs,gc K H a xs b∧xs.length=i⟩
theorem o8 {X:Cx} {aa:List (Addr×Obj)} {σ:St} {H:Hp} {s:Shared} {b:Bool} {a:Addr} {xs:List V} (I:Inv X aa σ H s) (h:gc X.K H a xs b):∃ai,Vals xs ai∧fE b s.heap a ai.toArray:=by
 cases b with
 |true=>obtain ⟨ai,r,p,_⟩:=I.tuple h;exact ⟨ai,r,p⟩
 |false=>obtain ⟨ai,r,p,_⟩:=I.list h;exact ⟨ai,r,p.isList⟩
theorem zt {X:Cx} {aa:List (Addr×Obj)} {σ:St} {H:Hp} {s:Shared} {b:Bool} {a:Addr} {xs ys:List V} (I:Inv X aa σ H s) (h:gc X.K H a xs b) (h':gc X.K H a ys b):xs=ys:=by
 cases b with
 |true=>exact I.tuple_inj h h'
 |false=>exact I.list_inj h h'
theorem rM {P:Program} {w:World} {K:PySem.W.Frag} {elts:List Expr} {k:Nat} {tpos:Pos} (b:Bool) (c:Nat) (a e j:Addr) (hej:e≠j):Turn P w K (.Tuple elts k tpos) (jx K b c a) [e,j] e (fun i h=>(∃old,IsEnum h e j ((i+c:Nat):Int) old)∧fk b h j a i) where
 mem:=by simp
 obj:=fun i h st x hx=>by
  obtain ⟨⟨old,he⟩,hi⟩:=st
  rcases List.mem_cons.mp hx with rfl|hx
  ·exact ⟨_,he,fun v z=>by
    have z':Data.fields _=Data.cell v:=z
    cases z'⟩
  ·cases List.mem_singleton.mp hx
   obtain ⟨o,e1,vs,e2⟩:=hi.obj
   exact ⟨o,e1,fun v z=>by rw [e2] at z;cases z⟩
 keep:=fun i h h' st kp=>⟨let ⟨old,he⟩:=st.1;⟨old,kp e (by simp) _ he⟩,st.2.keep fun o q=>kp j (by simp) o q⟩
 item:=by
  intro X hP hw hK hc i aa s σ H E I hf st hg
  subst hP hw hK
  obtain ⟨xs,x,hq,hx⟩:=hg
  obtain ⟨ai,rv,p⟩:=o8 I hq
  obtain ⟨u,hu,ru⟩:=rv.get hx
  obtain ⟨⟨old,he⟩,hi⟩:=st
  obtain ⟨f0,f1,f2,f3,f4,f5⟩:=hf e (by simp)
  obtain ⟨g0,g1,g2,g3,g4,g5⟩:=hf j (by simp)
  obtain ⟨oa,ha1,na,ha2⟩:=p.obj
  have hea:e≠a:=fun z=>by
   subst z
   have he':=Option.some.inj (ha1.symm.trans he)
   subst he'
   cases ha2
  have haj:a≠j:=fun z=>by
   subst z
   obtain ⟨o,e1,vs,e2⟩:=hi.obj
   rw [ha1] at e1
   cases e1
   rw [ha2] at e2
   cases e2
  have hlt:i < ai.toArray.size:=by
   rw [List.size_toArray]
   exact (List.getElem?_eq_some_iff.mp hu).1
  refine wpAny_pyNext_enum_itemD (wN (ub (A:=X.A.in1) b (I.ok.hd hc) j a haj ai.toArray) c) he ⟨Nat.le_add_left _ _,by rw [Nat.add_sub_cancel];exact ⟨hi,p⟩⟩ (by first|lia|omega) hej (by simp [hej,hea]) fun y h1 tk hy ho hst hT hsz hk=>?_
  rw [Nat.add_sub_cancel] at hy
  have hyu:y=u:=by
   have:ai.toArray[i]?=some u:=by simpa using hu
   rw [this] at hy
   exact (Option.some.inj hy).symm
  subst hyu
  refine ⟨_,rfl,wpAny_letOwnedTupleGo_enum (s:={ s with heap:=h1,toks:=tk+1 }) ho fun h2 he2 hs2=>?_⟩
  have hi2:fk b h1 j a (i+1):=by have z:=hst.2.1;rw [show i+c+1-c=i+1 by first|lia|omega] at z;exact z
  have hj2:fk b h2 j a (i+1):=hi2.keep fun o q=>(hs2.2 j (Ne.symm hej)).trans q
  obtain ⟨oj,hoj,vj,dj⟩:=hj2.obj
  obtain ⟨oj0,hoj0,vj0,dj0⟩:=hi.obj
  have he':h2.get? e=some { cls:=.type "enumerate",dict:=none,data:=.fields #[.none,.bool false,.ref j,rawInt (((i+c:Nat):Int)+1),.none,y],slots:=#[] }:=he2
  let oe:Obj:={ cls:=.type "enumerate",dict:=none,data:=.fields #[.none,.bool false,.ref j,rawInt (((i+c:Nat):Int)+1),.none,y],slots:=#[] }
  have s1:Heap.SameBut e s.heap (s.heap.update e fun _=>oe):=Heap.SameBut.update ..
  have s2:Heap.SameBut j (s.heap.update e fun _=>oe) ((s.heap.update e fun _=>oe).update j fun _=>oj):=Heap.SameBut.update ..
  have q1:(s.heap.update e fun _=>oe).get? e=some oe:=Heap.get?_update_self _ he (Obj.isFreed_of_fields rfl)
  have q2:((s.heap.update e fun _=>oe).update j fun _=>oj).get? j=some oj:=Heap.get?_update_self _ ((s1.2 j (Ne.symm hej)).trans hoj0) (Obj.isFreed_of_fields dj)
  have I1:Inv X aa σ H { s with heap:=s.heap.update e fun _=>oe,toks:=s.toks }:=I.turned (fun b o hb q=>(s1.2 b hb).trans q) f0 f1 f3 f4 f5
  have I2:Inv X aa σ H { s with heap:=(s.heap.update e fun _=>oe).update j fun _=>oj,toks:=s.toks }:=I1.turned (fun b o hb q=>(s2.2 b hb).trans q) g0 g1 g3 g4 g5
  have hT2:h2.get? s.heap.objs.size=some { cls:=.type "tuple",data:=.seq #[.int ((i+c:Nat):Int) tk,y] }:=(hs2.2 _ (Nat.ne_of_gt (Heap.lt_size he))).trans hT
  have I3:Inv X aa σ (upd H s.heap.objs.size (.tup [.int ((c+i:Nat):Int),x])) { s with heap:=h2,toks:=tk+1 }:=by
   refine I2.laid (t':=tk+1) (fun b o q=>?_) (by show _≤_;rw [s2.1,s1.1];exact Nat.le_refl _) (show bS X.prog X.w _ h2 _ (.tup [.int ((c+i:Nat):Int),x]) from ⟨by show 2≤sizeLine;decide,[.int ((i+c:Nat):Int) tk,y],.cons ⟨tk,by rw [Nat.add_comm]⟩ (.cons ru .nil),_,hT2,rfl,_,rfl⟩)
   by_cases hbj:b=j
   ·subst hbj
    rw [q2] at q
    cases q
    exact hoj
   ·rw [s2.2 b hbj] at q
    by_cases hbe:b=e
    ·subst hbe
     rw [q1] at q
     cases q
     exact he'
    ·rw [s1.2 b hbe] at q
     exact (hs2.2 b hbe).trans (hk b o hbe hbj q)
  have hfr:H s.heap.objs.size=none:=I.fresh
  refine ⟨.ref s.heap.objs.size,_,I3,rfl,⟨_,hfr,rfl,fun ys hy=>⟨x,by rw [zt I hy hq];exact hx,rfl⟩⟩,⟨⟨y,?_⟩,hj2⟩,fun b hb=>?_⟩
  ·have en:((i+1+c:Nat):Int)=((i+c:Nat):Int)+1:=by (first|lia|omega)
   rw [en]
   exact he2
  ·rcases List.mem_cons.mp hb with rfl|hb
   ·rw [aK (Nat.ne_of_lt (Heap.lt_size he))];exact f0
   ·cases List.mem_singleton.mp hb
    rw [aK (Nat.ne_of_lt (Heap.lt_size hoj0))];exact g0
 done:=by
  intro X hP hw hK hc i aa s σ H E I hf st hg
  subst hP hw hK
  obtain ⟨xs,hq,hx⟩:=hg
  subst hx
  obtain ⟨ai,rv,p⟩:=o8 I hq
  obtain ⟨⟨old,he⟩,hi⟩:=st
  obtain ⟨g0,g1,g2,g3,g4,g5⟩:=hf j (by simp)
  obtain ⟨oa,ha1,na,ha2⟩:=p.obj
  have haj:a≠j:=fun z=>by
   subst z
   obtain ⟨o,e1,vs,e2⟩:=hi.obj
   rw [ha1] at e1
   cases e1
   rw [ha2] at e2
   cases e2
  have hn:ai.toArray.size=xs.length:=by rw [List.size_toArray,rv.length]
  exact wpAny_pyNext_enum_endD (wN (ub (A:=X.A.in1) b (I.ok.hd hc) j a haj ai.toArray) c) he ⟨Nat.le_add_left _ _,by rw [Nat.add_sub_cancel,hn];exact ⟨hi,p⟩⟩ fun h' eb=>⟨rfl,I.turned (t':=s.toks) (fun b o hb q=>eb b o hb q) g0 g1 g3 g4 g5⟩
 self:=fun A i s Q E st h=>by
  obtain ⟨⟨old,he⟩,_⟩:=st
  exact wpAny_pyIter_enum he h
section
variable {X:Cx} {elts:List Expr} {k:Nat} {tpos pos:Pos} {g:aV} {tb:aF}
noncomputable def Gf (K:PySem.W.Frag) (ta:TA):TI:=fun σ H R=>ta σ H fun vs H1=>∃a b,vs=[.ref a]∧(∃xs,gc K H1 a xs b)∧R (jx K b 0 a) H1
theorem Dl {a:Expr} {ta:TA} {p aA:Pos} (hg:Gl X "enumerate") (hm:X.mg "enumerate" = none) (ha:PA X [a] ta) (hs:starEach [a] X.env=[(false,eval a X.env)]:=by rfl):PI X (.Tuple elts k tpos) (.Call (.Name "enumerate" p) [a] [] aA) (Gf X.K ta):=by
 intro aa s σ H R I h
 refine Call_ (fj I hg hm boot_enumerate (PyProof.Rows.callWith_type1 (aC (ha aA aa s σ H _ I h) fun us s1 zz0=>?_) hs rfl))
 obtain ⟨vs,H1,I1,r1,q1⟩:=zz0
 obtain ⟨l,b,e,⟨xs,hq⟩,q⟩:=q1
 subst e
 cases r1 with
 |cons r rr =>
  cases rr
  cases r
  obtain ⟨ai,rv,p⟩:=o8 I1 hq
  refine A9 p fun g he hi hk=>wpAny_pyIter_enum (s:={ s1 with heap:=g }) he ?_
  refine ⟨s1.heap.objs.size+1,[s1.heap.objs.size+1,s1.heap.objs.size],_,_,H1,rfl,I1.kept (t':=s1.toks) hk,rM b 0 l _ _ (Nat.succ_ne_self _),⟨⟨_,by simpa using he⟩,hi⟩,fun x hx=>?_,q⟩
  rcases List.mem_cons.mp hx with rfl|hx
  ·exact I1.fpOk (Nat.le_succ _) (I1.ao.fresh (Nat.le_succ _))
  ·cases List.mem_singleton.mp hx
   exact I1.fpOk (Nat.le_refl _) (I1.ao.fresh (Nat.le_refl _))
noncomputable def dY:Nat→List D→List D
 |_,[]=>[]
 |c,d::ds=>.tup [.int (c:Int),d]::dY (c+1) ds
theorem eZ:∀(ds:List D) (c:Nat),(dY c ds).length=ds.length
 |[],_=>rfl
 |d::ds,c=>by rw [dY,List.length_cons,eZ ds (c+1),List.length_cons]
theorem jB:∀{ds:List D} {c i:Nat} {d:D},ds[i]?=some d→(dY c ds)[i]?=some (.tup [.int ((c+i:Nat):Int),d])
 |[],_,_,_,e=>by simp at e
 |d::ds,c,0,_,e=>by simp at e;subst e;rfl
 |d::ds,c,i+1,_,e=>by
  have:=jB (ds:=ds) (c:=c+1) (i:=i) (by simpa using e)
  rw [dY,List.getElem?_cons_succ,this,show c+1+i=c+(i+1) by first|lia|omega]
noncomputable def D1 (c:Nat) (g:aV) (tb:aF) (E:cp) (τ:aJ):List D→DH→Prop
 |[.tup ds],M=>dE (dY c ds) (fun _=>True) g tb E τ M
 |[.ref l],M=>∃ds,M l=some (.lst ds)∧dE (dY c ds) (fun M=>M l=some (.lst ds)) g tb E τ M
 |_,_=>False
noncomputable def A6 (c:Nat) (ta:br) (g:aV) (tb:aF):aF:=fun E τ M=>ta τ M fun vs M1=>D1 c g tb E τ vs M1
theorem pK {K:PySem.W.Frag} {b:Bool} {c:Nat} {a:Addr} {ds:List D} {st:DH→Prop} {D':cp} {E:Ends} {τ:aJ} {σ:St} {M:DH} {H H1:Hp} (hd:dR K H D' E) (e1:Ext K H H1) (s1:aO K τ σ H1) (m1:aw K M H1)
  (hg:∀M2 H2,aw K M2 H2→Ext K H1 H2→st M2→∃xs,gc K H2 a xs b∧az K H2 xs ds) (h:dE (dY c ds) st g tb D' τ M) :
  ∃W:Nat→Nat→St→Hp→Prop,(∃m,W 0 m σ H1)∧∀i m σ H,W i m σ H →
   ((jx K b c a).stop i H∧E.nx σ H)∨((jx K b c a).go i H∧∃N:St→Hp→Prop,(∀σ' H',N σ' H'→∃m',m' < m∧W (i+1) m' σ' H')∧∀x H',(jx K b c a).yld i H x H'→lowG K g x σ H' fun σ2 H2=>aR K tb { E with nx:=N,ct:=N,bk:=E.nx } σ2 H2):=by
 obtain ⟨W,w0,stay,turn,done⟩:=h
 rw [eZ] at done
 refine ⟨fun i m σ2 H2=>m=ds.length-i∧i≤ds.length∧∃τ2 M2,aO K τ2 σ2 H2∧aw K M2 H2∧Ext K H1 H2∧W i τ2 M2,⟨ds.length,by simp,Nat.zero_le _,τ,M,s1,m1,Ext.refl H1,w0⟩,?_⟩
 rintro i m σ2 H2 ⟨rfl,hi,τ2,M2,s2,m2,e2,w2⟩
 obtain ⟨xs,hq,iss⟩:=hg M2 H2 m2 e2 (stay i τ2 M2 (by rw [eZ];exact hi) w2)
 by_cases hlt:i < ds.length
 ·obtain ⟨v,ev,iv⟩:=iss.get (List.getElem?_eq_getElem hlt)
  refine .inr ⟨⟨xs,v,hq,ev⟩,fun σ3 H3=>∃τ3 M3,aO K τ3 σ3 H3∧aw K M3 H3∧Ext K H1 H3∧W (i+1) τ3 M3,fun σ3 H3 p=>⟨ds.length-(i+1),by first|lia|omega,rfl,hlt,p⟩,fun x H' y=>?_⟩
  obtain ⟨T,hT,rfl,hall⟩:=y
  obtain ⟨y,ey,rfl⟩:=hall xs hq
  rw [ev] at ey
  cases ey
  exact lC (hd.ext e1) (e2.trans (bP hT)) (.tup (aZ.of bV) (.cons (.int _) (.cons (iv.mono (bP hT)) .nil))) (s2.mono (bP hT)) (m2.new hT) (turn i _ τ2 M2 (jB (List.getElem?_eq_getElem hlt)) w2)
 ·have e:i=ds.length:=by (first|lia|omega)
  subst e
  exact .inl ⟨⟨xs,hq,iss.length⟩,hd.nx τ2 M2 σ2 H2 s2 m2 (e1.trans e2) (done τ2 M2 w2)⟩
theorem BV {a:Expr} {ta:br} {body:List Stmt} {p aA:Pos} (hp:PassesOwn (model X.prog X.w) X.A X.env X.xe) (hc:X.calm=true) (hm:X.mg "enumerate" = none) (ha:PA X [a] (cg X.K ta)) (hg:PG X (.Tuple elts k tpos) (lowG X.K g)) (hb:bx X body (aR X.K tb)) (hgl:Gl X "enumerate" :=by rfl)
  (hst:starEach [a] X.env=[(false,eval a X.env)]:=by rfl) (hs:∀x,foldedSetIterable (.Call (.Name "enumerate" p) [a] [] aA) X.env x=pure x:=by intro _;rfl):PS X (.For (.Tuple elts k tpos) (.Call (.Name "enumerate" p) [a] [] aA) body [] pos) (aR X.K (A6 0 ta g tb)) :=
 (gS hp hc (Dl hgl hm ha hst) hg hb hs).imp fun D σ H ⟨τ,M,D',hs,hm,h,hd⟩=>⟨τ,M,_,hs,hm,h,fun ds M1 vs H1 m1 e1 i1 h1=>by
  match ds,h1,i1 with
  |[.tup ds],h1,i1 =>
   obtain ⟨v,rfl,i⟩:=cc i1
   cases i with
   |@tup l xs _ hx hxs=>exact ⟨l,true,rfl,⟨xs,hx⟩,pK hd e1 (hs.mono e1) m1 (fun M2 H2 m2 e2 _=>⟨xs,e2.t _ _ hx,hxs.mono e2⟩) h1⟩
  |[.ref l],h1,i1 =>
   obtain ⟨v,rfl,i⟩:=cc i1
   cases i with
   |ref =>
    obtain ⟨ds,hl,w⟩:=h1
    obtain ⟨xs,hx,hxs⟩:=m1.lst hl
    exact ⟨l,false,rfl,⟨xs,hx⟩,pK hd e1 (hs.mono e1) m1 (fun M2 H2 m2 e2 hl2=>m2.lst hl2) w⟩⟩
end
end DL
namespace DL
open PySem PySem.Spec PyProof.Rows L2
section
variable {X:Cx} {aa:List (Addr×Obj)} {σ:St} {H:Hp} {s:Shared}
theorem qC {d:Addr} {u v:HO} (I:Inv X aa σ H s) (hd:H d=some u) (n1:∀xs,X.H₀ d≠some (.tup xs)) (n2:∀o x,X.H₀ d≠some (.frz o x)) (n3:∀ps,X.H₀ d≠some (.tbl ps)) (n4:∀xs,u≠.tup xs) (n5:∀a,u≠.own a)
  (new:bS X.prog X.w (upd H d v) s.heap d v):Inv X aa σ (upd H d v) s:=by
 have hne:∀b,H b=none→b≠d:=fun b e z=>by subst z;rw [hd] at e;cases e
 refine ⟨I.ok,I.os,I.bare,⟨I.base.keep,I.base.slot,fun b o e n hx=>?_,I.base.there,fun b xs e=>?_,fun b o x e=>?_,fun b ps e=>?_⟩,I.loc,I.cell,?_,fun x c e=>?_,fun p hp=>?_,fun b o e=>?_,I.len⟩
 ·have z:=I.base.free b o e n hx
  rw [aK (hne b z)];exact z
 ·rw [aK (by intro z;subst z;exact n1 xs e)];exact I.base.tups b xs e
 ·rw [aK (by intro z;subst z;exact n2 o x e)];exact I.base.frzs b o x e
 ·obtain ⟨more,q⟩:=I.base.tbls b ps e
  exact ⟨more,by rw [aK (by intro z;subst z;exact n3 ps e)];exact q⟩
 ·rw [aK (hne _ I.free)];exact I.free
 ·rw [aK (hne _ (I.freeC x c e))];exact I.freeC x c e
 ·obtain ⟨h1,h2,h3⟩:=I.pin p hp
  exact ⟨h1,by rw [aK (hne _ h2)];exact h2,h3⟩
 ·by_cases z:b=d
  ·subst z;rw [bV] at e;cases e;exact new
  ·rw [aK z] at e
   exact (I.ao b o e).stay (fun c w _ q=>q) (fun c q=>by rw [aK (by intro y;subst y;rw [hd] at q;cases q;exact n5 _ rfl)];exact q) fun c xs q=>by rw [aK (by intro y;subst y;rw [hd] at q;cases q;exact n4 _ rfl)];exact q
theorem HM {d:Addr} {kx:List (Key×V)} (I:Inv X aa σ H s) (hd:H d=some (.dK kx)):∃(o:Obj) (vs:List (Key×Value)) (ep:Nat),s.heap.get? d=some o∧KV kx vs∧s.heap.DictAt (ck X.prog X.w) d vs ep∧(∃es,o.data=.dict es ep)∧(d ==sysModules)=false ∧
  (∀o x,X.H₀ d≠some (.frz o x))∧Inv X aa σ (upd H d (.frz o (.dK kx))) s:=by
 obtain ⟨z,y,vs,r,o,es,ep,h1,h2⟩:=vB I.ao hd
 have n2:∀o x,X.H₀ d≠some (.frz o x):=fun o x e=>by have:=I.base.frzs d o x e;rw [hd] at this;cases this
 refine ⟨o,vs,ep,h1,r,⟨o,es,h1,h2⟩,⟨es,h2.2.1⟩,y,n2,qC I hd (fun xs e=>?_) n2 (fun ps e=>?_) (fun xs e=>nomatch e) (fun a e=>nomatch e) ?_⟩
 ·have:=I.base.tups d xs e;rw [hd] at this;cases this
 ·obtain ⟨more,this⟩:=I.base.tbls d ps e;rw [hd] at this;cases this
 ·exact ⟨h1,z,y,vs,r,o,es,ep,h1,h2⟩
theorem ng {d:Addr} {o:Obj} {kx:List (Key×V)} (I:Inv X aa σ H s) (hd:H d=some (.frz o (.dK kx))) (n2:∀o x,X.H₀ d≠some (.frz o x)):Inv X aa σ (upd H d (.dK kx)) s:=by
 obtain ⟨h1,h2⟩:=I.ao d _ hd
 refine qC I hd (fun xs e=>?_) n2 (fun ps e=>?_) (fun xs e=>nomatch e) (fun a e=>nomatch e) h2
 ·have:=I.base.tups d xs e;rw [hd] at this;cases this
 ·obtain ⟨more,this⟩:=I.base.tbls d ps e;rw [hd] at this;cases this
end
noncomputable def rN (d:Addr) (o:Obj) (kx:List (Key×V)):It :=
 ⟨fun i H=>H d=some (.frz o (.dK kx))∧i < kx.length,fun i H x H'=>H'=H∧∃k v,kx[i]?=some (k,v)∧x=kV k,fun i H=>H d=some (.frz o (.dK kx))∧i=kx.length⟩
theorem sE {X:Cx} {aa:List (Addr×Obj)} {σ:St} {H:Hp} {s:Shared} {d:Addr} {o:Obj} {kx:List (Key×V)} {es:Array DictEntry} {ep:Nat} (I:Inv X aa σ H s) (hd:H d=some (.frz o (.dK kx))) (ho:o.data=.dict es ep):∃vs,KV kx vs∧s.heap.DictAt (ck X.prog X.w) d vs ep:=by
 obtain ⟨h1,z,y,vs,r,o',es',ep',h2,h3,h4,h5⟩:=I.ao d _ hd
 rw [h1] at h2
 (first|cases h2.inv|cases h2)
 rw [ho] at h4
 cases h4
 exact ⟨vs,r,o,es,h1,h3,ho,h5⟩
theorem Dc {P:Program} {w:World} {k:Key} {v:Value} (h:(ck P w).is k v=true):RelV (kV k) v:=by
 rcases eA h with ⟨i,t,e,rfl⟩|⟨i,t,e,rfl⟩
 ·rw [e];exact ⟨t,rfl⟩
 ·rw [e];exact ⟨t,rfl⟩
theorem xA {P:Program} {w:World} {K:PySem.W.Frag} {tg:Expr} {d it:Addr} {o:Obj} {kx:List (Key×V)} {es:Array DictEntry} {ep:Nat} (ho:o.data=.dict es ep):Turn P w K tg (rN d o kx) [it] it (fun i h=>h.IsKeyIter it d i kx.length ep) where
 mem:=by simp
 obj:=fun i h st b hb=>by
  have e:b=it:=by simpa using hb
  subst e
  obtain ⟨ob,e,c,dd⟩:=st
  exact ⟨ob,e,fun v z=>by rw [dd] at z;cases z⟩
 keep:=fun i h h' st k=>st.at fun ob e=>k it (by simp) ob e
 item:=by
  intro X hP hw hK hc i aa s σ H E I hf st hg
  subst hP hw hK
  obtain ⟨hd,hi⟩:=hg
  obtain ⟨vs,rel,hat⟩:=sE I hd ho
  obtain ⟨f0,f1,f2,f3,f4,f5⟩:=hf it (by simp)
  have hne:d≠it:=by intro z;subst z;rw [hd] at f0;cases f0
  have hlen:kx.length=vs.length:=rel.length
  rw [hlen] at st hi
  refine (Walks.dictKeys (I.ok.hd hc) it d hne vs ep).item i s _ _ hi ⟨st,hat⟩ fun v h' tk hv st' kk=>?_
  obtain ⟨k,x,h1,h2⟩:=hv
  have I1:Inv X aa σ H { s with heap:=h',toks:=tk }:=I.turned (fun b ob hb e=>kk b ob (by simpa using hb) e) f0 f1 f3 f4 f5
  obtain ⟨ob,e2,c2,d2⟩:=id st'.1
  have hk:(kx.map (·.1))[i]?=some k:=by rw [rel.keys,List.getElem?_map,h1];rfl
  rw [List.getElem?_map] at hk
  cases e3:kx[i]? with
  |none=>rw [e3] at hk;cases hk
  |some pr =>
   rw [e3] at hk
   cases hk
   exact ⟨v,rfl,iG (s:={ s with heap:=h',toks:=tk }) e2 c2 d2 (by decide) ⟨kV pr.1,H,I1,Dc h2,⟨rfl,pr.1,pr.2,e3,rfl⟩,by rw [hlen];exact st'.1,fun b hb=>(hf b hb).1⟩⟩
 done:=by
  intro X hP hw hK hc i aa s σ H E I hf st hg
  subst hP hw hK
  obtain ⟨hd,hi⟩:=hg
  obtain ⟨vs,rel,hat⟩:=sE I hd ho
  obtain ⟨f0,f1,f2,f3,f4,f5⟩:=hf it (by simp)
  have hne:d≠it:=by intro z;subst z;rw [hd] at f0;cases f0
  have hlen:kx.length=vs.length:=rel.length
  rw [hlen] at st hi
  subst hi
  exact (Walks.dictKeys (I.ok.hd hc) it d hne vs ep).done s _ _ ⟨st,hat⟩ fun h' tk kk=>⟨rfl,I.turned (fun b ob hb e=>kk b ob (by simpa using hb) e) f0 f1 f3 f4 f5⟩
 self:=fun _ _ _ _ _ st h=>wpAny_pyIter_keyiter st h
section
variable {X:Cx} {tg:Expr} {pos:Pos} {g:aV} {tb:aF} {te:aD}
noncomputable def vH (X:Cx) (tl:TE):TI:=fun σ H R=>tl σ H fun x H1=>∃d kx,x=.ref d∧H1 d=some (.dK kx)∧∀o,(∀o x,X.H₀ d≠some (.frz o x))→R (rN d o kx) (upd H1 d (.frz o (.dK kx)))
theorem za {l:Expr} {tl:TE} (hl:PE X l tl):PI X tg l (vH X tl):=by
 intro aa s σ H R I h
 refine aC (hl aa s σ H _ I h) fun v s1 zz0=>?_
 obtain ⟨x,H1,I1,r1,q1⟩:=zz0
 obtain ⟨d,kx,e,hd,q⟩:=q1
 subst e
 cases r1
 obtain ⟨o,vs,ep,h1,rel,hat,⟨es,ho⟩,lo,nf,I2⟩:=HM I1 hd
 refine wpAny_pyIter_dict lo hat ?_
 refine ⟨s1.heap.objs.size,[s1.heap.objs.size],_,_,_,rfl,I2.kept (t':=s1.toks) fun b ob e=>Heap.get?_push_of_some _ e,xA ho,⟨_,Heap.get?_push_size _ rfl,rfl,by rw [rel.length];rfl⟩,fun b hb=>?_,q o nf⟩
 have e:b=s1.heap.objs.size:=by simpa using hb
 subst e
 exact I2.fpOk (Nat.le_refl _) (I2.ao.fresh (Nat.le_refl _))
noncomputable def uK (X:Cx) (D:Ends):Ends where
 nx:=fun σ H=>∃d o kx,H d=some (.frz o (.dK kx))∧(∀o x,X.H₀ d≠some (.frz o x))∧D.nx σ (upd H d (.dK kx))
 rt:=fun v H=>∃d o kx,H d=some (.frz o (.dK kx))∧(∀o x,X.H₀ d≠some (.frz o x))∧D.rt v (upd H d (.dK kx))
 bk:=fun σ H=>∃d o kx,H d=some (.frz o (.dK kx))∧(∀o x,X.H₀ d≠some (.frz o x))∧D.bk σ (upd H d (.dK kx))
 ct:=fun σ H=>∃d o kx,H d=some (.frz o (.dK kx))∧(∀o x,X.H₀ d≠some (.frz o x))∧D.ct σ (upd H d (.dK kx))
theorem Gh {iter:Expr} {body:List Stmt} {tl:TE} {gv:TG} {tbv:TS} (hp:PassesOwn (model X.prog X.w) X.A X.env X.xe) (hc:X.calm=true) (hl:PE X iter tl) (hg:PG X tg gv) (hb:bx X body tbv)
  (hs:∀x,foldedSetIterable iter X.env x=pure x:=by intro _;rfl):PS X (.For tg iter body [] pos) (fun D σ H=>rE (vH X tl) gv tbv (uK X D) σ H):=by
 intro aa s σ H D I h
 refine aC (gS hp hc (za hl) hg hb hs aa s σ H (uK X D) I h) fun f s1 q=>?_
 cases f with
 |next=>obtain ⟨σ1,H1,I1,d,o,kx,hd,nf,q⟩:=q;exact ⟨σ1,_,ng I1 hd nf,q⟩
 |cont=>obtain ⟨σ1,H1,I1,d,o,kx,hd,nf,q⟩:=q;exact ⟨σ1,_,ng I1 hd nf,q⟩
 |brk=>obtain ⟨σ1,H1,I1,d,o,kx,hd,nf,q⟩:=q;exact ⟨σ1,_,ng I1 hd nf,q⟩
 |ret v=>obtain ⟨x,σ1,H1,I1,r,d,o,kx,hd,nf,q⟩:=q;exact ⟨x,σ1,_,ng I1 hd nf,r,q⟩
theorem CB {K:PySem.W.Frag} {H:Hp} {kx:List (Key×V)} {ae:List (Key×D)} (r:dh K H kx ae):kx.map (·.1)=ae.map (·.1):=by
 induction r with
 |nil=>rfl
 |cons h t ih=>rw [List.map_cons,List.map_cons,ih,h.1]
section
variable {K:PySem.W.Frag} {M:DH} {H:Hp} {l:Addr} {o:Obj} {kx:List (Key×V)} {ae:List (Key×D)}
theorem mI (hx:H l=some (.dK kx)):Ext K H (upd H l (.frz o (.dK kx))):=iH (fun zs s=>by rcases s with s|⟨u,s⟩<;>rw [hx] at s<;>cases s) (fun u x s=>by rw [hx] at s;cases s)
theorem aw.freeze (h:aw K M H) (hx:H l=some (.dK kx)) (hp:dh K H kx ae):aw K (aj M l (.fdc ae)) (upd H l (.frz o (.dK kx))):=fun a u q=>by
 by_cases z:a=l
 ·subst z;rw [ar] at q;cases q;exact ⟨o,kx,bV,uj (mI hx) hp⟩
 ·rw [ay z] at q
  exact (h a u q).mono (mI hx).e0 (fun v w=>by rw [aK z];exact w) (fun dx w=>by rw [aK (fY w hx (by intro k;cases k))];exact w)
theorem iX (hx:H l=some (.frz o (.dK kx))):fG K H (upd H l (.dK kx)):=⟨fun a xs s=>by
 rcases s with s|s
 ·have hne:a≠l:=by intro z;subst z;rcases s with s|⟨u,s⟩<;>rw [hx] at s<;>cases s
  rcases s with s|⟨u,s⟩
  ·exact .inl (.inl (by rw [aK hne];exact s))
  ·exact .inl (.inr ⟨u,by rw [aK hne];exact s⟩)
 ·exact .inr s,fun a xs s=>by
 rcases s with ⟨u,s⟩|s
 ·exact .inl ⟨u,by rw [aK (by intro z;subst z;rw [hx] at s;cases s)];exact s⟩
 ·exact .inr s⟩
theorem aw.thaw (h:aw K M H) (hx:H l=some (.frz o (.dK kx))) (hl:M l=some (.fdc ae)):aw K (aj M l (.dic ae)) (upd H l (.dK kx)):=fun a u q=>by
 obtain ⟨o',kx',h1,hp⟩:=h l _ hl
 rw [hx] at h1
 (first|cases h1.inv|cases h1)
 by_cases z:a=l
 ·subst z;rw [ar] at q;cases q;exact ⟨kx,bV,Ar (iX hx) hp⟩
 ·rw [ay z] at q
  exact (h a u q).mono (iX hx) (fun v w=>by rw [aK z];exact w) (fun dx w=>by rw [aK (fY w hx (by intro k;cases k))];exact w)
theorem qf {H1 H2:Hp} (h1:H1 l=some (.dK kx)) (e:Ext K (upd H1 l (.frz o (.dK kx))) H2):Ext K H1 (upd H2 l (.dK kx)):=by
 have h2:H2 l=some (.frz o (.dK kx)):=e.z _ _ _ bV
 refine ⟨fun a xs s=>(iX h2).t a xs (e.t a xs ((mI h1).t a xs s)),fun a u x s=>?_⟩
 have hne:a≠l:=by intro z;subst z;rw [h1] at s;cases s
 rw [aK hne]
 exact e.z a u x (by rw [aK hne];exact s)
end
noncomputable def Gb (g:aV) (tb:aF) (E:cp) (τ:aJ):D→DH→Prop
 |.ref l,M=>∃ae,M l=some (.dic ae)∧∃W:Nat→aJ→DH→Prop,W 0 τ (aj M l (.fdc ae))∧(∀i τ M,i≤ae.length→W i τ M→M l=some (.fdc ae)) ∧
   (∀i k d τ M,ae[i]?=some (k,d)→W i τ M→g (gP k) τ M fun τ2 M2=>tb { nx:=W (i+1),ct:=W (i+1),bk:=fun τ M=>M l=some (.fdc ae)∧E.nx τ (aj M l (.dic ae)),rt:=fun d M=>M l=some (.fdc ae)∧E.rt d (aj M l (.dic ae)) } τ2 M2) ∧
   ∀τ M,W ae.length τ M→E.nx τ (aj M l (.dic ae))
 |_,_=>False
noncomputable def EO (te:aD) (g:aV) (tb:aF):aF:=fun E τ M=>te τ M fun x M1=>Gb g tb E τ x M1
theorem rK {iter:Expr} {body:List Stmt} (hp:PassesOwn (model X.prog X.w) X.A X.env X.xe) (hc:X.calm=true) (hi:PE X iter (low X.K te)) (hg:PG X tg (lowG X.K g)) (hb:bx X body (aR X.K tb))
  (hs:∀x,foldedSetIterable iter X.env x=pure x:=by intro _;rfl):PS X (.For tg iter body [] pos) (aR X.K (EO te g tb)) :=
 (Gh hp hc hi hg hb hs).imp fun D σ H ⟨τ,M,D',hs,hm,h,hd⟩=>⟨τ,M,_,hs,hm,h,fun x M1 v H1 m1 e1 i1 h1=>by
  cases i1 with
  |ref l =>
   obtain ⟨ae,hl,W,w0,stay,turn,done⟩:=h1
   obtain ⟨kx,hx,hpk⟩:=m1 l _ hl
   have hlen:=qe hpk
   refine ⟨l,kx,rfl,hx,fun o nf=>?_⟩
   refine ⟨fun i m σ2 H2=>m=ae.length-i∧i≤ae.length∧∃τ2 M2,aO X.K τ2 σ2 H2∧aw X.K M2 H2∧Ext X.K (upd H1 l (.frz o (.dK kx))) H2∧W i τ2 M2,⟨ae.length,by simp,Nat.zero_le _,τ,_,(hs.mono e1).mono (mI hx),m1.freeze hx hpk,Ext.refl _,w0⟩,?_⟩
   rintro i m σ2 H2 ⟨rfl,hi,τ2,M2,s2,m2,e2,w2⟩
   have hz:H2 l=some (.frz o (.dK kx)):=e2.z _ _ _ bV
   by_cases hlt:i < ae.length
   ·refine .inr ⟨⟨hz,by first|lia|omega⟩,fun σ3 H3=>∃τ3 M3,aO X.K τ3 σ3 H3∧aw X.K M3 H3∧Ext X.K (upd H1 l (.frz o (.dK kx))) H3∧W (i+1) τ3 M3,fun σ3 H3 p=>⟨ae.length-(i+1),by first|lia|omega,rfl,hlt,p⟩,fun x H' y=>?_⟩
    obtain ⟨rfl,k,vv,ek,rfl⟩:=y
    obtain ⟨q,hq⟩:∃q,ae[i]?=some q:=⟨_,List.getElem?_eq_getElem hlt⟩
    have ekk:q.1=k:=by
     have h1:(kx.map (·.1))[i]?=(ae.map (·.1))[i]?:=by
      rw [CB hpk]
     rw [List.getElem?_map,List.getElem?_map,ek,hq] at h1
     exact (Option.some.inj h1).symm
    subst ekk
    refine ⟨gP q.1,τ2,M2,_,by cases q.1 with|inl n=>exact .int n|inr z=>exact .str z,s2,m2,turn i q.1 q.2 τ2 M2 hq w2,fun τ3 M3 σ3 H3 s3 m3 e3 q3=>⟨τ3,M3,_,s3,m3,q3,⟨?_,?_,?_,?_⟩⟩⟩
    ·intro τ4 M4 σ4 H4 s4 m4 e4 q4
     exact ⟨τ4,M4,s4,m4,e2.trans (e3.trans e4),q4⟩
    ·rintro d4 M4 v4 H4 m4 e4 i4 ⟨hf4,q4⟩
     have e5:=e2.trans (e3.trans e4)
     have hz4:H4 l=some (.frz o (.dK kx)):=e5.z _ _ _ bV
     exact ⟨l,o,kx,hz4,nf,hd.rt _ _ _ _ (m4.thaw hz4 hf4) (e1.trans (qf hx e5)) (i4.mono0 (iX hz4)) q4⟩
    ·rintro τ4 M4 σ4 H4 s4 m4 e4 ⟨hf4,q4⟩
     have e5:=e2.trans (e3.trans e4)
     have hz4:H4 l=some (.frz o (.dK kx)):=e5.z _ _ _ bV
     exact ⟨l,o,kx,hz4,nf,hd.nx _ _ _ _ (s4.mono0 (iX hz4)) (m4.thaw hz4 hf4) (e1.trans (qf hx e5)) q4⟩
    ·intro τ4 M4 σ4 H4 s4 m4 e4 q4
     exact ⟨τ4,M4,s4,m4,e2.trans (e3.trans e4),q4⟩
   ·have e:i=ae.length:=by (first|lia|omega)
    subst e
    have hf:=stay _ τ2 M2 (Nat.le_refl _) w2
    exact .inl ⟨⟨hz,hlen.symm⟩,l,o,kx,hz,nf,hd.nx _ _ _ _ (s2.mono0 (iX hz)) (m2.thaw hz hf) (e1.trans (qf hx e2)) (done τ2 M2 w2)⟩
  |_=>exact h1.elim⟩
end
end DL
namespace DL
open PySem PySem.Spec PyProof.Rows L2
section
variable {prog:Program} {w:World} {A:Around} {E:Value→Shared→Prop} {z:Shared}
theorem yu {T newId:String} {self:Value} {rest:List Value} {kw:List (Str×Value)} (hl:typeLookup (.type T) "__init__" = pure (some (.builtin "object.__init__"))) (hm:Bind.madeBy (.type T)=pure (some newId)) (hne:(some newId !=some "object.__new__")=true) :
  Meets (Builtin.«object.__init__» ⟨self::rest,kw⟩) (fun _ R s=>s.TypeIs self T∧R (.ok (.ret .none)) s):=by
 refine Meets.of_wp fun prog w A R s zz0=>?_
 obtain ⟨hT,hq⟩:=zz0
 cases rest with
 |nil =>
  cases kw with
  |nil=>exact wpAny_pure ⟨_,rfl,hq⟩
  |cons k kw=>(repeat (any_goals (first|assumption|wp_step)));exact ⟨_,rfl,hq⟩
 |cons a rest=>(repeat (any_goals (first|assumption|wp_step)));exact ⟨_,rfl,hq⟩
theorem xB {T newId:String} {Bn:Builtin} {args:List Value} {kw:List (Str×Value)} {S:PySem.Spec} {Q:Value→Shared→Prop} (ft:TypeCalled T newId "object.__init__") (hne:(some newId !=some "object.__new__")=true)
  (hct:checkTypeCall T ⟨args,kw⟩=pure ()) (hcn:checkBuiltinCall newId ⟨.type T::args,kw⟩=pure ()) (ao:∀obj,argsOk "object.__init__" ⟨obj::args,kw⟩) (entryN:entryFor table newId=some Bn) (g:Meets (Bn ⟨.type T::args,kw⟩) S)
  (h:S A.in1 (wants (fun obj s₁=>s₁.TypeIs obj T∧Q obj s₁) E) z):wpAny (model prog w) A (call (.type T) args kw) Q E z:=by
 obtain ⟨c,tl,hmro⟩:=ft.mro
 have hmade:=ft.made
 have hsub:=ft.sub
 refine wpAny_call (codeAny_of_tree ?_);show wpAny _ _ (callAny (.type T) _) _ _ _
 refine wpAny_pure ⟨Code.quiet_builtin _ (by decide +kernel),codeAny_builtin PySem.F.entry_type_call ?_⟩
 rw [Around.under_plain (weight_type_call_type T args kw) (units_type_call_type T args kw)]
 have h1:=ft.notType
 have h2:=ft.canCreate
 (repeat (any_goals (first|assumption|wp_step)))
 refine codeAny_mono (codeAny_call_builtin ft.plain entryN (wpAny_of_eq hcn (g prog w A.in1 _ z h))) fun r s₁ hr=>?_
 cases r with
 |error e=>exact hr
 |ok fl =>
  cases fl with
  |ret obj =>
   obtain ⟨hT,hq⟩:=hr
   have hli:=ft.init.lookup
   have hbi:=ft.init.bind obj
   (repeat (any_goals (first|assumption|wp_step)))
   refine codeAny_mono (codeAny_call_builtin ft.init.plain PySem.F.entry_object_init (ft.init.check _ _ _ _ _ _ _ _ hT (ao obj) (yu ft.init.lookup ft.made hne prog w A.in1 (wants (fun r s₂=>r=.none∧Q obj s₂) E) s₁ ⟨hT,rfl,hq⟩))) fun r₂ s₂ hr₂=>?_
   cases r₂ with
   |error e=>exact hr₂
   |ok fl₂ =>
    cases fl₂ with
    |ret r =>
     obtain ⟨rfl,hq⟩:=hr₂
     (repeat (any_goals (first|assumption|wp_step)))
    |_=>exact hr₂.elim
  |_=>exact hr.elim
theorem El (l:Addr) (ys:Array Value) (n:Nat) (dx:Option Addr) (sx:Array (Option Value)) (t:Tok) :
  Meets (Builtin.«enumerate.__new__» ⟨[.type "enumerate",.ref l],[("start",.int 1 t)]⟩) (fun _ R s=>s.heap.get? l=some { cls:=.type "list",dict:=dx,data:=.seq ys n,slots:=sx } ∧
   R (.ok (.ret (.ref (s.heap.push { cls:=.type "list_iterator",data:=.fields #[.ref l,.int 0 0] }).objs.size)))
    { s with heap:=(s.heap.push { cls:=.type "list_iterator",data:=.fields #[.ref l,.int 0 0] }).push { cls:=.type "enumerate",data:=.fields #[.none,.bool false,.ref s.heap.objs.size,rawInt 1,.none,.none] } }) :=
 .of_wp fun prog w A R s h=>by
  obtain ⟨hp,g,d,tk,os⟩:=s
  obtain ⟨hl,h⟩:=h
  have hsub:=sub_enumerate
  have hT:Heap.IsList (Shared.heap ⟨hp,g,d,tk,os⟩) l ys:=⟨_,hl,rfl,n,rfl⟩
  wp_walk using AutoSeq1.wpAny_loadPart' hl
  refine wpAny_stack_any fun st=>wpAny_pure ?_;split
  ·rename_i c _ _ _ _ _
   cases (c ==Value.type "enumerate")
   ·wp_walk using AutoSeq1.wpAny_loadPart' hl,wpAny_pyIter_list hT
    exact ⟨_,rfl,h⟩
   ·wp_walk using AutoSeq1.wpAny_loadPart' hl,wpAny_pyIter_list hT
    exact ⟨_,rfl,h⟩
  ·wp_walk using AutoSeq1.wpAny_loadPart' hl,wpAny_pyIter_list hT
   exact ⟨_,rfl,h⟩
theorem Dv (v x:Value):checkTypeCall "enumerate" ⟨[v],[("start",x)]⟩=pure ():=by kernel_rfl
theorem He (v x:Value):checkBuiltinCall "enumerate.__new__" ⟨[.type "enumerate",v],[("start",x)]⟩=pure ():=by kernel_rfl
theorem GI (v x y:Value):argsOk "object.__init__" ⟨[v,x],[("start",y)]⟩:=by unfold argsOk;rw [signature?_of (id:= "object.__init__") (n:=['_','_','t','i','n','i','_','_']) (o:=['t','c','e','j','b','o']) (by kernel_rfl) PySem.F.owner_object];kernel_rfl
theorem yl {l:Addr} {ys:Array Value} {t:Tok} {Q:Value→Shared→Prop} (hL:z.heap.IsList l ys)
  (h:∀g,IsEnum g (z.heap.objs.size+1) z.heap.objs.size 1 .none→g.IsListIter z.heap.objs.size l 0→(∀b o,z.heap.get? b=some o→g.get? b=some o)→Q (.ref (z.heap.objs.size+1)) { z with heap:=g }) :
  wpAny (model prog w) A (call (.type "enumerate") [.ref l] [("start",.int 1 t)]) Q E z:=by
 obtain ⟨⟨c,dx,dt,sx⟩,hl,hc,n,hd⟩:=hL
 replace hc:c=.type "list" :=hc
 replace hd:dt=.seq ys n:=hd
 subst hc hd
 refine xB PySem.F.called_enumerate (by decide) (Dv _ _) (He _ _) (fun obj=>GI obj _ _) PySem.F.entry_enumerate_new (El l ys n dx sx t) ⟨hl,?_⟩
 have hz:(z.heap.push { cls:=.type "list_iterator",data:=.fields #[.ref l,.int 0 0] }).objs.size=z.heap.objs.size+1:=Heap.size_push ..
 show _∧_
 rw [hz]
 have he:IsEnum ((z.heap.push { cls:=.type "list_iterator",data:=.fields #[.ref l,.int 0 0] }).push { cls:=.type "enumerate",data:=.fields #[.none,.bool false,.ref z.heap.objs.size,rawInt 1,.none,.none] }) (z.heap.objs.size+1) z.heap.objs.size 1 .none:=by
  have q:=Heap.get?_push_size (z.heap.push { cls:=.type "list_iterator",data:=.fields #[.ref l,.int 0 0] }) (o:={ cls:=.type "enumerate",data:=.fields #[.none,.bool false,.ref z.heap.objs.size,rawInt 1,.none,.none] }) rfl
  rw [hz] at q
  exact q
 exact ⟨⟨_,he,rfl⟩,h _ he ⟨_,Heap.get?_push_of_some _ (Heap.get?_push_size _ rfl),rfl,rfl⟩ fun b o x=>Heap.get?_push_of_some _ (Heap.get?_push_of_some _ x)⟩
end
end DL
namespace DL
open PySem PySem.Spec PyProof.Rows L2
section
variable {X:Cx} {elts:List Expr} {k:Nat} {tpos pos:Pos} {g:aV} {tb:aF}
noncomputable def xw (K:PySem.W.Frag) (ta:TA):TI:=fun σ H R=>ta σ H fun vs H1=>∃a,vs=[.ref a]∧(∃xs,bG K H1 a xs)∧R (jx K false 1 a) H1
theorem Ei {a:Expr} {ta:TA} {p aA kpos ipos:Pos} {j} (hg:Gl X "enumerate") (hm:X.mg "enumerate" = none) (ha:PA X [a] ta) (hs:starEach [a] X.env=(false,eval a X.env)::starEach [] X.env:=by rfl)
  (hall:(backToKw aA (keywordEach [⟨some "start",.Constant (.int 1) j ipos,kpos⟩] X.env)).all (·.1.isSome)=true:=by rfl) (hks:(backToKw aA (keywordEach [⟨some "start",.Constant (.int 1) j ipos,kpos⟩] X.env)).filterMap (·.1)=[(Str.ofString "start")]:=by rfl)
  (hpl:((backTo aA (starEach [a] X.env)).any (·.1) ||(backToKw aA (keywordEach [⟨some "start",.Constant (.int 1) j ipos,kpos⟩] X.env)).any (·.1.isNone))=false:=by rfl) :
  PI X (.Tuple elts k tpos) (.Call (.Name "enumerate" p) [a] [⟨some "start",.Constant (.int 1) j ipos,kpos⟩] aA) (xw X.K ta):=by
 intro aa s σ H R I h
 refine wpAny_Call_Name_kw (fj I hg hm boot_enumerate ?_)
 refine PySem.W.callWith_of (P:=fun _=>True) hpl (fun h' _=>⟨.machine,.inr (.inl rfl),?_⟩) (evalArgs_kw2 hall (aC (ha aA aa s σ H _ I h) fun us s1 ⟨vs,H1,I1,r1,q1⟩=>?_) hs)
 ·exact PySem.W.Looks.of_pure rfl
 ·refine aC (uG (nm:=some "start") (kpos:=kpos) pC ra aA aa s1 σ H1 (fun zs H2=>zs=[.int 1]∧H2=H1) I1 ⟨rfl,rfl⟩) fun ws s2 zz0=>?_
  obtain ⟨zs,H2,I2,rz,ez,eH⟩:=zz0
  refine ⟨trivial,?_⟩
  subst ez eH
  obtain ⟨w1,rfl,t,rfl⟩:=vals1 rz
  rw [hks]
  obtain ⟨l,e,⟨xs,hq⟩,q⟩:=q1
  subst e
  obtain ⟨u,rfl,ru⟩:=vals1 r1
  cases ru
  obtain ⟨ai,rv,pl,_⟩:=I2.list hq
  refine yl (l:=l) (t:=t) pl.isList fun g he hi hk=>wpAny_pyIter_enum (s:={ s2 with heap:=g }) he ?_
  refine ⟨s2.heap.objs.size+1,[s2.heap.objs.size+1,s2.heap.objs.size],_,_,H2,rfl,I2.kept (t':=s2.toks) hk,rM false 1 l _ _ (Nat.succ_ne_self _),⟨⟨_,by simpa using he⟩,hi⟩,fun x hx=>?_,q⟩
  rcases List.mem_cons.mp hx with rfl|hx
  ·exact I2.fpOk (Nat.le_succ _) (I2.ao.fresh (Nat.le_succ _))
  ·cases List.mem_singleton.mp hx
   exact I2.fpOk (Nat.le_refl _) (I2.ao.fresh (Nat.le_refl _))
noncomputable def Ek (g:aV) (tb:aF) (E:cp) (τ:aJ):List D→DH→Prop
 |[.ref l],M=>∃ds,M l=some (.lst ds)∧dE (dY 1 ds) (fun M=>M l=some (.lst ds)) g tb E τ M
 |_,_=>False
noncomputable def y8 (ta:br) (g:aV) (tb:aF):aF:=fun E τ M=>ta τ M fun vs M1=>Ek g tb E τ vs M1
theorem HL {a:Expr} {ta:br} {body:List Stmt} {p aA kpos ipos:Pos} {j} (hp:PassesOwn (model X.prog X.w) X.A X.env X.xe) (hc:X.calm=true) (hm:X.mg "enumerate" = none) (ha:PA X [a] (cg X.K ta)) (hg:PG X (.Tuple elts k tpos) (lowG X.K g)) (hb:bx X body (aR X.K tb)) (hgl:Gl X "enumerate" :=by rfl)
  (hst:starEach [a] X.env=(false,eval a X.env)::starEach [] X.env:=by rfl) (hall:(backToKw aA (keywordEach [⟨some "start",.Constant (.int 1) j ipos,kpos⟩] X.env)).all (·.1.isSome)=true:=by rfl) (hks:(backToKw aA (keywordEach [⟨some "start",.Constant (.int 1) j ipos,kpos⟩] X.env)).filterMap (·.1)=[(Str.ofString "start")]:=by rfl)
  (hpl:((backTo aA (starEach [a] X.env)).any (·.1) ||(backToKw aA (keywordEach [⟨some "start",.Constant (.int 1) j ipos,kpos⟩] X.env)).any (·.1.isNone))=false:=by rfl) (hs:∀x,foldedSetIterable (.Call (.Name "enumerate" p) [a] [⟨some "start",.Constant (.int 1) j ipos,kpos⟩] aA) X.env x=pure x:=by intro _;rfl) :
  PS X (.For (.Tuple elts k tpos) (.Call (.Name "enumerate" p) [a] [⟨some "start",.Constant (.int 1) j ipos,kpos⟩] aA) body [] pos) (aR X.K (y8 ta g tb)) :=
 (gS hp hc (Ei hgl hm ha hst hall hks hpl) hg hb hs).imp fun D σ H ⟨τ,M,D',hs,hm,h,hd⟩=>⟨τ,M,_,hs,hm,h,fun ds M1 vs H1 m1 e1 i1 h1=>by
  match ds,h1,i1 with
  |[.ref l],h1,i1 =>
   obtain ⟨v,rfl,i⟩:=cc i1
   cases i with
   |ref =>
    obtain ⟨ds,hl,w⟩:=h1
    obtain ⟨xs,hx,hxs⟩:=m1.lst hl
    exact ⟨l,rfl,⟨xs,hx⟩,pK hd e1 (hs.mono e1) m1 (fun M2 H2 m2 e2 hl2=>m2.lst hl2) w⟩⟩
end
end DL
namespace DL
open PySem PySem.Spec PyProof.Rows L2
section
variable {X:Cx} {k:Nat}
noncomputable def D.isNon:D→Bool
 |.non=>true
 |_=>false
noncomputable def oE (neg:Bool):D→D→DH→KD→Prop
 |.bl a,.bl b,M,Q=>Q (.bl (if neg then !(a ==b) else a ==b)) M
 |x,.non,M,Q=>Q (.bl (if neg then !x.isNon else x.isNon)) M
 |_,_,_,_=>False
theorem wQ {neg:Bool} {x:D} {M:DH} {Q:KD} (h:oE neg x .non M Q):Q (.bl (if neg then !x.isNon else x.isNon)) M:=by cases x<;>exact h
theorem tU {K:PySem.W.Frag} {H:Hp} {v:V} {d:D} (i:Is K H v d):decide (v=.non)=d.isNon:=by cases i<;>rfl
theorem p8:cx X (compareOp .Is) (oE false):=by
 rintro aa s σ H vx vy v u Q I rx ry ⟨x,y,M,Q',ix,iy,hm,q,hq⟩
 cases iy with
 |non =>
  have q':=wQ q
  exact Ay aa s σ H _ _ v u Q I rx ry ⟨rfl,hq.here hm (.bl _) (by rw [tU ix];exact q')⟩
 |bl b=>cases ix with
  |bl a =>
   cases rx
   cases ry
   exact is_bool ⟨.bl _,H,I,rfl,hq.here hm (.bl _) q⟩
  |_=>exact q.elim
 |_=>first|exact q.elim|(cases ix<;>exact q.elim)
theorem iK:cx X (compareOp .IsNot) (oE true):=by
 rintro aa s σ H vx vy v u Q I rx ry ⟨x,y,M,Q',ix,iy,hm,q,hq⟩
 cases iy with
 |non =>
  have q':=wQ q
  exact EM aa s σ H _ _ v u Q I rx ry ⟨rfl,hq.here hm (.bl _) (by rw [tU ix];exact q')⟩
 |bl b=>cases ix with
  |bl a =>
   cases rx
   cases ry
   exact isnot_bool ⟨.bl _,H,I,rfl,hq.here hm (.bl _) q⟩
  |_=>exact q.elim
 |_=>first|exact q.elim|(cases ix<;>exact q.elim)
end
section
variable {X:Cx} {tg elt a:Expr} {ifs:List Expr} {scope:Scope} {pos p aA:Pos} {js:List (Option Nat)} {Nc:List Str} {cl:List (Str×Addr)}
noncomputable def yH (g:aV) (tt:bZ) (te:aD) (js:List (Option Nat)) (τ:aJ):List D→DH→KD→Prop
 |[.int j],M,Q=>(-(2 ^ 62)≤j∧j < 2 ^ 62)∧jr ((List.range j.toNat).map fun i:Nat=>D.int (i:Int)) g tt te js τ M Q
 |_,_,_=>False
noncomputable def mV (ta:br) (g:aV) (tt:bZ) (te:aD) (js:List (Option Nat)):aD:=fun τ M Q=>ta τ M fun vs M1=>yH g tt te js τ vs M1 Q
theorem nF {K:PySem.W.Frag} {H:Hp} (n:Nat):Gives K (fD 0 n) ((List.range n).map fun i:Nat=>D.int (i:Int)) H :=
 ⟨fun j hj=>by rw [List.length_map,List.length_range] at hj;exact hj,fun j x H' hj ⟨e,y⟩=>by
  rw [List.length_map,List.length_range] at hj
  refine ⟨e,.int (j:Int),by rw [List.getElem?_map,List.getElem?_range hj];rfl,?_⟩
  rw [y,Int.zero_add]
  exact .int _,by rw [List.length_map,List.length_range];exact Nat.le_refl n⟩
theorem rV {ta:br} {ted:aD} {gd:aV} {ttd:bZ} (O:eX X Nc js scope cl) (hc:X.calm=true) (hmr:X.mg "range" = none) (ha:PA X [a] (cg X.K ta)) (hg:∀C s H fp,PG (bB X Nc scope cl C s H fp) tg (lowG X.K gd)) (hif:∀C s H fp,kf (bB X Nc scope cl C s H fp) ifs ttd) (he:∀C s H fp,PE (bB X Nc scope cl C s H fp) elt (low X.K ted))
  (hgl:Gl X "range" :=by rfl) (hst:starEach [a] X.env=[(false,eval a X.env)]:=by rfl) (hs:∀x,foldedSetIterable (.Call (.Name "range" p) [a] [] aA) X.env x=pure x:=by intro _;rfl):PE X (.ListComp elt [⟨tg,.Call (.Name "range" p) [a] [] aA,ifs,0⟩] scope pos) (low X.K (mV ta gd ttd ted js)):=by
 intro aa s0 σ0 H0 Q0 I0 hw
 obtain ⟨ttv,hif',htt⟩:∃ttv:TT,(∀C s H fp,jm (bB X Nc scope cl C s H fp) ifs ttv)∧∀σ H R,cm X.K ttd σ H R→ttv σ H R:=by
  rcases hif 0 s0 H0 [] with ⟨e1,e2⟩|⟨c,e1,_⟩
  ·subst e1 e2
   refine ⟨_,fun _ _ _ _=>.inl ⟨rfl,rfl⟩,fun σ H R zz0=>?_⟩
   obtain ⟨τ,M,Q',_,hm,h,hq⟩:=zz0
   exact hq true M H hm (Ext.refl H) h
  ·subst e1
   refine ⟨cm X.K ttd,fun C s H fp=>?_,fun σ H R h=>h⟩
   rcases hif C s H fp with ⟨e1,_⟩|⟨c',e1,h⟩
   ·cases e1
   ·cases e1
    exact .inr ⟨c,rfl,h⟩
 refine ((wj O hc (mR hgl hmr ha hst) hg hif' he hs).imp (t':=low X.K (mV ta gd ttd ted js)) fun σ H Q zz0=>?_) aa s0 σ0 H0 Q0 I0 hw
 obtain ⟨τ,M,Q',hs,hm,h,hq⟩:=zz0
 refine ⟨τ,M,_,hs,hm,h,fun ds M1 vs H1 m1 e1 i1 h1=>?_⟩
 match ds,h1,i1 with
 |[.int j],h1,i1 =>
  obtain ⟨v,rfl,i⟩:=cc i1
  (first|cases i.inv|cases i)
  obtain ⟨⟨q1,q2⟩,w⟩:=h1
  exact ⟨j,rfl,q1,q2,fu (hs.mono e1) e1 m1 hq htt (fun l M2 H2 m2 e2 _ _=>nF j.toNat) w⟩
end
end DL
namespace DL
open PySem PySem.Spec PyProof.Rows L2
section
variable {X:Cx}
end
end DL
namespace DL
open PySem PySem.Spec PyProof.Rows L2
theorem _root_.L2.bS.got {P:Program} {w:World} {H:Hp} {h:Heap} {a:Addr} {o:HO} (x:bS P w H h a o):∃u,h.get? a=some u:=by
 cases o with
 |lst xs=>obtain ⟨_,_,_,_,e⟩:=x;exact ⟨_,e⟩
 |tup xs=>obtain ⟨_,_,_,o,e,_⟩:=x;exact ⟨_,e⟩
 |dK ae=>obtain ⟨_,_,_,_,o,_,_,e,_⟩:=x;exact ⟨_,e⟩
 |dT ae=>obtain ⟨_,_,_,_,o,_,_,e,_⟩:=x;exact ⟨_,e⟩
 |set S n=>obtain ⟨o,_,_,_,e,_⟩:=x;exact ⟨_,e⟩
 |ins C dx fs=>obtain ⟨_,_,_,e,_⟩:=x;exact ⟨_,e⟩
 |own y=>obtain ⟨_,e⟩:=x;exact ⟨_,e⟩
 |xd fs=>obtain ⟨_,⟨_,_,_,e,_⟩,_⟩:=x;exact ⟨_,e⟩
 |rng lo hi=>obtain ⟨_,_,_,e⟩:=x;exact ⟨_,e⟩
 |frz ob u=>obtain ⟨e,_⟩:=x;exact ⟨_,e⟩
 |tbl ps=>exact ⟨_,(show h.get? a=some _ from x)⟩
 |met f y=>exact ⟨_,(show h.get? a=some _ from x)⟩
 |ext φ=>obtain ⟨_,⟨_,e⟩,_⟩:=x;exact ⟨_,e⟩
noncomputable def Tr (h:Heap) (a T:Addr) (cls:Value):Prop :=
 ∃oe vs a0 oT ts,h.get? a=some oe∧(oe.cls=cls∧vs[0]?=some a0)∧oe.data=.fields vs∧vs[1]?=some (.ref T)∧T≠a∧h.get? T=some oT∧oT.data=.fields ts∧ts[3]?=some .none
noncomputable def cS (P:Program) (w:World):dD:=fun outer H s E e s'=>∃(a T:Addr) (cls:Value) (H':Hp),e=.ref a∧s'.os=s.os∧AllBare s'.gens∧Un (bw outer) [] H H' s.heap s'.heap∧bM P w H' s'.heap ∧
 s.heap.get? a=none∧s.heap.get? T=none∧H' a=none∧H' T=none∧Tr s'.heap a T cls∧E cls none H'
theorem sZ {X:Cx} {aa:List (Addr×Obj)} {σ:St} {H:Hp} {s:Shared} {E:XK} {h':Heap} {xs:List Addr} {a:Addr} {cls a0:Value} {t':Nat} (I:Inv X aa σ H s) (hex:X.ex=[]) (hst:X.stack=X.env::X.outer)
  (hxs:∀b∈xs,X.s₀.heap.get? b=none∧H b=none) (stay:(PySem.W.hideAll s.heap (xs++bw X.stack)).StaysIn h') (up:s.heap.UpToSlots h') (tr:h'.TracedW (PySem.W.hideAll s.heap (xs++bw X.stack)) a cls a0)
  (ha:X.s₀.heap.get? a=none∧H a=none) (hE:E cls none H):cS X.prog X.w X.outer X.H₀ X.s₀ E (.ref a) { s with heap:=h',toks:=t' }:=by
 obtain ⟨oe,vs,T,oT,ts,h1,h2,h3,h4,h5,h6,h7,h8,h9⟩:=tr
 have hexb:∀b:Addr,b ∉ X.ex:=fun b z=>by rw [hex] at z;cases z
 have hL:X.s₀.heap.get? X.env.locals=none:=Heap.get?_none_of_le I.ok.above
 have kept:∀b o,s.heap.get? b=some o→b ∉ xs→b ∉ bw X.stack→h'.get? b=some o:=fun b o e n1 n2=>stay b o (PySem.W.hideAll_get _ e fun z=>(List.mem_append.mp z).elim n1 n2)
 have nx:∀b o,X.s₀.heap.get? b=some o→b ∉ xs:=fun b o e z=>by rw [(hxs b z).1] at e;cases e
 have ns:∀b o,X.s₀.heap.get? b=some o→b ∉ X.fs→b ∉ bw X.stack:=fun b o e n z=>by
  rcases List.mem_cons.mp (I.stkSub b z) with z|z
  ·subst z;rw [hL] at e;cases e
  ·exact n z
 have frm:∀b∈bw X.stack,∃o,h'.get? b=some o∧∀ws,o.data≠.fields ws:=fun b z=>by
  obtain ⟨_,o,e,d⟩:=I.stack.mem z
  obtain ⟨sl,e'⟩:=up b o e d
  exact ⟨_,e',d⟩
 have dC:∀b u,H b=some u→b ∉ xs∧b ∉ bw X.stack:=fun b u e=>⟨fun z=>(by rw [(hxs b z).2] at e;cases e),fun z=>(by rw [I.stkFree b z] at e;cases e)⟩
 have hT:T ∉ bw X.stack:=fun z=>by
  obtain ⟨o,e,d⟩:=frm T z
  rw [h7] at e;cases e
  exact d ts h8
 have sT:s.heap.get? T=none∨T∈xs:=by
  cases e:s.heap.get? T with
  |none=>exact .inl rfl
  |some o =>
   refine .inr (Classical.byContradiction fun n=>?_)
   have z:=PySem.W.hideAll_get (xs++bw X.stack) e fun z=>(List.mem_append.mp z).elim n hT
   rw [h5] at z;cases z
 refine ⟨a,T,cls,H,rfl,I.os,I.bare,⟨fun b o e n hb _=>?_,fun b o e n hb _=>?_,fun b o e n _=>I.base.free b o e n (hexb b),fun b o e _=>?_,I.base.tups,I.base.frzs,I.base.tbls⟩,fun b u e=>?_,ha.1,?_,ha.2,?_,⟨oe,vs,a0,oT,ts,h1,h2,h3,h4,h6,h7,h8,h9⟩,hE⟩
 ·exact kept b o (I.base.keep b o e n hb (hexb b)) (nx b o e) (ns b o e hb)
 ·obtain ⟨sl,e1⟩:=I.base.slot b o e n hb (hexb b)
  obtain ⟨_,o',e2,d⟩:=I.funs.mem hb
  rw [e1] at e2;cases e2
  obtain ⟨sl',e3⟩:=up b _ e1 d
  exact ⟨sl',e3⟩
 ·obtain ⟨o',e1⟩:=I.base.there b o e (hexb b)
  by_cases hb:b∈bw X.stack
  ·obtain ⟨o2,e2,_⟩:=frm b hb;exact ⟨o2,e2⟩
  ·exact ⟨o',kept b o' e1 (nx b o e) hb⟩
 ·refine (I.ao b u e).stay (fun c v hc q=>?_) (fun _ q=>q) fun _ _ q=>q
  rcases hc with rfl|hc
  ·exact kept _ v q (dC _ u e).1 (dC _ u e).2
  ·exact kept c v q (dC c _ hc).1 (dC c _ hc).2
 ·rcases sT with z|z
  ·cases e:X.s₀.heap.get? T with
   |none=>rfl
   |some o =>
    obtain ⟨o',e1⟩:=I.base.there T o e (hexb T)
    rw [z] at e1;cases e1
  ·exact (hxs T z).1
 ·rcases sT with z|z
  ·cases e:H T with
   |none=>rfl
   |some u =>
    obtain ⟨o,e1⟩:=(I.ao T u e).got
    rw [z] at e1;cases e1
  ·exact (hxs T z).2
structure XCame (X:Cx) (EX:aJ→Value→DH→Prop):Prop where
 came:∀(aa:List (Addr×Obj)) (τ:aJ) (σ:St) (H:Hp) (s:Shared) (E1:XK) (e:Value) (s':Shared),Inv X aa σ H s→aO X.K τ σ H→cS X.prog X.w X.stack H s E1 e s'→(∀cls H1,E1 cls none H1→∃M1,aw X.K M1 H1∧EX τ cls M1)→X.xe e s'
structure qo (X:Cx) (EX:aJ→Value→DH→Prop):Prop extends XCame X EX where
 made:∀(aa:List (Addr×Obj)) (τ:aJ) (σ:St) (H:Hp) (s:Shared) (C a:Addr) (h1:Heap) (args:List Value) (M:DH),Inv X aa σ H s→aO X.K τ σ H→Heap.MadeExcOf s.heap h1 a (.ref C) args→aw X.K M H→EX τ (.ref C) M→X.xe (.ref a) { s with heap:=h1 }
theorem uY {X:Cx} {aa:List (Addr×Obj)} {σ:St} {H:Hp} {s:Shared} (I:Inv X aa σ H s):Ext X.K X.H₀ H:=⟨fun a xs h=>by
 rcases h with (h|⟨o,h⟩)|h
 ·exact .inl (.inl (I.base.tups a xs h))
 ·exact .inl (.inr ⟨o,I.base.frzs a o _ h⟩)
 ·exact .inr h,fun a o u h=>I.base.frzs a o u h⟩
section
variable {P:Program} {w:World} {K:PySem.W.Frag} {mg:Str→Option Value} {base:Heap} {N:List Str} {qual:Str} {scope:Scope} {f:Addr} {cd:Value} {A:Around} {outer:List Env} {s₀:Shared} {H₀:Hp} {E:XK} {EX:Value→DH→Prop}
theorem zY (hE:∀cls M1 H1,aw K M1 H1→Ext K H₀ H1→EX cls M1→E cls none H1):qo (cu (cS P w) P w K mg base N qual scope f cd A outer s₀ H₀ E) (fun _=>EX) where
 came:=fun aa τ σ H s E1 e s' I _ ⟨a,T,cls,H',he,ho,hb,un,ao,na,nT,ta,tT,tr,hE1⟩ hq=>by
  subst he
  obtain ⟨M1,hm,q⟩:=hq cls H' hE1
  have I':Inv (cu (cS P w) P w K mg base N qual scope f cd A outer s₀ H₀ E) aa σ H' s':=I.call' ho un ao hb fun b z=>nomatch z
  have s0n:∀b,s.heap.get? b=none→s₀.heap.get? b=none:=fun b z=>by
   cases e:s₀.heap.get? b with
   |none=>rfl
   |some o =>
    obtain ⟨o',e1⟩:=I.base.there b o e (fun z=>nomatch z)
    rw [z] at e1;cases e1
  have hxs:∀b∈[a,T],s₀.heap.get? b=none∧H' b=none:=fun b z=>by
   simp only [List.mem_cons,List.not_mem_nil,or_false] at z
   rcases z with rfl|rfl
   ·exact ⟨s0n _ na,ta⟩
   ·exact ⟨s0n _ nT,tT⟩
  obtain ⟨oe,vs,a0,oT,ts,t1,t2,t3,t4,t5,t6,t7,t8⟩:=tr
  have hin:∀env∈(cu (cS P w) P w K mg base N qual scope f cd A outer s₀ H₀ E).stack,∀b,env.frame=some b→b∈[a,T]++bw (cu (cS P w) P w K mg base N qual scope f cd A outer s₀ H₀ E).stack:=fun env he b hb=>List.mem_append_right _ (List.mem_filterMap.mpr ⟨env,he,hb⟩)
  refine wpAny_leaving_nextW (base:=PySem.W.hideAll s'.heap ([a,T]++bw (cu (cS P w) P w K mg base N qual scope f cd A outer s₀ H₀ E).stack)) (cls:=cls) (a0:=a0) I'.ok.frames (PySem.W.funFrames_hide I'.stack hin) rfl ?_ (fun b o z=>PySem.W.of_hideAll _ z) (PySem.W.hideAll_none _ (by simp)) fun h' hL=>?_
  ·exact ⟨oe,vs,T,oT,ts,t1,t2,t3,t4,PySem.W.hideAll_none _ (by simp),t5,t6,t7,t8⟩
  ·obtain ⟨k1,_,k3,k4⟩:=hL
   exact sZ (t':=s'.toks) I' rfl rfl hxs k1 k4 k3 (hxs a (by simp)) (hE cls M1 H' hm (uY I') q)
 made:=fun aa τ σ H s C a h1 args M I _ mk hm q=>by
  have s0n:∀b,s.heap.get? b=none→s₀.heap.get? b=none:=fun b z=>by
   cases e:s₀.heap.get? b with
   |none=>rfl
   |some o =>
    obtain ⟨o',e1⟩:=I.base.there b o e (fun z=>nomatch z)
    rw [z] at e1;cases e1
  have hin:∀env∈(cu (cS P w) P w K mg base N qual scope f cd A outer s₀ H₀ E).stack,∀b,env.frame=some b→b∈[]++bw (cu (cS P w) P w K mg base N qual scope f cd A outer s₀ H₀ E).stack:=fun env he b hb=>List.mem_filterMap.mpr ⟨env,he,hb⟩
  refine wpAny_leaves_madeW (base:=PySem.W.hideAll s.heap ([]++bw (cu (cS P w) P w K mg base N qual scope f cd A outer s₀ H₀ E).stack)) (h:=s.heap) I.ok.frames rfl (fun b o z=>PySem.W.of_hideAll _ z) (PySem.W.funFrames_hide I.stack hin) mk fun h' t fl _ _ up=>?_
  obtain ⟨k1,k2,_,k4⟩:=fl
  have hta:H a=none:=by
   cases e:H a with
   |none=>rfl
   |some u =>
    obtain ⟨o,e1⟩:=(I.ao a u e).got
    rw [mk.new] at e1;cases e1
  exact sZ (t':=s.toks) (xs:=[]) I rfl rfl (fun b z=>absurd z (by simp)) k1 ((Heap.UpToSlots.of_keeps mk.keeps).trans up) k4 ⟨s0n a mk.new,hta⟩ (hE _ M H hm (uY I) q)
theorem G1:PassesOwn (model P w) (A.deeper (envOfC qual scope s₀.heap.objs.size f cd)) (envOfC qual scope s₀.heap.objs.size f cd) (cu (cS P w) P w K mg base N qual scope f cd A outer s₀ H₀ E).xe:=PassesOwn.leaving
end
noncomputable abbrev cZ:=List D→DH→KD→(Value→DH→Prop)→Prop
noncomputable def qu (K:PySem.W.Frag) (sp:cZ):Sp:=fun vs H Q E=>∃ds M Q' E',az K H vs ds∧aw K M H∧sp ds M Q' E'∧cN K H Q' Q∧∀cls M1 H1,aw K M1 H1→Ext K H H1→E' cls M1→E cls none H1
structure fz (P:Program) (w:World) (K:PySem.W.Frag) (mg:Str→Option Value) (base:Heap) (k:Nat) (x:Str) (ps:List Str) (sp:cZ):Prop where
 ex:∃f fd,cn P w K mg base (cS P w) k f fd ps (qu K sp)∧mg x=some (.ref f)∧PySem.W.keepIn K (.ref f)=true∧Binds K fd ps []
section
variable {P:Program} {w:World} {K:PySem.W.Frag} {mg:Str→Option Value} {base:Heap}
theorem oG {x:Str} {st:Stmt} {N ps:List Str} {k:Nat} {sp:cZ} (T:bH K mg x st ps) (S:aX N ps (au st)) (len:∀ds M Q E,sp ds M Q E→ds.length=ps.length)
  (hbody:∀(f:Addr) (cdv:Value) (A:Around) (outer:List Env) (s:Shared) (H:Hp) (E:XK) (EX:Value→DH→Prop),aW k (A.deeper (envOfC x (au st) s.heap.objs.size f cdv)) →
   qo (cu (cS P w) P w K mg base N x (au st) f cdv A outer s H E) (fun _=>EX) →
   PassesOwn (model P w) (A.deeper (envOfC x (au st) s.heap.objs.size f cdv)) (envOfC x (au st) s.heap.objs.size f cdv) (cu (cS P w) P w K mg base N x (au st) f cdv A outer s H E).xe →
   ∃t:aF,bx (cu (cS P w) P w K mg base N x (au st) f cdv A outer s H E) (aU st) (aR K t)∧∀ds M Q,sp ds M Q EX→t (fo Q) (fh N ds) M):fz P w K mg base (k+1) x ps sp:=by
 obtain ⟨f,fd,F,hb,hm⟩:=T
 refine ⟨f,fd,?_,hm,F.kp,hb⟩
 obtain ⟨oc,od,kV,doc,pm,an,cdv,ct,osl,rfl,lk,hcd⟩:=F.ex
 refine sO lk hcd S (fun vs H Q E h=>?_) fun A outer s H vs Q E hr h=>?_
 ·obtain ⟨ds,M,Q',E',i,_,q,_⟩:=h
  rw [i.length]
  exact len _ _ _ _ q
 ·obtain ⟨ds,M,Q',E',i,hm,q,hq,hE⟩:=h
  obtain ⟨t,h1,h2⟩:=hbody f cdv A outer s H E E' hr (zY hE) G1
  refine ⟨_,h1,fh N ds,M,fo Q',vS i,hm,h2 _ _ _ q,⟨?_,?_,?_,?_⟩⟩
  ·rintro τ M1 σ H1 s1 m1 e1 ⟨M0,sub,q0⟩
   exact hq _ M0 _ H1 (m1.sub sub) e1 .non q0
  ·rintro d M1 v H1 m1 e1 i1 ⟨M0,sub,q0⟩
   exact hq d M0 v H1 (m1.sub sub) e1 i1 q0
  ·intro τ M1 σ H1 _ _ _ q0;exact q0.elim
  ·intro τ M1 σ H1 _ _ _ q0;exact q0.elim
end
section
variable {X:Cx} {e:Expr} {es:List Expr} {pos:Pos} {t:br} {EX:aJ→Value→DH→Prop}
noncomputable def xZ (sp:cZ) (EX:aJ→Value→DH→Prop) (t:br):aD:=fun τ M Q=>t τ M fun ds M1=>sp ds M1 Q fun cls M2=>∃M0,Sub M0 M2∧EX τ cls M0
theorem p9 {k:Nat} {x:Str} {ps:List Str} {sp:cZ} {p:Pos} (F:fz X.prog X.w X.K X.mg X.base k x ps sp) (hx:XCame X EX) (hr:aW k X.A) (ha:PA X (e::es) (cg X.K t)) (hg:Gl X x:=by rfl) (hdb:(x ==("__debug__" : Str))=false:=by decide)
  (he:starEach (e::es) X.env=(false,eval e X.env)::starEach es X.env:=by rfl) (hpl:(backTo pos (starEach es X.env)).any (·.1)=false:=by rfl):PE X (.Call (.Name x p) (e::es) [] pos) (low X.K (xZ sp EX t)):=by
 obtain ⟨f,fd,F,hmg,hk,hb⟩:=F.ex
 rintro aa s σ H Q I ⟨τ,M,Q',hs,hm,h,hq⟩
 refine wpAny_Call_Name_kw (gf I hg hmg ?_ hdb)
 have hA:=ha pos aa s σ H (fun vs H1=>∃ds M1,aw X.K M1 H1∧Ext X.K H H1∧az X.K H1 vs ds∧sp ds M1 Q' fun cls M2=>∃M0,Sub M0 M2∧EX τ cls M0) I ⟨τ,M,_,hs,hm,h,fun ds M1 vs H1 m1 e1 i1 h1=>⟨ds,M1,m1,e1,i1,h1⟩⟩
 refine PySem.W.callWith_K (h₀:=X.base) I.ok.mod.kin hk (aC hA fun us s1 zz0=>?_) he hpl
 obtain ⟨vs,H1,I1,r,⟨ds,M1,m1,e1,i1,h1⟩⟩:=zz0
 refine ⟨I1.kIn,?_⟩
 have h2:qu X.K sp vs H1 Q fun cls _ H2=>∃M2,aw X.K M2 H2∧EX τ cls M2:=⟨ds,M1,Q',_,i1,m1,h1,hq.ext e1,fun cls M2 H2 m2 _ ⟨M0,sub,q⟩=>⟨M0,m2.sub sub,q⟩⟩
 have hl:us.length=ps.length:=by rw [←r.length];exact F.len _ _ _ _ h2
 have hbn:=hb s1 us I1.kIn (by rw [List.append_nil];exact hl)
 rw [List.append_nil] at hbn
 refine wpAny_call (codeAny_mono (F.run X.A X.stack s1 H1 ⟨us,[]⟩ us vs Q _ hr I1.env0 hbn r h2) fun rr s' hq'=>?_)
 cases rr with
 |error e=>exact hx.came aa τ σ H1 s1 (fun cls _ H2=>∃M2,aw X.K M2 H2∧EX τ cls M2) e s' I1 (hs.mono e1) hq' fun cls H2 z=>z
 |ok fl =>
  cases fl with
  |ret u=>exact I1.after hq'
  |next=>exact False.elim hq'
  |brk=>exact False.elim hq'
  |cont=>exact False.elim hq'
structure XC (K:PySem.W.Frag) (mg:Str→Option Value) (x:Str) (C:Addr):Prop where
 nm:mg x=some (.ref C)
 ow:PySem.W.excIn K C [.type "ValueError",.type "Exception",.type "BaseException",.type "object"] "ValueError.__new__" = true
theorem gm {K:PySem.W.Frag} {h:Heap} {C:Addr} {bmB:List Value} {newId:String} (X:K.In h) (q:PySem.W.excIn K C bmB newId=true) :
  ∃(bm:List Value) (N:Addr) (nm qn:Str) (bs:List Value) (hd:Bool) (sn:List Str) (sub:List Value) (ab:Bool) (col:Option Bool) (dd:Option Addr) (k0 k1 k2 k3 k5:Option Value) (mN:Str→Option Value),
   h.get? C=some (excClassObj nm qn C N bs bm hd sn sub ab col dd k0 k1 k2 k3 k5 newId)∧h.Ns N mN∧mN "__init__" = none∧OwnTail h bmB bm:=by
 unfold PySem.W.excIn at q
 split at q
 ·rename_i dd cd sl ho
  split at q
  ·rename_i C' bm k0 k1 k2 k3 n k5 hm hs
   simp only [Bool.and_eq_true,beq_iff_eq,Bool.not_eq_true'] at q
   obtain ⟨⟨⟨⟨⟨rfl,rfl⟩,hdel⟩,ht⟩,ao⟩,hni⟩:=q
   obtain ⟨nm,bs,mro,ns,qn,hd,sn,sub,ab,col,del⟩:=cd
   dsimp only at hm hdel ao hni
   subst hm hdel
   have hsl:sl=#[k0,k1,k2,k3,some (.builtin n),k5]:=by
    obtain ⟨l⟩:=sl
    simp only at hs
    rw [hs]
   subst hsl
   exact ⟨bm,ns,nm,qn,bs,hd,sn,sub,ab,col,dd,k0,k1,k2,k3,k5,_,X _ _ ho,.of_isNs (PySem.W.isNs_of_in X ao),PySem.W.nsMap_none_of_in X ao hni,PySem.W.tail_of_in X ht⟩
  ·cases q
 ·cases q
noncomputable def zh (C:Addr) (EX:aJ→Value→DH→Prop) (t:br):aF:=fun _ τ M=>t τ M fun ds M1=>ds.length≤1000∧EX τ (.ref C) M1
theorem wx {x:Str} {C:Addr} {np aA:Pos} (hx:qo X EX) (hc:X.calm=true) (xc:XC X.K X.mg x C) (ha:PA X (e::es) (cg X.K t)) (hg:Gl X x:=by rfl) (hd:(x ==("__debug__" : Str))=false:=by decide)
  (he:starEach (e::es) X.env=(false,eval e X.env)::starEach es X.env:=by rfl) (hpl:(backTo aA (starEach (e::es) X.env)).any (·.1)=false:=by rfl) :
  PS X (.Raise (some (.Call (.Name x np) (e::es) [] aA)) none pos) (aR X.K (zh C EX t)):=by
 rintro aa s σ H D I ⟨τ,M,D',hs,hm,h,hd'⟩
 obtain ⟨bm,N,nm,qn,bs,hdct,sn,sub,ab,col,dd,k0,k1,k2,k3,k5,mN,hC,hN,hni,TL⟩:=gm I.mod.kin xc.ow
 refine wpAny_Raise_call_subT (C:=C) (nm:=nm) (q:=qn) (N:=N) (bs:=bs) (bm:=bm) (hdct:=hdct) (sn:=sn) (sub:=sub) (ab:=ab) (col:=col) (dd:=dd) (k0:=k0) (k1:=k1) (k2:=k2) (k3:=k3) (k5:=k5) PySem.F.excBase_ValueError (TL.hasType rfl) (I.ok.hd hc) hpl hni (gf I hg xc.nm ⟨rfl,?_⟩ hd)
 have hsp:=ha aA aa s σ H _ I ⟨τ,M,_,hs,hm,h,fun ds M1 vs H1 m1 e1 i1 h1=>(show ∃M1:DH,aw X.K M1 H1∧Ext X.K H H1∧vs.length≤1000∧EX τ (.ref C) M1 from ⟨M1,m1,e1,by rw [i1.length];exact h1.1,h1.2⟩)⟩
 have e0:backTo aA (starEach (e::es) X.env)=(false,eval e X.env)::backTo aA (starEach es X.env):=by rw [he];rfl
 rw [e0] at hsp ⊢
 refine Calls.evalArgs_plain (aC hsp fun us s2 zz0=>?_)
 obtain ⟨vs,H2,I2,r2,M2,m2,e2,hl,q2⟩:=zz0
 refine ⟨rfl,by rw [←r2.length];exact cL hl,I2.bk _ _ hC,hN.keeps I2.bk,TL.keeps I2.bk,fun h' a mk=>?_⟩
 exact hx.made aa τ σ H2 s2 C a h' us M2 I2 (hs.mono e2) mk m2 q2
end
end DL
namespace DL
open PySem PySem.Spec PyProof.Rows L2
theorem FH {K:PySem.W.Frag} {fs ex:List Addr} {H H':Hp} {h h':Heap} (u:Un fs ex H H' h h'):Ext K H H':=⟨fun a xs h=>by
 rcases h with (h|⟨o,h⟩)|h
 ·exact .inl (.inl (u.tups a xs h))
 ·exact .inl (.inr ⟨o,u.frzs a o _ h⟩)
 ·exact .inr h,fun a o v h=>u.frzs a o v h⟩
structure cT (X:Cx) (aa:List (Addr×Obj)) (σ:St) (H:Hp) (s:Shared) (a T:Addr) (cls:Value):Prop where
 inv:Inv X aa σ H s
 new:∀b∈[a,T],X.s₀.heap.get? b=none∧H b=none∧b≠X.env.locals∧(∀x c,X.env.cells.lookup x=some c→c≠b)∧∀p∈X.pn++aa,p.1≠b
 tr:Tr s.heap a T cls
section
variable {X:Cx} {aa:List (Addr×Obj)} {σ:St} {H:Hp} {s:Shared}
theorem Inv.nowhere (I:Inv X aa σ H s) (hex:X.ex=[]) {b:Addr} (e:s.heap.get? b=none):X.s₀.heap.get? b=none∧b≠X.env.locals∧(∀x c,X.env.cells.lookup x=some c→c≠b)∧∀p∈X.pn++aa,p.1≠b:=by
 refine ⟨?_,?_,?_,?_⟩
 ·cases q:X.s₀.heap.get? b with
  |none=>rfl
  |some o =>
   obtain ⟨o',e1⟩:=I.base.there b o q (by rw [hex];simp)
   rw [e] at e1;cases e1
 ·intro z
  obtain ⟨m,⟨o,es,ep,ho,_⟩,_⟩:=I.loc
  rw [←z,e] at ho;cases ho
 ·intro x c hc z
  obtain ⟨v,o,ho,_⟩:=I.cell x c hc
  rw [z,e] at ho;cases ho
 ·intro p hp z
  have ho:=(I.pin p hp).1
  rw [z,e] at ho;cases ho
theorem FZ {E1:XK} {e:Value} {s':Shared} (I:Inv X aa σ H s) (hex:X.ex=[]) (c:cS X.prog X.w X.stack H s E1 e s'):∃a T cls H',e=.ref a∧cT X aa σ H' s' a T cls∧Ext X.K H H'∧E1 cls none H':=by
 obtain ⟨a,T,cls,H',he,ho,hb,un,ao,na,nT,ta,tT,tr,hE1⟩:=c
 refine ⟨a,T,cls,H',he,⟨I.call' ho un ao hb (fun b z=>absurd z (by simp)),fun b z=>?_,tr⟩,FH un,hE1⟩
 simp only [List.mem_cons,List.not_mem_nil,or_false] at z
 rcases z with rfl|rfl
 ·have:=Inv.nowhere I hex na;exact ⟨this.1,ta,this.2⟩
 ·have:=Inv.nowhere I hex nT;exact ⟨this.1,tT,this.2⟩
theorem Inv.flown {h':Heap} {t':Nat} {xs:List Addr} (I:Inv X aa σ H s) (hex:X.ex=[]) (hst:X.stack=X.env::X.outer) (new:∀b∈xs,X.s₀.heap.get? b=none∧H b=none∧b≠X.env.locals∧(∀x c,X.env.cells.lookup x=some c→c≠b)∧∀p∈X.pn++aa,p.1≠b)
  (stay:(PySem.W.hideAll s.heap (xs++bw X.stack)).StaysIn h') (up:s.heap.UpToSlots h'):Inv X aa σ H { s with heap:=h',toks:=t' }:=by
 have hexb:∀b:Addr,b ∉ X.ex:=fun b z=>by rw [hex] at z;cases z
 have hL:X.s₀.heap.get? X.env.locals=none:=Heap.get?_none_of_le I.ok.above
 have kept:∀b o,s.heap.get? b=some o→b ∉ xs→b ∉ bw X.stack→h'.get? b=some o:=fun b o e n1 n2=>stay b o (PySem.W.hideAll_get _ e fun z=>(List.mem_append.mp z).elim n1 n2)
 have nx:∀b o,X.s₀.heap.get? b=some o→b ∉ xs:=fun b o e z=>by rw [(new b z).1] at e;cases e
 have ns:∀b o,X.s₀.heap.get? b=some o→b ∉ X.fs→b ∉ bw X.stack:=fun b o e n z=>by
  rcases List.mem_cons.mp (I.stkSub b z) with z|z
  ·subst z;rw [hL] at e;cases e
  ·exact n z
 have frm:∀b∈bw X.stack,∃o,h'.get? b=some o:=fun b z=>by
  obtain ⟨_,o,e,d⟩:=I.stack.mem z
  obtain ⟨sl,e'⟩:=up b o e d
  exact ⟨_,e'⟩
 have dC:∀b u,H b=some u→b ∉ xs∧b ∉ bw X.stack:=fun b u e=>⟨fun z=>(by rw [(new b z).2.1] at e;cases e),fun z=>(by rw [I.stkFree b z] at e;cases e)⟩
 have cel:∀x c v,X.env.cells.lookup x=some c→s.heap.IsCell c v→h'.IsCell c v:=fun x c v hc ⟨o,ho,hd⟩=>by
  obtain ⟨sl,e⟩:=up c o ho (fun ws q=>by rw [hd] at q;cases q)
  exact ⟨_,e,hd⟩
 refine ⟨I.ok,I.os,I.bare,⟨fun b o e n hb hx=>?_,fun b o e n hb hx=>?_,I.base.free,fun b o e hx=>?_,I.base.tups,I.base.frzs,I.base.tbls⟩,?_,fun x c hc=>?_,I.free,I.freeC,fun p hp=>?_,fun b u e=>?_,I.len⟩
 ·exact kept b o (I.base.keep b o e n hb hx) (nx b o e) (ns b o e hb)
 ·obtain ⟨sl,e1⟩:=I.base.slot b o e n hb hx
  obtain ⟨_,o',e2,d⟩:=I.funs.mem hb
  rw [e1] at e2;cases e2
  obtain ⟨sl',e3⟩:=up b _ e1 d
  exact ⟨sl',e3⟩
 ·obtain ⟨o',e1⟩:=I.base.there b o e hx
  by_cases hb:b∈bw X.stack
  ·exact frm b hb
  ·exact ⟨o',kept b o' e1 (nx b o e) hb⟩
 ·obtain ⟨m,hn,hl⟩:=I.loc
  refine ⟨m,up.ns hn,fun i x v e1 e2 e3=>?_⟩
  obtain ⟨u,r,l⟩:=hl i x v e1 e2 e3
  refine ⟨u,r,?_⟩
  rcases l with l|⟨k,c,hc,z⟩
  ·exact .inl l
  ·exact .inr ⟨k,c,hc,cel x c _ hc z⟩
 ·obtain ⟨v,z⟩:=I.cell x c hc
  exact ⟨v,cel x c v hc z⟩
 ·obtain ⟨e,n,ne,nf,d⟩:=I.pin p hp
  refine ⟨kept p.1 p.2 e (fun z=>(new p.1 z).2.2.2.2 p hp rfl) (fun z=>?_),n,ne,nf,d⟩
  rcases List.mem_cons.mp (I.stkSub p.1 z) with z|z
  ·exact ne z
  ·exact nf z
 ·refine (I.ao b u e).stay (fun c v hc q=>?_) (fun _ q=>q) fun _ _ q=>q
  rcases hc with rfl|hc
  ·exact kept _ v q (dC _ u e).1 (dC _ u e).2
  ·exact kept c v q (dC c _ hc).1 (dC c _ hc).2
theorem cT.next {h':Heap} {t':Nat} {a T:Addr} {cls a0:Value} (F:cT X aa σ H s a T cls) (hex:X.ex=[]) (hst:X.stack=X.env::X.outer)
  (stay:(PySem.W.hideAll s.heap ([a,T]++bw X.stack)).StaysIn h') (up:s.heap.UpToSlots h') (tr:h'.TracedW (PySem.W.hideAll s.heap ([a,T]++bw X.stack)) a cls a0):∃T',cT X aa σ H { s with heap:=h',toks:=t' } a T' cls:=by
 obtain ⟨oe,vs,T',oT,ts,h1,h2,h3,h4,h5,h6,h7,h8,h9⟩:=tr
 have I':=Inv.flown (t':=t') F.inv hex hst F.new stay up
 refine ⟨T',I',fun b z=>?_,oe,vs,a0,oT,ts,h1,h2,h3,h4,h6,h7,h8,h9⟩
 simp only [List.mem_cons,List.not_mem_nil,or_false] at z
 rcases z with rfl|rfl
 ·exact F.new _ (by simp)
 ·cases e:s.heap.get? b with
  |none =>
   have q:=Inv.nowhere F.inv hex e
   refine ⟨q.1,?_,q.2⟩
   cases e2:H b with
   |none=>rfl
   |some u =>
    obtain ⟨o,e1⟩:=(F.inv.ao b u e2).got
    rw [e] at e1;cases e1
  |some o =>
   by_cases hb:b∈[a,T]
   ·exact F.new b hb
   ·by_cases hf:b∈bw X.stack
    ·obtain ⟨_,o',e',d⟩:=F.inv.stack.mem hf
     obtain ⟨sl,e2⟩:=up b o' e' d
     rw [h7] at e2;cases e2
     exact absurd h8 (d ts)
    ·have z:=PySem.W.hideAll_get ([a,T]++bw X.stack) e fun z=>(List.mem_append.mp z).elim hb hf
     rw [h5] at z;cases z
end
noncomputable abbrev _root_.L2.Cx.mark (X:Cx) (a:Addr):Cx:={ X with A:=X.A.mark (some (.ref a)),calm:=false,xe:=fun _ _=>False }
section
variable {X:Cx} {aa:List (Addr×Obj)} {σ:St} {H:Hp} {s:Shared}
theorem Cx.Ok.mark {a:Addr} (ok:X.Ok):(X.mark a).Ok :=
 ⟨ok.mod,ok.kind,ok.glob,ok.blt,ok.above,ok.inj,ok.has,ok.cab,(fun z=>(nomatch z)),ok.frames,ok.stk,ok.exf,ok.bs,ok.bsz,ok.noex,ok.exfs,ok.funs,ok.frf⟩
theorem Cx.Ok.unmark {a:Addr} (hd:X.calm=true→X.A.handled=none) (ok:(X.mark a).Ok):X.Ok :=
 ⟨ok.mod,ok.kind,ok.glob,ok.blt,ok.above,ok.inj,ok.has,ok.cab,hd,ok.frames,ok.stk,ok.exf,ok.bs,ok.bsz,ok.noex,ok.exfs,ok.funs,ok.frf⟩
theorem Inv.mark (a:Addr) (I:Inv X aa σ H s):Inv (X.mark a) aa σ H s:=⟨Cx.Ok.mark I.ok,I.os,I.bare,I.base,I.loc,I.cell,I.free,I.freeC,I.pin,I.ao,I.len⟩
theorem Inv.unmark {a:Addr} (hd:X.calm=true→X.A.handled=none) (I:Inv (X.mark a) aa σ H s):Inv X aa σ H s:=⟨Cx.Ok.unmark hd I.ok,I.os,I.bare,I.base,I.loc,I.cell,I.free,I.freeC,I.pin,I.ao,I.len⟩
end
section
variable {X:Cx} {aa:List (Addr×Obj)} {σ:St} {H:Hp} {s:Shared} {a T:Addr} {cls:Value}
theorem cT.frames (F:cT X aa σ H s a T cls) (hst:X.stack=X.env::X.outer):s.heap.FunFrames (PySem.W.hideAll s.heap ([a,T]++bw X.stack)) (X.env::X.outer):=by
 have h:=PySem.W.funFrames_hide (as:=[a,T]++bw X.stack) F.inv.stack fun env he b hb=>List.mem_append_right _ (List.mem_filterMap.mpr ⟨env,he,hb⟩)
 rw [hst] at h ⊢
 exact h
theorem cT.traced (F:cT X aa σ H s a T cls):∃a0,s.heap.TracedW (PySem.W.hideAll s.heap ([a,T]++bw X.stack)) a cls a0:=by
 obtain ⟨oe,vs,a0,oT,ts,t1,t2,t3,t4,t5,t6,t7,t8⟩:=F.tr
 exact ⟨a0,oe,vs,T,oT,ts,t1,t2,t3,t4,PySem.W.hideAll_none _ (by simp),t5,t6,t7,t8⟩
theorem cT.look {Q:Flow→Shared→Prop} {E:Value→Shared→Prop} {hs:List ExceptHandler} (F:cT X aa σ H s a T cls) (hex:X.ex=[]) (hst:X.stack=X.env::X.outer) (hf:X.env.frame=some X.env.locals)
  (k:∀h' T',cT X aa σ H { s with heap:=h' } a T' cls→wpAny (model X.prog X.w) X.A (handleBy (.ref a) X.env hs) Q E { s with heap:=h' }) :
  wpAny (model X.prog X.w) X.A (noteFrame (.ref a) X.env) (fun _ s₂=>wpAny (model X.prog X.w) X.A (setFlight (.ref a) none) (fun _ s₃=>wpAny (model X.prog X.w) X.A (handleBy (.ref a) X.env hs) Q E s₃) E s₂) E s:=by
 obtain ⟨a0,tr⟩:=F.traced
 refine wpAny_noteFrame_onW (outer:=X.outer) (by rw [←hst];exact F.inv.ok.frames) (F.frames hst) hf tr (fun b o z=>PySem.W.of_hideAll _ z) (PySem.W.hideAll_none _ (by simp)) fun h1 hN=>?_
 obtain ⟨k1,k2,k3,k4⟩:=hN
 refine wpAny_setFlight_noneW (s:={ s with heap:=h1 }) k1 k2 k3 fun h2 j1 j2 j3 j4=>?_
 obtain ⟨T',F'⟩:=F.next (t':=s.toks) hex hst j1 (fun b o e d=>let ⟨sl,e1⟩:=k4 b o e d;⟨sl,j4 b _ e1 d⟩) j3
 exact k h2 T' F'
theorem cT.again {A:Around} {Q:Unit→Shared→Prop} {E:Value→Shared→Prop} (F:cT X aa σ H s a T cls) (hex:X.ex=[]) (hst:X.stack=X.env::X.outer) (k:∀h' T',cT X aa σ H { s with heap:=h' } a T' cls→Q () { s with heap:=h' }) :
  wpAny (model X.prog X.w) A (setFlight (.ref a) none) Q E s:=by
 obtain ⟨a0,tr⟩:=F.traced
 refine wpAny_setFlight_noneW (fun b o z=>PySem.W.of_hideAll _ z) (F.frames hst) tr.at fun h2 j1 j2 j3 j4=>?_
 obtain ⟨T',F'⟩:=F.next (t':=s.toks) hex hst j1 (fun b o e d=>⟨o.slots,j4 b _ e d⟩) j3
 exact k h2 T' F'
noncomputable def kK (K:PySem.W.Frag) (C:Addr) (v:Value):Option Bool:=match K.lookup C with
 |some ⟨_,_,.cls cd,_⟩=>some (cd.mro.contains v)
 |_=>none
abbrev iw:List Value:=[.type "ValueError",.type "Exception",.type "BaseException",.type "object"]
structure kN (K:PySem.W.Frag) (C F:Addr) (b:Bool):Prop where
 c:PySem.W.excIn K C iw "ValueError.__new__" = true
 f:PySem.W.excIn K F iw "ValueError.__new__" = true
 m:kK K C (.ref F)=some b
theorem rP {M:Model} {A:Around} {E:Value→Shared→Prop} {h:Heap} {g:Array GenState} {d:Drawn} {t:Nat} {os:OsState} {e C F N N':Addr} {oe:Obj} {Q:Bool→Shared→Prop} {nm q nm' q':Str} {bs bm bs' bm':List Value} {hdct hdct':Bool} {sn sn':List Str} {sub sub':List Value} {ab ab':Bool} {col col':Option Bool} {dd dd':Option Addr} {k0 k1 k2 k3 k5 l0 l1 l2 l3 l5:Option Value} {newId newId':String} {b:Bool}
  (hC:h.get? C=some (excClassObj nm q C N bs bm hdct sn sub ab col dd k0 k1 k2 k3 k5 newId)) (hF:h.get? F=some (excClassObj nm' q' F N' bs' bm' hdct' sn' sub' ab' col' dd' l0 l1 l2 l3 l5 newId')) (he:h.get? e=some oe) (hcls:oe.cls=.ref C) (hbase:bm'.contains (.type "BaseException")=true)
  (hb:(Value.ref C::bm).contains (.ref F)=b) (hq:Q b ⟨h,g,d,t,os⟩):wpAny M A (excMatches (.ref e) (.ref F)) Q E ⟨h,g,d,t,os⟩:=by
 have hcB:(Value.ref F::bm').contains (.type "BaseException")=true:=by rw [List.contains_cons,hbase,Bool.or_true]
 have f:=tc_notTuple
 unfold excMatches
 repeat (first|(with_reducible refine wpAny_loadPart_at he ?_;rw [hcls])|with_reducible refine wpAny_loadPart_at hF ?_|with_reducible refine wpAny_loadPart_at hC ?_|(with_reducible refine wpAny_isSubtype_exc hF ?_;rw [hcB])|(with_reducible refine wpAny_isSubtype_exc hC ?_;rw [hb])|wp_step)
 cases b<;>(wp_walk;exact hq)
end
end DL
namespace DL
open PySem PySem.Spec PyProof.Rows L2
section
variable {X:Cx} {aa:List (Addr×Obj)} {σ:St} {H:Hp} {s:Shared}
theorem B4 {a:Addr} {D:Ends} {f:Flow} {s':Shared} (hd:X.calm=true→X.A.handled=none) (h:SP (X.mark a) aa D f s'):SP X aa D f s':=by
 cases f with
 |next=>obtain ⟨σ',H',I,q⟩:=h;exact ⟨σ',H',Inv.unmark hd I,q⟩
 |brk=>obtain ⟨σ',H',I,q⟩:=h;exact ⟨σ',H',Inv.unmark hd I,q⟩
 |cont=>obtain ⟨σ',H',I,q⟩:=h;exact ⟨σ',H',Inv.unmark hd I,q⟩
 |ret u=>obtain ⟨v,σ',H',I,r,q⟩:=h;exact ⟨v,σ',H',Inv.unmark hd I,r,q⟩
theorem ue {K:PySem.W.Frag} {h:Heap} {C N:Addr} {v:Value} {b:Bool} {nm q:Str} {bs bm:List Value} {hdct:Bool} {sn:List Str} {sub:List Value} {ab:Bool} {col:Option Bool} {dd:Option Addr} {k0 k1 k2 k3 k5:Option Value} {newId:String} (X:K.In h) (m:kK K C v=some b)
  (hC:h.get? C=some (excClassObj nm q C N bs bm hdct sn sub ab col dd k0 k1 k2 k3 k5 newId)):(Value.ref C::bm).contains v=b:=by
 cases ho:K.lookup C with
 |none=>unfold kK at m;rw [ho] at m;cases m
 |some o =>
  have e:=X _ _ ho
  rw [hC] at e
  cases e
  unfold kK at m
  rw [ho] at m
  exact Option.some.inj m
theorem Inv.goes {M:Model} {A:Around} {E:Value→Shared→Prop} {Q:Unit→Shared→Prop} {i:Nat} {n:Str} {pos:Pos} (I:Inv X aa σ H s) (hl:X.env.kindOf n=some .local) (hN:X.N.Nodup) (hi:X.N[i]?=some n)
  (k:∀s',Inv X aa (σ.set i none) H s'→Q () s'):wpAny M A (do bindName X.env n .none;unbindBehindTheSuite X.env n pos) Q E s:=by
 obtain ⟨m,hn,hlk⟩:=id I.loc
 have hcls:(X.env.scope.kind ==.class ||(X.env.scope.kind ==.module && X.env.locals !=X.env.globals))=false:=by rw [I.ok.kind];rfl
 have hiσ:i < σ.length:=by rw [I.len];exact (List.getElem?_eq_some_iff.mp hi).1
 have cne:=I.cne
 refine wpAny_nameGoes_keeps hl hn hcls fun h' v hn' hs=>?_
 have ne0:∀b o,X.s₀.heap.get? b=some o→b≠X.env.locals:=fun b o e=>Nat.ne_of_lt (Nat.lt_of_lt_of_le (Heap.lt_size e) I.ok.above)
 refine k _ ⟨I.ok,I.os,I.bare,⟨fun b o e n hb hx=>?_,fun b o e n hb hx=>?_,I.base.free,fun b o e hx=>?_,I.base.tups,I.base.frzs,I.base.tbls⟩,⟨_,hn',fun j y v' e1 e2 e3=>?_⟩,fun y c e=>?_,I.free,I.freeC,fun p hp=>?_,fun b u e=>?_,by simpa using I.len⟩
 ·exact (hs.2 b (ne0 b o e)).trans (I.base.keep b o e n hb hx)
 ·obtain ⟨sl,e1⟩:=I.base.slot b o e n hb hx
  exact ⟨sl,(hs.2 b (ne0 b o e)).trans e1⟩
 ·obtain ⟨o',e1⟩:=I.base.there b o e hx
  exact ⟨o',(hs.2 b (ne0 b o e)).trans e1⟩
 ·by_cases hj:j=i
  ·subst hj
   rw [List.getElem?_set_self hiσ] at e2
   cases e2
  ·rw [List.getElem?_set_ne (Ne.symm hj)] at e2
   obtain ⟨u',r',q⟩:=hlk j y v' e1 e2 e3
   refine ⟨u',r',?_⟩
   rcases q with ⟨k,e⟩|⟨k,c,e,z⟩
   ·refine .inl ⟨k,?_⟩
    have:y≠n:=fun e=>hj (nW hN e1 (e▸hi))
    simp [this,e]
   ·exact .inr ⟨k,c,e,z.sameBut hs (cne y c e)⟩
 ·obtain ⟨w',z⟩:=I.cell y c e
  exact ⟨w',z.sameBut hs (cne y c e)⟩
 ·obtain ⟨e,n,ne,nf,d⟩:=I.pin p hp
  exact ⟨(hs.2 p.1 ne).trans e,n,ne,nf,d⟩
 ·refine (I.ao b u e).stay (fun c w' hc q=>(hs.2 c ?_).trans q) (fun _ q=>q) fun _ _ q=>q
  rintro rfl
  rcases hc with rfl|hc
  ·rw [I.free] at e;cases e
  ·rw [I.free] at hc;cases hc
theorem Inv.track {a:Addr} {φ:Heap→Prop} (I:Inv X aa σ H s) (new:X.s₀.heap.get? a=none∧H a=none∧a≠X.env.locals∧(∀x c,X.env.cells.lookup x=some c→c≠a)∧∀p∈X.pn++aa,p.1≠a) (hφ:φ s.heap) (hob:∃o,s.heap.get? a=some o) (hst:∀h1 h2:Heap,φ h1→(∀o,h1.get? a=some o→h2.get? a=some o)→φ h2) :
  Inv X aa σ (upd H a (.ext φ)) s:=by
 obtain ⟨n0,na,nl,nc,np⟩:=new
 have other:∀b u,H b=some u→upd H a (.ext φ) b=some u:=fun b u e=>by rw [aK (gh e na)];exact e
 refine ⟨I.ok,I.os,I.bare,⟨I.base.keep,I.base.slot,fun b o e n hx=>?_,I.base.there,fun b xs e=>other b _ (I.base.tups b xs e),fun b o u e=>other b _ (I.base.frzs b o u e),fun b ps e=>?_⟩,I.loc,I.cell,?_,fun x c e=>?_,fun p hp=>?_,fun b u e=>?_,I.len⟩
 ·rw [aK (by intro z;subst z;rw [n0] at e;cases e)];exact I.base.free b o e n hx
 ·obtain ⟨more,e1⟩:=I.base.tbls b ps e
  exact ⟨more,other b _ e1⟩
 ·rw [aK (Ne.symm nl)];exact I.free
 ·rw [aK (nc x c e)];exact I.freeC x c e
 ·obtain ⟨e,n,r⟩:=I.pin p hp
  exact ⟨e,by rw [aK (np p hp)];exact n,r⟩
 ·by_cases hb:b=a
  ·subst hb;rw [bV] at e;cases e;exact ⟨hφ,hob,hst⟩
  ·rw [aK hb] at e
   exact (I.ao b u e).stay (fun _ _ _ q=>q) (fun c q=>other c _ q) fun c xs q=>other c _ q
theorem aO.drop {K:PySem.W.Frag} {τ:aJ} {i:Nat} (h:aO K τ σ H):aO K (τ.set i none) (σ.set i none) H:=by
 refine ⟨by rw [List.length_set,List.length_set];exact h.1,fun j e q=>?_⟩
 rw [List.getElem?_set] at q
 by_cases hj:i=j
 ·subst hj
  rw [if_pos rfl] at q
  split at q<;>cases q
 ·rw [if_neg hj] at q
  obtain ⟨u,h1,h2⟩:=h.2 j e q
  exact ⟨u,by rw [List.getElem?_set,if_neg hj];exact h1,h2⟩
end
noncomputable def PH (X:Cx) (hs:List ExceptHandler) (th:Value→aF):Prop:=∀(aa:List (Addr×Obj)) (s:Shared) (σ:St) (H:Hp) (D:Ends) (a T:Addr) (cls:Value),cT X aa σ H s a T cls→aR X.K (th cls) D σ H→wpAny (model X.prog X.w) X.A (handleBy (.ref a) X.env hs) (SP X aa D) X.xe s
noncomputable def yy:Value→aF:=fun _ _ _ _=>False
noncomputable def A2 (K:PySem.W.Frag) (F:Addr) (ts:aF) (tr:Value→aF):Value→aF:=fun cls D τ M=>∃C b,cls=.ref C∧kN K C F b∧if b=true then ts D τ M else tr cls D τ M
noncomputable def pH (i:Nat) (D:cp):cp:={ nx:=fun τ M=>D.nx (τ.set i none) M,rt:=D.rt,bk:=fun τ M=>D.bk (τ.set i none) M,ct:=fun τ M=>D.ct (τ.set i none) M }
noncomputable def Fs (K:PySem.W.Frag) (F:Addr) (i:Nat) (ts:aF) (tr:Value→aF):Value→aF:=fun cls D τ M=>∃C b,cls=.ref C∧kN K C F b∧if b=true then ∀p,M p=none→ts (pH i D) (τ.set i (some (.ref p))) (aj M p (.exc cls)) else tr cls D τ M
section
variable {X:Cx} {y:Str} {F:Addr} {np hpos:Pos} {b₀:Stmt} {body:List Stmt} {ts:aF} {rest:List ExceptHandler} {tr:Value→aF}
theorem qj:PH X [] yy:=fun _ _ _ _ _ _ _ _ _ ⟨_,_,_,_,_,h,_⟩=>h.elim
theorem Aw (hex:X.ex=[]) (hst:X.stack=X.env::X.outer) (hc:X.calm=true) (nm:X.mg y=some (.ref F)) (hsuite:∀a,bx (X.mark a) (b₀::body) (aR X.K ts)) (hrest:PH X rest tr) (hg:Gl X y:=by rfl) (hdb:(y ==("__debug__" : Str))=false:=by decide) :
  PH X (.ExceptHandler (some (.Name y np)) none (b₀::body) hpos::rest) (A2 X.K F ts tr):=by
 rintro aa s σ H D a T cls FL ⟨τ,M,D',hs,hm,⟨C,b,hcl,isa,q⟩,hd'⟩
 subst hcl
 have I:=FL.inv
 obtain ⟨bm,N,nmC,qn,bs,hdct,sn,sub,ab,col,dd,k0,k1,k2,k3,k5,mN,hC,_,_,_⟩:=gm I.mod.kin isa.c
 obtain ⟨bm',N',nm',qn',bs',hdct',sn',sub',ab',col',dd',l0,l1,l2,l3,l5,mN',hF,_,_,TL'⟩:=gm I.mod.kin isa.f
 obtain ⟨oe,vs,a0,oT,ts',t1,⟨hcls,_⟩,_⟩:=id FL.tr
 have hmro:=ue I.mod.kin isa.m hC
 refine wpAny_handleBy_cons (codeAny_handlers_test (gf (X:=X.mark a) (Inv.mark a I) hg nm ?_ hdb)) (by intro q;cases q)
 refine rP (g:=s.gens) (d:=s.drawn) (t:=s.toks) (os:=s.os) (I.bk _ _ hC) (I.bk _ _ hF) t1 hcls (TL'.hasType rfl) hmro ?_
 cases b with
 |true =>
  refine codeAny_handlers_suite (FL.again hex hst fun h' T' FL'=>?_)
  exact wpAny_mono (hsuite a aa _ σ H D (Inv.mark a FL'.inv) ⟨τ,M,D',hs,hm,q,hd'⟩) (fun f s2 z=>B4 I.ok.hd z) fun _ _ z=>False.elim z
 |false=>exact hrest aa _ σ H D a T (.ref C) FL ⟨τ,M,D',hs,hm,q,hd'⟩
theorem qF {i:Nat} {n:Str} (hex:X.ex=[]) (hst:X.stack=X.env::X.outer) (hc:X.calm=true) (hN:X.N.Nodup) (nm:X.mg y=some (.ref F)) (hsuite:∀a,bx (X.mark a) (b₀::body) (aR X.K ts)) (hrest:PH X rest tr) (hi:X.N[i]?=some n:=by rfl) (hl:X.env.scope.names.lookup n=some .local:=by rfl) (hl':X.env.kindOf n=some .local:=by rfl) (hg:Gl X y:=by rfl) (hdb:(y ==("__debug__" : Str))=false:=by decide) :
  PH X (.ExceptHandler (some (.Name y np)) (some n) (b₀::body) hpos::rest) (Fs X.K F i ts tr):=by
 rintro aa s σ H D a T cls FL ⟨τ,M,D',hs,hm,⟨C,b,hcl,isa,q⟩,hd'⟩
 subst hcl
 have I:=FL.inv
 obtain ⟨bm,N,nmC,qn,bs,hdct,sn,sub,ab,col,dd,k0,k1,k2,k3,k5,mN,hC,_,_,_⟩:=gm I.mod.kin isa.c
 obtain ⟨bm',N',nm',qn',bs',hdct',sn',sub',ab',col',dd',l0,l1,l2,l3,l5,mN',hF,_,_,TL'⟩:=gm I.mod.kin isa.f
 obtain ⟨oe,vs,a0,oT,ts',t1,⟨hcls,_⟩,_⟩:=id FL.tr
 have hmro:=ue I.mod.kin isa.m hC
 refine wpAny_handleBy_cons (codeAny_handlers_test (gf (X:=X.mark a) (Inv.mark a I) hg nm ?_ hdb)) (by intro q;cases q)
 refine rP (g:=s.gens) (d:=s.drawn) (t:=s.toks) (os:=s.os) (I.bk _ _ hC) (I.bk _ _ hF) t1 hcls (TL'.hasType rfl) hmro ?_
 cases b with
 |false=>exact hrest aa _ σ H D a T (.ref C) FL ⟨τ,M,D',hs,hm,q,hd'⟩
 |true =>
  refine codeAny_handlers_suite_as (FL.again hex hst fun h' T' FL'=>?_)
  have hne:=FL'.new a (by simp)
  refine sY (X:=X.mark a) (v:=.ref a) (Inv.mark a FL'.inv) hN hi (.inl hl) rfl (fun s2 I2 zz0=>?_) (.inr hl)
  obtain ⟨b,hsb,hb⟩:=zz0
  have hab:a≠b:=by
   rcases hb with rfl|hb
   ·exact hne.2.2.1
   ·exact fun z=>hne.2.2.2.1 _ _ hb z.symm
  obtain ⟨oe2,_,_,_,_,u1,⟨u2,_⟩,_⟩:=id FL'.tr
  have hob2:s2.heap.get? a=some oe2:=(hsb.2 a hab).trans u1
  have I3:=Inv.track (φ:=fun h=>∃ob,h.get? a=some ob∧ob.cls=.ref C) I2 hne ⟨oe2,hob2,u2⟩ ⟨oe2,hob2⟩ fun h1 h2 ⟨ob,e1,e2⟩ k=>⟨ob,k ob e1,e2⟩
  have q':∀p,M p=none→ts (pH i D') (τ.set i (some (.ref p))) (aj M p (.exc (.ref C))):=q
  have ex:Ext X.K H (upd H a (.ext fun h=>∃ob,h.get? a=some ob∧ob.cls=.ref C)):=bP hne.2.1
  have hM3:aw X.K (aj M a (.exc (.ref C))) (upd H a (.ext fun h=>∃ob,h.get? a=some ob∧ob.cls=.ref C)):=hm.newM hne.2.1 (show ff X.K _ a (.exc (.ref C)) from ⟨_,bV,fun h z=>z⟩)
  have hs3:aO X.K (τ.set i (some (.ref a))) (σ.set i (some (.ref a))) (upd H a (.ext fun h=>∃ob,h.get? a=some ob∧ob.cls=.ref C)):=(hs.mono ex).set (.ref a)
  have hrun:=hsuite a aa s2 _ _ { nx:=fun σ' H'=>D.nx (σ'.set i none) H',rt:=D.rt,bk:=fun σ' H'=>D.bk (σ'.set i none) H',ct:=fun σ' H'=>D.ct (σ'.set i none) H' } I3 ⟨_,_,pH i D',hs3,hM3,q' a (hm.free hne.2.1),⟨fun τ1 M1 σ1 H1 a1 a2 a3 a4=>hd'.nx _ M1 _ H1 (aO.drop a1) a2 (ex.trans a3) a4,hd'.rt.ext ex,fun τ1 M1 σ1 H1 a1 a2 a3 a4=>hd'.bk _ M1 _ H1 (aO.drop a1) a2 (ex.trans a3) a4,fun τ1 M1 σ1 H1 a1 a2 a3 a4=>hd'.ct _ M1 _ H1 (aO.drop a1) a2 (ex.trans a3) a4⟩⟩
  refine wpAny_mono hrun (fun f s3 z=>?_) fun _ _ z=>False.elim z
  cases f with
  |next=>obtain ⟨σ',H',J,z⟩:=z;exact Inv.goes (Inv.unmark I.ok.hd J) hl' hN hi fun s4 J4=>⟨_,H',J4,z⟩
  |brk=>obtain ⟨σ',H',J,z⟩:=z;exact Inv.goes (Inv.unmark I.ok.hd J) hl' hN hi fun s4 J4=>⟨_,H',J4,z⟩
  |cont=>obtain ⟨σ',H',J,z⟩:=z;exact Inv.goes (Inv.unmark I.ok.hd J) hl' hN hi fun s4 J4=>⟨_,H',J4,z⟩
  |ret u=>obtain ⟨v,σ',H',J,r,z⟩:=z;exact Inv.goes (Inv.unmark I.ok.hd J) hl' hN hi fun s4 J4=>⟨v,_,H',J4,r,z⟩
end
noncomputable def XP (X:Cx) (aa:List (Addr×Obj)) (σ:St) (H:Hp) (EX:Value→DH→Prop) (e:Value) (s':Shared):Prop:=∃a T cls H2 M2,e=.ref a∧cT X aa σ H2 s' a T cls∧aw X.K M2 H2∧Ext X.K H H2∧EX cls M2
section
variable {X:Cx} {e:Expr} {es:List Expr} {pos:Pos} {t:br}
theorem rD {k:Nat} {x:Str} {ps:List Str} {sp:cZ} {p:Pos} {aa:List (Addr×Obj)} {s:Shared} {σ:St} {H:Hp} {Q:VK} {Q':KD} {τ:aJ} {M:DH} {EX:Value→DH→Prop} (F:fz X.prog X.w X.K X.mg X.base k x ps sp) (hex:X.ex=[]) (hr:aW k X.A) (ha:PA X.nox (e::es) (cg X.K t)) (hg:Gl X x) (hdb:(x ==("__debug__" : Str))=false)
  (he:starEach (e::es) X.env=(false,eval e X.env)::starEach es X.env) (hpl:(backTo pos (starEach es X.env)).any (·.1)=false) (I:Inv X aa σ H s) (hs:aO X.K τ σ H) (hm:aw X.K M H) (h:t τ M fun ds M1=>sp ds M1 Q' EX) (hq:cN X.K H Q' Q) :
  wpAny (model X.prog X.w) X.A (eval (.Call (.Name x p) (e::es) [] pos) X.env) (EP X aa σ Q) (XP X aa σ H EX) s:=by
 obtain ⟨f,fd,F,hmg,hk,hb⟩:=F.ex
 refine wpAny_Call_Name_kw (gf I hg hmg ?_ hdb)
 have hA:=ha pos aa s σ H (fun vs H1=>∃ds M1,aw X.K M1 H1∧Ext X.K H H1∧az X.K H1 vs ds∧sp ds M1 Q' EX) (I.wish _) ⟨τ,M,_,hs,hm,h,fun ds M1 vs H1 m1 e1 i1 h1=>⟨ds,M1,m1,e1,i1,h1⟩⟩
 refine PySem.W.callWith_K (h₀:=X.base) I.ok.mod.kin hk (wpAny_mono hA (fun us s1 zz0=>?_) fun _ _ z=>False.elim z) he hpl
 obtain ⟨vs,H1,I1,r,⟨ds,M1,m1,e1,i1,h1⟩⟩:=zz0
 refine ⟨I1.unwish.kIn,?_⟩
 have J1:=I1.unwish
 have h2:qu X.K sp vs H1 Q fun cls _ H2=>∃M2,aw X.K M2 H2∧EX cls M2:=⟨ds,M1,Q',EX,i1,m1,h1,hq.ext e1,fun cls M2 H2 m2 _ q=>⟨M2,m2,q⟩⟩
 have hl:us.length=ps.length:=by rw [←r.length];exact F.len _ _ _ _ h2
 have hbn:=hb s1 us J1.kIn (by rw [List.append_nil];exact hl)
 rw [List.append_nil] at hbn
 refine wpAny_call (codeAny_mono (F.run X.A X.stack s1 H1 ⟨us,[]⟩ us vs Q _ hr J1.env0 hbn r h2) fun rr s' hq'=>?_)
 cases rr with
 |error e =>
  obtain ⟨a,T,cls,H2,ea,FL,ex,M2,m2,q2⟩:=FZ (E1:=fun cls _ H2=>∃M2,aw X.K M2 H2∧EX cls M2) J1 hex hq'
  exact ⟨a,T,cls,H2,M2,ea,FL,m2,e1.trans ex,q2⟩
 |ok fl =>
  cases fl with
  |ret u=>exact J1.after hq'
  |next=>exact False.elim hq'
  |brk=>exact False.elim hq'
  |cont=>exact False.elim hq'
noncomputable def zT (sp:cZ) (t:br) (th:Value→aF):aF:=fun D τ M=>t τ M fun ds M1=>sp ds M1 (fun _ M2=>D.nx τ M2) fun cls M2=>∃M0,Sub M0 M2∧th cls D τ M0
noncomputable def BQ (i:Nat) (sp:cZ) (t:br) (u:aF) (th:Value→aF):aF:=fun D τ M=>t τ M fun ds M1=>sp ds M1 (fun d M2=>u D (τ.set i (some d)) M2) fun cls M2=>∃M0,Sub M0 M2∧th cls D τ M0
theorem tZ {h₀:ExceptHandler} {hs:List ExceptHandler} {th:Value→aF} {aa:List (Addr×Obj)} {σ:St} {H:Hp} {D:Ends} {D':cp} {τ:aJ} {v:Value} {s':Shared} (hex:X.ex=[]) (hst:X.stack=X.env::X.outer) (hf:X.env.frame=some X.env.locals) (hh:PH X (h₀::hs) th) (hS:aO X.K τ σ H) (hd:dR X.K H D' D)
  (h:XP X aa σ H (fun cls M2=>∃M0,Sub M0 M2∧th cls D' τ M0) v s'):wpAny (model X.prog X.w) X.A (noteFrame v X.env) (fun _ s₂=>wpAny (model X.prog X.w) X.A (setFlight v none) (fun _ s₃=>wpAny (model X.prog X.w) X.A (handleBy v X.env (h₀::hs)) (SP X aa D) X.xe s₃) X.xe s₂) X.xe s':=by
 obtain ⟨a,T,cls,H2,M2,rfl,FL,m2,e2,M0,sub,q⟩:=h
 exact FL.look hex hst hf fun h' T' FL'=>hh aa _ σ H2 D a T' cls FL' ⟨τ,M0,D',hS.mono e2,m2.sub sub,q,hd.ext e2⟩
theorem uh {k:Nat} {x:Str} {ps:List Str} {sp:cZ} {p ep tpos:Pos} {h₀:ExceptHandler} {hs:List ExceptHandler} {th:Value→aF} (F:fz X.prog X.w X.K X.mg X.base k x ps sp) (hex:X.ex=[]) (hst:X.stack=X.env::X.outer) (hf:X.env.frame=some X.env.locals) (hr:aW k X.A) (ha:PA X.nox (e::es) (cg X.K t)) (hh:PH X (h₀::hs) th)
  (hg:Gl X x:=by rfl) (hdb:(x ==("__debug__" : Str))=false:=by decide) (he:starEach (e::es) X.env=(false,eval e X.env)::starEach es X.env:=by rfl) (hpl:(backTo pos (starEach es X.env)).any (·.1)=false:=by rfl)
  (hsw:swapsWith (.Call (.Name x p) (e::es) [] pos) none ep.line X.env=pure false:=by rfl):PS X (.Try [.Expr (.Call (.Name x p) (e::es) [] pos) ep] (h₀::hs) [] [] tpos) (aR X.K (zT sp t th)):=by
 rintro aa s σ H D I ⟨τ,M,D',hS,hm,h,hd⟩
 refine wpAny_Try_except (wpAny_mono (E:=XP X aa σ H fun cls M2=>∃M0,Sub M0 M2∧th cls D' τ M0) (Q:=fun f s1=>f=.next∧∃H1,Inv X aa σ H1 s1∧D.nx σ H1) ?_ (fun f s1 z=>?_) fun v s' z=>tZ hex hst hf hh hS hd z)
 ·have hc:=rD (p:=p) (pos:=pos) (Q:=fun _ H1=>D.nx σ H1) (Q':=fun _ M2=>D'.nx τ M2) F hex hr ha hg hdb he hpl I hS hm h (fun d M1 v H1 m1 e1 i1 q=>hd.nx τ M1 σ H1 (hS.mono e1) m1 e1 q)
  refine wpAny_execs_cons (wpAny_Expr_any (wpAny_mono hc (fun v s1 zz0=>?_) fun _ _ z=>z) I.quiet hsw)
  obtain ⟨y,H1,I1,r1,q1⟩:=zz0
  exact wpAny_execs_nil ⟨rfl,H1,I1,q1⟩
 ·obtain ⟨rfl,H1,I1,q1⟩:=z
  exact wpAny_execs_nil ⟨σ,H1,I1,q1⟩
theorem Dd {k i:Nat} {x v:Str} {ps:List Str} {sp:cZ} {p ep tpos vp:Pos} {rest:List Stmt} {u:aF} {h₀:ExceptHandler} {hs:List ExceptHandler} {th:Value→aF} (F:fz X.prog X.w X.K X.mg X.base k x ps sp) (hex:X.ex=[]) (hst:X.stack=X.env::X.outer) (hf:X.env.frame=some X.env.locals) (hN:X.N.Nodup) (hr:aW k X.A) (ha:PA X.nox (e::es) (cg X.K t)) (hu:bx X.nox rest (aR X.K u)) (hh:PH X (h₀::hs) th)
  (hi:X.N[i]?=some v:=by rfl) (hlo:Loc X.env.scope v:=by exact Or.inl rfl) (hfn:X.fn v=true∨X.env.scope.names.lookup v=some .local:=by first|exact .inl rfl|exact .inr rfl)
  (hg:Gl X x:=by rfl) (hdb:(x ==("__debug__" : Str))=false:=by decide) (he:starEach (e::es) X.env=(false,eval e X.env)::starEach es X.env:=by rfl) (hpl:(backTo pos (starEach es X.env)).any (·.1)=false:=by rfl)
  (hsw:swapsWith (.Call (.Name x p) (e::es) [] pos) (some (.Name v vp)) ep.line X.env=pure false:=by rfl):PS X (.Try (.Assign [.Name v vp] (.Call (.Name x p) (e::es) [] pos) ep::rest) (h₀::hs) [] [] tpos) (aR X.K (BQ i sp t u th)):=by
 rintro aa s σ H D I ⟨τ,M,D',hS,hm,h,hd⟩
 refine wpAny_Try_except (wpAny_mono (E:=XP X aa σ H fun cls M2=>∃M0,Sub M0 M2∧th cls D' τ M0) (Q:=SP X aa D) ?_ (fun f s1 z=>?_) fun v s' z=>tZ hex hst hf hh hS hd z)
 ·have hc:=rD (p:=p) (pos:=pos) (Q:=fun y H1=>∃d M1,aw X.K M1 H1∧Ext X.K H H1∧Is X.K H1 y d∧u D' (τ.set i (some d)) M1) (Q':=fun d M2=>u D' (τ.set i (some d)) M2) F hex hr ha hg hdb he hpl I hS hm h (fun d M1 v H1 m1 e1 i1 q=>⟨d,M1,m1,e1,i1,q⟩)
  refine wpAny_execs_cons (wpAny_Assign_Name (wpAny_mono hc (fun w s1 zz0=>?_) fun _ _ z=>z) hsw)
  obtain ⟨y,H1,I1,r1,d,M1,m1,e1,i1,q1⟩:=zz0
  refine kq I1 hN hi hlo r1 (fun s2 I2=>?_) hfn
  exact wpAny_mono (hu aa s2 _ H1 D (I2.wish _) ⟨_,M1,D',(hS.mono e1).set i1,m1,q1,hd.ext e1⟩) (fun f s3 z=>z.unwish) fun _ _ z=>False.elim z
 ·cases f with
  |next=>exact wpAny_execs_nil z
  |ret u=>exact z
  |brk=>exact z
  |cont=>exact z
end
end DL
namespace DL
open PySem PySem.Spec PyProof.Rows L2
section
variable {prog:Program} {w:World} {A:Around} {E:Value→Shared→Prop} {h:Heap} {g:Array GenState} {d:Drawn} {t:Nat} {os:OsState} {a:Addr} {o:Obj}
 {nm q:Str} {C N:Addr} {bs bm:List Value} {hdct:Bool} {sn:List Str} {sub:List Value} {ab:Bool} {col:Option Bool} {dd:Option Addr} {k0 k1 k2 k3 k5:Option Value} {newId:String}
theorem EU {R:Result→Shared→Prop} (hC:h.get? C=some (excClassObj nm q C N bs bm hdct sn sub ab col dd k0 k1 k2 k3 k5 newId)) (ho:bm.contains (.type "object")=true) (hx:h.get? a=some o) (hc:o.cls=.ref C) (hq:R (.ok (.ret (.ref C))) ⟨h,g,d,t,os⟩) :
  codeAny (model prog w) A (.call (.builtin "getset_descriptor.__get__") ⟨[.builtin "object.__class__",.ref a,.ref C],[]⟩) R ⟨h,g,d,t,os⟩:=by
 have hT5:(⟨h,g,d,t,os⟩:Shared).TypeIs (.builtin "object.__class__") "getset_descriptor" :=F.typeOf_object_class
 have hcB:(Value.ref C::bm).contains (.type (".".intercalate ("object.__class__".cutAt '.').dropLast))=true:=by
  rw [F.owner_object_class,List.contains_cons,ho];rfl
 refine codeAny_call_builtin F.slot_gs_get.plain F.entry_gs_get (F.slot_gs_get.check _ _ _ _ _ _ _ _ hT5 (F.args_gs_get _ _ _) ?_)
 repeat (any_goals (first|assumption|(with_reducible refine wpAny_loadPart_at hx ?_;rw [hc])|(with_reducible refine wpAny_isSubtype_exc hC ?_;rw [hcB])|wp_step))
 refine ⟨Code.quiet_builtin _ (by decide +kernel),codeAny_builtin F.entry_object_class ?_⟩
 repeat (any_goals (first|assumption|(with_reducible refine wpAny_loadPart_at hx ?_;rw [hc])|wp_step))
theorem DB {tk:Tok} {Q:Fin→Shared→Prop} (hC:h.get? C=some (excClassObj nm q C N bs bm hdct sn sub ab col dd k0 k1 k2 k3 k5 newId)) (ho:bm.contains (.type "object")=true) (L:PySem.W.Looks (model prog w) h (typeLookup (.ref C) "__class__") (some (.builtin "object.__class__")))
  (hx:h.get? a=some o) (hc:o.cls=.ref C) (hq:Q (.done (.ret (.ref C))) ⟨h,g,d,t,os⟩) :
  wpAny (model prog w) A (Builtin.«object.__getattribute__» ⟨[.ref a,.str "__class__" tk],[]⟩) Q E ⟨h,g,d,t,os⟩:=by
 have hT5:(⟨h,g,d,t,os⟩:Shared).TypeIs (.builtin "object.__class__") "getset_descriptor" :=F.typeOf_object_class
 have f5:=F.typeOf_object_class
 have f6:=F.slot_gs_get.lookup
 have f7:=F.slot_gs_set.lookup
 repeat (any_goals (first|assumption|(with_reducible refine wpAny_loadPart_at hx ?_;rw [hc])|with_reducible refine L.at ?_|wp_step))
 refine EU hC ho hx hc ?_
 repeat (any_goals (first|assumption|wp_step))
theorem Dg {M:Model} {nameV:Value} {Q:Unit→Shared→Prop} (hC:h.get? C=some (excClassObj nm q C N bs bm hdct sn sub ab col dd k0 k1 k2 k3 k5 newId)) (hb:bm.contains (.type "BaseException")=true)
  (hx:h.get? a=some o) (hc:o.cls=.ref C) (hq:Q () ⟨h,g,d,t,os⟩):wpAny M A (checkBuiltinCall "BaseException.__getattribute__" ⟨[.ref a,nameV],[]⟩) Q E ⟨h,g,d,t,os⟩:=by
 have hk:builtinKind "BaseException.__getattribute__" = some .slot:=by decide +kernel
 have hsplit:splitId "BaseException.__getattribute__" = some ("BaseException", "__getattribute__"):=by decide +kernel
 have hcB:(Value.ref C::bm).contains (.type "BaseException")=true:=by rw [List.contains_cons,hb];rfl
 have ha:=F.args_bexc_ga (.ref a) nameV
 simp only [checkBuiltinCall,hk,hsplit]
 refine wpAny_bind ?_
 ·unfold isInstance
  repeat (first|(with_reducible refine wpAny_loadPart_at hx ?_;rw [hc])|(with_reducible refine wpAny_isSubtype_exc hC ?_;rw [hcB])|wp_step)
  exact hq
theorem EN {tk:Tok} {fill expr:Bool} {Q:Value→Shared→Prop} (hC:h.get? C=some (excClassObj nm q C N bs bm hdct sn sub ab col dd k0 k1 k2 k3 k5 newId)) (ho:bm.contains (.type "object")=true) (hb:bm.contains (.type "BaseException")=true)
  (L:PySem.W.Looks (model prog w) h (typeLookup (.ref C) "__class__") (some (.builtin "object.__class__"))) (L1:PySem.W.Looks (model prog w) h (typeLookup (.ref C) "__getattribute__") (some (.builtin "BaseException.__getattribute__"))) (L2:PySem.W.Looks (model prog w) h (typeLookup (.ref C) "__getattr__") none)
  (hx:h.get? a=some o) (hc:o.cls=.ref C) (hq:Q (.ref C) ⟨h,g,d,t,os⟩):wpAny (model prog w) A (getAttrBy (.ref a) (.str "__class__" tk) fill expr) Q E ⟨h,g,d,t,os⟩:=by
 have f3:=F.excAttr_ValueError.ga.bind (.ref a)
 have hx0:(expr && onTheHeap (Value.builtin "BaseException.__getattribute__"))=false:=by cases expr<;>rfl
 have hx2:(Value.builtin "BaseException.__getattribute__" ==Value.builtin "object.__getattribute__")=false:=by decide +kernel
 have hx1:(onTheHeap (Value.ref C) && Value.builtin "BaseException.__getattribute__" ==Value.builtin "object.__getattribute__")=false:=by rw [hx2];rfl
 repeat (any_goals (first|assumption|(with_reducible refine wpAny_loadPart_at hx ?_;rw [hc])|with_reducible refine L1.at ?_|with_reducible refine L2.at ?_|wp_step))
 refine codeAny_call_builtin F.excAttr_ValueError.ga.plain F.entry_bexc_ga (Dg hC hb hx hc (DB hC ho L hx hc ?_))
 repeat (any_goals (first|assumption|wp_step))
theorem HF {Q:Option Value→Shared→Prop} (hC:h.get? C=some (excClassObj nm q C N bs bm hdct sn sub ab col dd k0 k1 k2 k3 k5 newId)) (ho:bm.contains (.type "object")=true) (hb:bm.contains (.type "BaseException")=true)
  (L:PySem.W.Looks (model prog w) h (typeLookup (.ref C) "__class__") (some (.builtin "object.__class__"))) (L1:PySem.W.Looks (model prog w) h (typeLookup (.ref C) "__getattribute__") (some (.builtin "BaseException.__getattribute__"))) (L2:PySem.W.Looks (model prog w) h (typeLookup (.ref C) "__getattr__") none)
  (hx:h.get? a=some o) (hc:o.cls=.ref C) (hq:Q (some (.ref C)) ⟨h,g,d,t+1,os⟩):wpAny (model prog w) A (getAttr? (.ref a) "__class__") Q E ⟨h,g,d,t,os⟩:=by
 unfold getAttr? getAttrBy?
 repeat (any_goals (first|assumption|with_reducible apply EN hC ho hb L L1 L2 hx hc|wp_step))
end
structure kC (K:PySem.W.Frag) (C:Addr):Prop where
 ow:PySem.W.excIn K C iw "ValueError.__new__" = true
 f1:PySem.W.findIn K (.ref C) "__class__" = some (some (.builtin "object.__class__"))
 f2:PySem.W.findIn K (.ref C) "__getattribute__" = some (some (.builtin "BaseException.__getattribute__"))
 f3:PySem.W.findIn K (.ref C) "__getattr__" = some none
theorem uu {K:PySem.W.Frag} {C a:Addr} (x:kC K C):PySem.W.KitX K (.ref a) (.ref C) (fun h=>∃ob,h.get? a=some ob∧ob.cls=.ref C) where
 ty:=fun M h _ ⟨o,h1,h2⟩=>h2▸(PySem.W.Looks.ld h1).andThen .now
 it:=fun _ _ X _=>by
  obtain ⟨bm,N,nmC,qn,bs,hdct,sn,sub,ab,col,dd,k0,k1,k2,k3,k5,mN,hC,_,_,_⟩:=gm X x.ow
  intro A' Q' E' s' k q
  unfold isType PySem.loadHead
  exact wpAny_bind (wpAny_loadPart (k _ _ hC) (wpAny_pure q))
 ne:=fun h tp dd ai n sl X htp=>by
  obtain ⟨bm,N,nmC,qn,bs,hdct,sn,sub,ab,col,dd',k0,k1,k2,k3,k5,mN,hC,_,_,_⟩:=gm X x.ow
  refine Bool.eq_false_iff.mpr fun q=>?_
  have e:C=tp:=Value.ref.inj (beq_iff_eq.mp q)
  subst e
  rw [hC] at htp
  have z:=congrArg Obj.data (Option.some.inj htp)
  simp at z
 ca:=fun {prog w A E Q s} X ⟨o,h1,h2⟩ k=>by
  obtain ⟨bm,N,nmC,qn,bs,hdct,sn,sub,ab,col,dd',k0,k1,k2,k3,k5,mN,hC,_,_,TL⟩:=gm X x.ow
  obtain ⟨h,g,d,t,os⟩:=s
  exact HF hC (TL.hasType rfl) (TL.hasType rfl) (PySem.W.looks_findIn X x.f1) (PySem.W.looks_findIn X x.f2) (PySem.W.looks_findIn X x.f3) h1 h2 k
noncomputable def A0 (K:PySem.W.Frag):List D→DH→KD→Prop
 |[.ref p,.ref F],M,Q=>∃C b,M p=some (.exc (.ref C))∧kC K C∧PySem.W.kitOne K (.ref C) (.ref F)=some b∧Q (.bl b) M
 |[.ref p,.ty T],M,Q=>∃C b,M p=some (.exc (.ref C))∧kC K C∧PySem.W.kitOne K (.ref C) (.type T)=some b∧Q (.bl b) M
 |_,_,_=>False
theorem r0 {X:Cx} {K:PySem.W.Frag} (hK:X.K=K):fT X (.builtin "isinstance") (A0 K):=by
 subst hK
 rintro aa s σ H vs us Q I r ⟨ds,M,Q',iss,hm,q,hq⟩
 match ds,q,iss with
 |[.ref p,.ref F],q,iss =>
  obtain ⟨v,v',rfl,h1,h2⟩:=lA iss
  (first|cases h1.inv|cases h1);(first|cases h2.inv|cases h2)
  obtain ⟨u,w',rfl,r1,r2⟩:=vals2 r
  cases r1;cases r2
  obtain ⟨C,b,hp,xc,hk,q⟩:=q
  obtain ⟨φ,e1,e2⟩:=hm p _ hp
  exact PySem.W.kia_one (uu xc) I.kIn (e2 _ (I.ao p _ e1).1) hk (fun z=>nomatch z) fun tk=>⟨.bl _,H,I.tok tk,rfl,hq.here hm (.bl _) q⟩
 |[.ref p,.ty T],q,iss =>
  obtain ⟨v,v',rfl,h1,h2⟩:=lA iss
  (first|cases h1.inv|cases h1);(first|cases h2.inv|cases h2)
  obtain ⟨u,w',rfl,r1,r2⟩:=vals2 r
  cases r1;cases r2
  obtain ⟨C,b,hp,xc,hk,q⟩:=q
  obtain ⟨φ,e1,e2⟩:=hm p _ hp
  exact PySem.W.kia_one (uu xc) I.kIn (e2 _ (I.ao p _ e1).1) hk (fun z=>nomatch z) fun tk=>⟨.bl _,H,I.tok tk,rfl,hq.here hm (.bl _) q⟩
theorem Gq {X:Cx} {x:Str} {C:Addr} {pos:Pos} (hg:Gl X x) (hm:X.mg x=some (.ref C)) (hd:(x ==("__debug__" : Str))=false:=by decide):PE X (.Name x pos) (low X.K (eC (.ref C))) :=
 (wq (v:=.ref C) hg hm rfl hd).imp fun _ _ _ h=>gZ (fun _=>.ref C) h
theorem Gs:bootBuiltins "ValueError" = some (.type "ValueError"):=by decide +kernel
noncomputable def cl (mg:Str→Option Value) (x:Str):Addr:=match mg x with
 |some (.ref C)=>C
 |_=>0
theorem lW {mg:Str→Option Value} {x:Str} {C:Addr} (h:mg x=some (.ref C)):cl mg x=C:=by unfold cl;rw [h]
noncomputable def xh (K:PySem.W.Frag) (cs:List Addr):List (List (Option Bool)):=cs.map fun c=>cs.map fun f=>PySem.W.kitOne K (.ref c) (.ref f)
noncomputable def sN (K:PySem.W.Frag) (cs:List Addr):List (List (Option Bool)):=cs.map fun c=>cs.map fun f=>kK K c (.ref f)
structure fe (K:PySem.W.Frag) (cs:List Addr) (tab:List (List Bool)):Prop where
 ow:∀c∈cs,PySem.W.excIn K c iw "ValueError.__new__" = true
 kt:xh K cs=tab.map fun r=>r.map some
 ia:sN K cs=tab.map fun r=>r.map some
 ve:cs.map (fun c=>PySem.W.kitOne K (.ref c) (.type "ValueError"))=cs.map fun _=>some true
 f1:cs.map (fun c=>PySem.W.findIn K (.ref c) "__class__")=cs.map fun _=>some (some (.builtin "object.__class__"))
 f2:cs.map (fun c=>PySem.W.findIn K (.ref c) "__getattribute__")=cs.map fun _=>some (some (.builtin "BaseException.__getattribute__"))
 f3:cs.map (fun c=>PySem.W.findIn K (.ref c) "__getattr__")=cs.map fun _=>some none
section
variable {K:PySem.W.Frag} {cs:List Addr} {tab:List (List Bool)} {i j:Nat} {c f:Addr} {r:List Bool} {b:Bool}
theorem mE {α β:Type} {g g':α→β} {xs:List α} {i:Nat} {x:α} (h:xs.map g=xs.map g') (e:xs[i]?=some x):g x=g' x:=by
 have h1:=congrArg (fun l=>l[i]?) h
 simp only [List.getElem?_map,e,Option.map_some,Option.some.injEq] at h1
 exact h1
theorem sf {g:Addr→Addr→Option Bool} (h:(cs.map fun c=>cs.map fun f=>g c f)=tab.map fun r=>r.map some) (hc:cs[i]?=some c) (hf:cs[j]?=some f) (hr:tab[i]?=some r) (hb:r[j]?=some b):g c f=some b:=by
 have h1:=congrArg (fun l=>l[i]?) h
 simp only [List.getElem?_map,hc,hr,Option.map_some,Option.some.injEq] at h1
 have h2:=congrArg (fun l=>l[j]?) h1
 simp only [List.getElem?_map,hf,hb,Option.map_some,Option.some.injEq] at h2
 exact h2
theorem fe.kit (X:fe K cs tab) (i j:Nat) (hc:cs[i]?=some c) (hf:cs[j]?=some f) (hr:tab[i]?=some r) (hb:r[j]?=some b):PySem.W.kitOne K (.ref c) (.ref f)=some b:=sf X.kt hc hf hr hb
theorem fe.isa (X:fe K cs tab) (i j:Nat) (hc:cs[i]?=some c) (hf:cs[j]?=some f) (hr:tab[i]?=some r) (hb:r[j]?=some b):kN K c f b:=⟨X.ow c (List.mem_of_getElem? hc),X.ow f (List.mem_of_getElem? hf),sf X.ia hc hf hr hb⟩
theorem fe.xcl (X:fe K cs tab) (i:Nat) (hc:cs[i]?=some c):kC K c:=⟨X.ow c (List.mem_of_getElem? hc),mE X.f1 hc,mE X.f2 hc,mE X.f3 hc⟩
theorem fe.vee (X:fe K cs tab) (i:Nat) (hc:cs[i]?=some c):PySem.W.kitOne K (.ref c) (.type "ValueError")=some true:=mE X.ve hc
end
theorem fz.nox {P:Program} {w:World} {K:PySem.W.Frag} {mg:Str→Option Value} {base:Heap} {k:Nat} {x:Str} {ps:List Str} {sp:cZ} (F:fz P w K mg base k x ps sp):bu P w K mg base k x ps (fun ds M Q=>sp ds M Q fun _ _=>False):=by
 obtain ⟨f,fd,a,b,c,d⟩:=F.ex
 refine ⟨f,fd,⟨fun vs H Q E ⟨ds,M,Q',i,m,q,hq⟩=>a.len vs H Q E ⟨ds,M,Q',_,i,m,q,hq,fun _ _ _ _ _ z=>z.elim⟩,fun A outer s H args us vs Q E hr he hb hv zz0=>?_⟩,b,c,d⟩
 obtain ⟨ds,M,Q',i,m,q,hq⟩:=zz0
 refine codeAny_mono (a.run A outer s H args us vs Q (fun _ _ _=>False) hr he hb hv ⟨ds,M,Q',_,i,m,q,hq,fun _ _ _ _ _ z=>z.elim⟩) fun r s' h=>?_
 cases r with
 |ok fl=>cases fl<;>exact h
 |error e=>obtain ⟨_,_,_,_,_,_,_,_,_,_,_,_,_,_,z⟩:=h;exact z.elim
end DL
namespace DL
open PySem PySem.Spec PyProof.Rows L2
section
variable {X:Cx} {k:Nat} {e a b:Expr} {pos:Pos} {ta tb te:aD}
end
end DL
namespace DL
open PySem PySem.Spec PyProof.Rows L2
section
variable {X:Cx}
end
end DL
namespace DL
open PySem PySem.Spec PyProof.Rows L2
section
open Builtin
set_option maxRecDepth 100000
theorem DZ:fillsNumberSlot (.type "tuple") "mul" = pure false :=
 PySem.fillsNumberSlot_seq (id:= "tuple.__mul__") (r:=some (.builtin "tuple.__rmul__")) F.slot_tuple_mul.lookup (by decide +kernel) F.slot_tuple_rmul.lookup (by decide +kernel)
theorem yQ:seqRepeat? (.type "tuple")=pure (some (.builtin "tuple.__mul__")):=by
 unfold seqRepeat?
 rw [PySem.seqSlot_of (T:= "tuple") (name:= "__mul__") (id:= "tuple.__mul__") F.slot_tuple_mul.lookup (by decide +kernel),PySem.seqSlot_of (T:= "tuple") (name:= "__rmul__") (id:= "tuple.__rmul__") F.slot_tuple_rmul.lookup (by decide +kernel)]
 rfl
theorem DG (a:Int) (t:Tok) (l:Addr) (items:Array Value) (n:Nat) (d:Option Addr) (sl:Array (Option Value)) :
  Meets (Builtin.«int.__rmul__» ⟨[.int a t,.ref l],[]⟩) (fun _ R s=>s.heap.get? l=some { cls:=.type "tuple",dict:=d,data:=.seq items n,slots:=sl }∧R (.ok (.ret Value.notImplemented)) s) :=
 .of_wp fun prog w A R s h=>by obtain ⟨hp,g,d,tk,os⟩:=s;obtain ⟨hl,h⟩:=h;wp_walk;exact ⟨_,rfl,h⟩
theorem Cy (l:Addr) (items:Array Value) (n:Nat) (d:Option Addr) (sl:Array (Option Value)) (x:Int) (u:Tok) (hc0:(decide (x < -2 ^ 63) ||decide (x ≥ 2 ^ 63))=false) (hc1:(items.isEmpty ||x ==1)=true) :
  Meets (Builtin.«tuple.__mul__» ⟨[.ref l,.int x u],[]⟩) (fun _ R s=>s.heap.get? l=some { cls:=.type "tuple",dict:=d,data:=.seq items n,slots:=sl }∧R (.ok (.ret (Value.ref l))) s) :=
 .of_wp fun prog w A R s h=>by
  obtain ⟨hp,g,d,tk,os⟩:=s;obtain ⟨hl,h⟩:=h
  wp_walk using wpAny_loadPart' hl
  refine wpAny_ite_false (by rw [hc0];rfl) ?_
  wp_walk using wpAny_loadPart' hl
  exact ⟨_,rfl,h⟩
theorem EV (l:Addr) (items:Array Value) (n:Nat) (d:Option Addr) (sl:Array (Option Value)) (x:Int) (u:Tok) (hc0:(decide (x < -2 ^ 63) ||decide (x ≥ 2 ^ 63))=false) (hc1:(items.isEmpty ||x ==1)=false) (hc2:(decide (x≤0) ||items.isEmpty)=true) :
  Meets (Builtin.«tuple.__mul__» ⟨[.ref l,.int x u],[]⟩) (fun _ R s=>s.heap.get? l=some { cls:=.type "tuple",dict:=d,data:=.seq items n,slots:=sl }∧R (.ok (.ret (Value.ref s.heap.objs.size))) { s with heap:=s.heap.push { cls:=Value.type "tuple",data:=Data.seq #[] } }) :=
 .of_wp fun prog w A R s h=>by
  obtain ⟨hp,g,d,tk,os⟩:=s;obtain ⟨hl,h⟩:=h
  wp_walk using wpAny_loadPart' hl
  refine wpAny_ite_false (by rw [hc0];rfl) ?_
  wp_walk using wpAny_loadPart' hl
  exact ⟨_,rfl,h⟩
theorem Df (l:Addr) (items:Array Value) (n:Nat) (d:Option Addr) (sl:Array (Option Value)) (x:Int) (u:Tok) (hc0:(decide (x < -2 ^ 63) ||decide (x ≥ 2 ^ 63))=false) (hc1:(items.isEmpty ||x ==1)=false) (hc2:(decide (x≤0) ||items.isEmpty)=false) (hc3:¬(items.size:Int)*x > (2 ^ 63-1) / 8) (hc4:Tuple.tupleTooMany (items.size*x)=false) (hc5:¬(List.foldl (fun x1 x2=>x1++x2) #[] (List.replicate x.toNat items)).size > sizeLine) :
  Meets (Builtin.«tuple.__mul__» ⟨[.ref l,.int x u],[]⟩) (fun _ R s=>s.heap.get? l=some { cls:=.type "tuple",dict:=d,data:=.seq items n,slots:=sl }∧R (.ok (.ret (Value.ref s.heap.objs.size))) { s with heap:=s.heap.push { cls:=Value.type "tuple",data:=Data.seq (List.foldl (fun x1 x2=>x1++x2) #[] (List.replicate x.toNat items)) } }) :=
 .of_wp fun prog w A R s h=>by
  obtain ⟨hp,g,d,tk,os⟩:=s;obtain ⟨hl,h⟩:=h
  wp_walk using wpAny_loadPart' hl
  refine wpAny_ite_false (by rw [hc0];rfl) ?_
  wp_walk using wpAny_loadPart' hl
  refine wpAny_ite_false (decide_eq_false hc3) ?_
  wp_walk using wpAny_loadPart' hl
  exact ⟨_,rfl,h⟩
theorem HQ {prog:Program} {w:World} {A:Around} {E:Value→Shared→Prop} {s:Shared} {t:Addr} {vs:List Value} {x:Int} {u:Tok} {Q:Value→Shared→Prop} (ht:IsTup s.heap t vs.toArray) (h0:0≤x) (h1:x≤10) (hl:vs.length≤100)
  (hsame:x=1∨vs=[]→Q (.ref t) s)
  (hnew:Q (.ref s.heap.objs.size) { s with heap:=s.heap.push { cls:=.type "tuple",data:=.seq (List.replicate x.toNat vs).flatten.toArray } }) :
  wpAny (model prog w) A (binaryOp .Mult (.ref t) (.int x u)) Q E s:=by
 obtain ⟨⟨cls,d,data,sl⟩,ho,hcl,k,hd⟩:=id ht
 simp only at hcl hd
 subst hcl hd
 have c0:(decide (x < -2 ^ 63) ||decide (x ≥ 2 ^ 63))=false:=by
  rw [decide_eq_false (by first|lia|omega),decide_eq_false (by first|lia|omega)];rfl
 refine PySem.wpAny_binaryOp_repeat_ref (T:= "tuple") (U:= "int") (by decide) ⟨_,ho,rfl⟩ (fun s'=>typeIs_int s' x u) DZ F.fills_int_mul F.slot_int_rmul yQ F.slot_int_index.lookup
  (call_meets F.slot_int_rmul (typeIs_int s x u) F.entry_int_rmul (F.args_int_rmul_2 _ _) (DG x u t vs.toArray k d sl) ⟨ho,rfl,⟨_,ho,rfl⟩,?_⟩)
 by_cases hc1:(vs.toArray.isEmpty ||x ==1)=true
 ·refine call_meets F.slot_tuple_mul ⟨_,ho,rfl⟩ F.entry_tuple_mul (F.args_tuple_mul_2 _ _) (Cy t vs.toArray k d sl x u c0 hc1) ⟨ho,hsame ?_⟩
  rw [Bool.or_eq_true] at hc1
  rcases hc1 with z|z
  ·exact .inr (by simpa using z)
  ·exact .inl (by simpa using z)
 ·have hc1:(vs.toArray.isEmpty ||x ==1)=false:=by simpa using hc1
  by_cases hc2:(decide (x≤0) ||vs.toArray.isEmpty)=true
  ·have hx:x=0:=by
    rw [Bool.or_eq_true] at hc2
    rw [Bool.or_eq_false_iff] at hc1
    rcases hc2 with z|z
    ·have:=of_decide_eq_true z;(first|lia|omega)
    ·rw [hc1.1] at z;cases z
   subst hx
   exact call_meets F.slot_tuple_mul ⟨_,ho,rfl⟩ F.entry_tuple_mul (F.args_tuple_mul_2 _ _) (EV t vs.toArray k d sl 0 u c0 hc1 hc2) ⟨ho,hnew⟩
  ·have hc2:(decide (x≤0) ||vs.toArray.isEmpty)=false:=by simpa using hc2
   have hsz:(vs.length:Int)*x≤100*10:=Int.mul_le_mul (by first|lia|omega) h1 h0 (by decide)
   have e:List.foldl (fun x1 x2=>x1++x2) #[] (List.replicate x.toNat vs.toArray)=(List.replicate x.toNat vs).flatten.toArray:=by rw [listMul_foldl];simp
   have hle:(List.replicate x.toNat vs).flatten.length≤1000:=by
    rw [List.length_flatten,List.map_replicate,List.sum_replicate_nat]
    calc x.toNat*vs.length≤10*100:=Nat.mul_le_mul (by first|lia|omega) hl
     _≤1000:=by decide
   refine call_meets F.slot_tuple_mul ⟨_,ho,rfl⟩ F.entry_tuple_mul (F.args_tuple_mul_2 _ _) (Df t vs.toArray k d sl x u c0 hc1 hc2 (by rw [List.size_toArray];(first|lia|omega)) (by unfold Tuple.tupleTooMany;rw [List.size_toArray];exact decide_eq_false (by rw [sizeLine_eq];(first|lia|omega))) (by rw [e,List.size_toArray];have:=cL hle;(first|lia|omega))) ⟨ho,?_⟩
   rw [e]
   exact hnew
end
section
variable {X:Cx}
theorem qp {xs:List V} {us:List Value} (h:Vals xs us):∀n:Nat,Vals (List.replicate n xs).flatten (List.replicate n us).flatten
 |0=>.nil
 |n+1=>by rw [List.replicate_succ,List.replicate_succ,List.flatten_cons,List.flatten_cons];exact h.append (qp h n)
theorem wR {K:PySem.W.Frag} {H:Hp} {xs:List V} {us:List D} (h:az K H xs us):∀n:Nat,az K H (List.replicate n xs).flatten (List.replicate n us).flatten
 |0=>.nil
 |n+1=>by rw [List.replicate_succ,List.replicate_succ,List.flatten_cons,List.flatten_cons];exact h.append (wR h n)
noncomputable def Ge:D→D→DH→KD→Prop
 |.tup xs,.int n,M,Q=>(xs.length≤100∧0≤n∧n≤10)∧Q (.tup (List.replicate n.toNat xs).flatten) M
 |_,_,_,_=>False
theorem qc:cx X (binaryOp .Mult) Ge:=by
 rintro aa s σ H vx vy v u Q I rx ry ⟨x,y,M,Q',ix,iy,hm,q,hq⟩
 cases ix with
 |tup ha hxs=>cases iy with
  |int n =>
   rename_i a xs ds
   obtain ⟨⟨h1,h2,h3⟩,q⟩:=q
   cases rx
   obtain ⟨t',rfl⟩:=ry
   obtain ⟨ai,r1,p1,_⟩:=I.tuple ha
   have hlen:=r1.length
   have hlx:=hxs.length
   have hle:(List.replicate n.toNat ai).flatten.length≤1000:=by
    rw [List.length_flatten,List.map_replicate,List.sum_replicate_nat]
    calc n.toNat*ai.length≤10*100:=Nat.mul_le_mul (by first|lia|omega) (by first|lia|omega)
     _≤1000:=by decide
   refine HQ p1 h2 h3 (by first|lia|omega) (fun z=>⟨.ref _,H,I,rfl,?_⟩) ⟨.ref s.heap.objs.size,_,I.laid (t':=s.toks) (o:=.tup (List.replicate n.toNat xs).flatten) (fun b ob q=>Heap.get?_push_of_some _ q) (Nat.le_refl _) ?_,rfl,?_⟩
   ·refine hq.here hm ?_ q
    have e:(List.replicate n.toNat ds).flatten=ds:=by
     rcases z with rfl|rfl
     ·simp
     ·have:ds=[]:=List.length_eq_zero_iff.mp (by rw [←hlx,hlen];rfl)
      rw [this];simp
    rw [e]
    exact .tup ha hxs
   ·exact ⟨by rw [(qp r1 n.toNat).length];exact cL hle,_,qp r1 n.toNat,IsTup.new _ _⟩
   ·have hp:=I.ao.fresh (Nat.le_refl s.heap.objs.size)
    exact hq _ M _ _ (hm.new hp) (bP hp) (.tup (aZ.of bV) ((wR hxs n.toNat).mono (bP hp))) q
  |_=>exact q.elim
 |_=>first|exact q.elim|(cases iy<;>exact q.elim)
end
end DL
namespace DL
open PySem PySem.Spec PyProof.Rows L2
section
variable {X:Cx}
end
end DL
namespace DL
open PySem PySem.Spec PyProof.Rows L2
section
variable {X:Cx} {n:Nat} {o e f:Expr} {apos aA:Pos}
end
end DL
namespace DL
open PySem PySem.Spec PyProof.Rows L2
section
variable {X:Cx}
end
end DL
namespace DL
open PySem PySem.Spec PyProof.Rows L2
section
variable {X:Cx} {e:Expr} {p2 pos:Pos} {lo hi:Option Expr} {se:Expr}
end
end DL
namespace DL
open PySem PySem.Spec PyProof.Rows L2
section
variable {X:Cx} {k:Nat}
end
end DL
namespace DL
open PySem PySem.Spec PyProof.Rows L2
section
variable {α:Type} [DecidableEq α]
noncomputable def bJ (ae:List (α×D)) (k:α):Option D:=(ae.find? fun kv=>decide (kv.1=k)).map (·.2)
noncomputable def cB (ae:List (α×D)) (k:α) (d:D):List (α×D) :=
 if (bJ ae k).isSome=true then ae.map (fun kv=>if kv.1=k then (kv.1,d) else kv) else ae++[(k,d)]
theorem FY {k:α}:bJ [] k=none:=rfl
theorem eT {p:α×D} {r:List (α×D)} {k:α} (e:p.1=k):bJ (p::r) k=some p.2:=by simp [bJ,List.find?_cons,e]
theorem eg {p:α×D} {r:List (α×D)} {k:α} (e:¬p.1=k):bJ (p::r) k=bJ r k:=by simp [bJ,List.find?_cons,e]
theorem tV (k j:α) (d:D):∀ae:List (α×D),bJ (ae.map fun kv=>if kv.1=k then (kv.1,d) else kv) j=if j=k then (bJ ae j).map (fun _=>d) else bJ ae j
 |[]=>by rw [List.map_nil,FY];split<;>rfl
 |p::r=>by
  rw [List.map_cons]
  have ih:=tV k j d r
  by_cases h1:p.1=k
  ·rw [if_pos h1]
   by_cases h2:p.1=j
   ·rw [eT (p:=(p.1,d)) h2,eT h2,if_pos (h2.symm.trans h1)];rfl
   ·rw [eg (p:=(p.1,d)) h2,eg h2];exact ih
  ·rw [if_neg h1]
   by_cases h2:p.1=j
   ·rw [eT h2,eT h2,if_neg (fun z=>h1 (h2.trans z))]
   ·rw [eg h2,eg h2];exact ih
theorem vm (k j:α) (d:D):∀ae:List (α×D),bJ ae k=none→bJ (ae++[(k,d)]) j=if j=k then some d else bJ ae j
 |[],_=>by
  by_cases e:k=j
  ·rw [if_pos e.symm];exact eT (p:=(k,d)) e
  ·rw [if_neg (fun z=>e z.symm)];exact eg (p:=(k,d)) e
 |p::r,hn=>by
  rw [List.cons_append]
  have hk:¬p.1=k:=fun z=>by rw [eT z] at hn;cases hn
  rw [eg hk] at hn
  have ih:=vm k j d r hn
  by_cases e:p.1=j
  ·rw [eT e,eT e,if_neg (fun z=>hk (e.trans z))]
  ·rw [eg e,eg e,ih]
theorem B0 (ae:List (α×D)) (k j:α) (d:D):bJ (cB ae k d) j=if j=k then some d else bJ ae j:=by
 unfold cB
 by_cases h:(bJ ae k).isSome=true
 ·rw [if_pos h,tV]
  by_cases e:j=k
  ·subst e
   rw [if_pos rfl,if_pos rfl]
   cases q:bJ ae j with
   |none=>rw [q] at h;cases h
   |some x=>rfl
  ·rw [if_neg e,if_neg e]
 ·rw [if_neg h]
  exact vm k j d ae (by cases q:bJ ae k with|none=>rfl|some x=>rw [q] at h;exact absurd rfl h)
theorem rL (ae:List (α×D)) (k:α) (d:D):(cB ae k d).length≤ae.length+1:=by
 unfold cB;split<;>simp
theorem sA:∀{ae:List (α×D)} {k:α},bJ ae k=none→¬k∈ae.map (·.1)
 |[],_,_,z=>nomatch z
 |p::r,k,h,z=>by
  have hk:¬p.1=k:=fun z=>by rw [eT z] at h;cases h
  rw [eg hk] at h
  rw [List.map_cons] at z
  rcases List.mem_cons.mp z with z|z
  ·exact hk z.symm
  ·exact sA h z
theorem GD {ae:List (α×D)} {k:α} (d:D) (h:(ae.map (·.1)).Nodup):((cB ae k d).map (·.1)).Nodup:=by
 unfold cB
 by_cases e:(bJ ae k).isSome=true
 ·rw [if_pos e,List.map_map]
  have:((fun x:α×D=>x.1) ∘ fun kv=>if kv.1=k then (kv.1,d) else kv)=fun x=>x.1:=by
   funext x;show (if x.1=k then (x.1,d) else x).1=x.1;split<;>rfl
  rw [this];exact h
 ·rw [if_neg e,List.map_append]
  exact sy h (sA (by cases q:bJ ae k with|none=>rfl|some x=>rw [q] at e;exact absurd rfl e))
end
section
variable {α:Type} [DecidableEq α] {R:α→Addr→Prop} {K:PySem.W.Frag} {M:DH} {H H':Hp} {ae:List (α×D)} {xs:List (α×Addr×Value)} {k:α}
theorem so (r:e9 K H R ae xs) {d:D} (e:bJ ae k=some d):∃p v,atKey xs k=some p∧RelV v p.2∧Is K H v d:=by
 induction r with
 |nil=>cases e
 |@cons q x qs xs h t ih =>
  obtain ⟨h1,_,v,h2,h3⟩:=h
  by_cases hk:q.1=k
  ·rw [eT hk] at e
   cases e
   exact ⟨x.2,v,by simp [atKey,List.find?_cons,h1.symm.trans hk],h2,h3⟩
  ·rw [eg hk] at e
   obtain ⟨p,v,g1,g2⟩:=ih e
   have e':¬x.1=k:=fun z=>hk (h1.trans z)
   have b:atKey (x::xs) k=atKey xs k:=by simp [atKey,List.find?_cons,e']
   exact ⟨p,v,by rw [b];exact g1,g2⟩
theorem xK (r:e9 K H R ae xs) (e:bJ ae k=none):atKey xs k=none:=by
 induction r with
 |nil=>rfl
 |@cons q x qs xs h t ih =>
  have hk:¬q.1=k:=fun z=>by rw [eT z] at e;cases e
  rw [eg hk] at e
  have e':¬x.1=k:=fun z=>hk (h.1.trans z)
  have b:atKey (x::xs) k=atKey xs k:=by simp [atKey,List.find?_cons,e']
  rw [b];exact ih e
theorem tF (r:e9 K H R ae xs):(atKey xs k).isSome=(bJ ae k).isSome:=by
 cases e:bJ ae k with
 |none=>rw [xK r e];rfl
 |some d=>obtain ⟨p,v,h,_⟩:=so r e;rw [h];rfl
theorem Fi (r:e9 K H R ae xs) {v:V} {u:Value} {d:D} (rv:RelV v u) (i:Is K H v d):e9 K H R (ae.map fun kv=>if kv.1=k then (kv.1,d) else kv) (xs.map (putAt k u)):=by
 induction r with
 |nil=>exact .nil
 |@cons q x qs xs h t ih =>
  rw [List.map_cons,List.map_cons]
  refine .cons ?_ ih
  obtain ⟨h1,h2,h3⟩:=h
  unfold putAt
  by_cases e:q.1=k
  ·rw [if_pos e,if_pos (h1.symm.trans e)];exact ⟨h1,h2,v,rv,i⟩
  ·rw [if_neg e,if_neg (fun z=>e (h1.trans z))];exact ⟨h1,h2,h3⟩
theorem FQ (r:e9 K H R ae xs) {b:Addr} {v:V} {u:Value} {d:D} (hb:R k b) (rv:RelV v u) (i:Is K H v d):e9 K H R (cB ae k d) (storedH xs k b u):=by
 unfold cB storedH
 rw [tF r]
 by_cases q:(bJ ae k).isSome=true
 ·rw [if_pos q,if_pos q];exact Fi r rv i
 ·rw [if_neg q,if_neg q];exact Paired.snoc r ⟨rfl,hb,v,rv,i⟩
theorem Ds (r:e9 K H R ae xs):ae.map (·.1)=xs.map (·.1):=by
 induction r with
 |nil=>rfl
 |cons h t ih=>rw [List.map_cons,List.map_cons,ih,h.1]
end
section
variable {K:PySem.W.Frag} {M:DH} {H H':Hp} {ae:List (List Key×D)} {xs:List (List Key×Addr×Value)} {k:List Key}
end
section
variable {X:Cx} {aa:List (Addr×Obj)} {σ:St} {H:Hp} {s:Shared} {a b:Addr} {k:List Key} {ae:List (List Key×D)} {xs:List (List Key×Addr×Value)}
end
section
variable {X:Cx} {a b o:Expr} {pos:Pos} {ta tb:aD} {n:Nat}
end
end DL
namespace DL
open PySem PySem.Spec PyProof.Rows L2
section
variable {X:Cx} {tg elt iter:Expr} {ifs:List Expr} {scope:Scope} {pos:Pos} {js:List (Option Nat)} {Nc:List Str} {cl:List (Str×Addr)}
end
section
variable {X:Cx} {k:Nat}
end
end DL
namespace DL
open PySem PySem.Spec PyProof.Rows L2
section
variable {X:Cx}
noncomputable def findD:D→List D→DH→KD→Prop
 |.str _,[.str _],M,Q=>∀i:Int,Q (.int i) M
 |_,_,_,_=>False
theorem AE:fH X "str.find" findD:=by
 rintro aa s σ H vx vs v us Q I rx rs ⟨x,ds,M,Q',ix,iss,hm,q,hq⟩
 match x,ds,q,ix,iss with
 |.str a,[.str b],q,ix,iss =>
  (first|cases ix.inv|cases ix)
  obtain ⟨vy,rfl,iy⟩:=cc iss
  (first|cases iy.inv|cases iy)
  obtain ⟨t,rfl⟩:=rx
  obtain ⟨u,rfl,ru⟩:=vals1 rs
  obtain ⟨t',rfl⟩:=ru
  exact call_gives PySem.F.slot_str_find (typeIs_str _ _ _) PySem.F.entry_str_find (PySem.F.args_str_find_2 _ _) (gives_str_find a b t t') ⟨.int _,H,I.tok _,⟨_,rfl⟩,hq.here hm (.int _) (q _)⟩
theorem wo {K:PySem.W.Frag} {H:Hp}:∀{ns:List Str} {vs:List V} {us:List Value},az K H vs (ns.map D.str)→Vals vs us→StrsAre us ns
 |[],_,_,i,r=>by cases i;cases r;exact .nil
 |n::ns,_,_,i,r=>by
  cases i with
  |cons i t=>cases r with
   |cons r t' =>
    cases i.inv
    obtain ⟨tk,rfl⟩:=r
    exact .cons n tk (wo t t')
noncomputable def Au:D→List D→DH→KD→Prop
 |.str x,[.ref l],M,Q=>∃ys:List Str,M l=some (.lst (ys.map .str))∧(ys.map (·.length)).sum+ys.length*x.length≤16777216∧Q (.str (Txt.join x ys)) M
 |_,_,_,_=>False
theorem HE:fH X "str.join" Au:=by
 rintro aa s σ H vx vs v us Q I rx rs ⟨x,ds,M,Q',ix,iss,hm,q,hq⟩
 match x,ds,q,ix,iss with
 |.str a,[.ref l],q,ix,iss =>
  (first|cases ix.inv|cases ix)
  obtain ⟨vy,rfl,iy⟩:=cc iss
  (first|cases iy.inv|cases iy)
  obtain ⟨t,rfl⟩:=rx
  obtain ⟨u,rfl,ru⟩:=vals1 rs
  cases ru
  obtain ⟨ys,hl,hz,q⟩:=q
  obtain ⟨xs,hx,hxs⟩:=hm.lst hl
  obtain ⟨ai,r1,p1,_⟩:=I.list hx
  exact join_list p1.isList (by simpa using wo hxs r1) hz fun t' k=>⟨.str _,H,I.tok _,⟨_,rfl⟩,hq.here hm (.str _) q⟩
end
theorem D5 (a v:Value):argsOk "max" ⟨[a],[(Str.ofString "default",v)]⟩:=by unfold argsOk;kernel_rfl
section
variable {prog:Program} {w:World} {A:Around} {R:Result→Shared→Prop} {I:Addr} {fp wr:List Addr} {n:Nat} {P:Nat→Value→Prop} {St:Nat→Heap→Prop} {d:Value}
theorem E8 (W:Walks prog w A.in1 I fp wr n P St) (bt:Nat→Nat→Bool) (hcmp:CmpOf prog w A.in1 .Gt P bt) (S:Addr) (hSf:S ∉ fp) :
  ∀(k j:Nat) (s:Shared) (vb:Value) (c:Nat),n-(j+1)=k→j+1≤n→St (j+1) s.heap→P (argBest bt j) vb →
  s.heap.get? S=some { cls:=.type "list",dict:=none,data:=.seq #[vb,vb] c,slots:=#[] } →
  (∀v h' tk,P (argBest bt (n-1)) v→(∀b o,b ∉ wr→b≠S→s.heap.get? b=some o→h'.get? b=some o)→R (.ok (.ret v)) { s with heap:=h',toks:=tk }) →
  codeAny (model prog w) A (.builtin "max.loop" ⟨[.ref I,.none,.ref S],[(Str.ofString "default",d)]⟩) R s:=by
 have hSw:S ∉ wr:=fun h=>hSf (W.sub _ h)
 have hname:(toString "max" ++toString ".loop" : String)= "max.loop" :=by decide
 intro k
 induction k with
 |zero =>
  intro j s vb c hk hj hst hPb hS hR
  have hin:j+1=n:=by (first|lia|omega)
  refine codeAny_builtin PySem.F.entry_max_loop ?_
  rw [Around.under_plainId PySem.F.plain_max_loop _]
  show wpAny _ A.in1 (seqItems? (.ref S) >>=_) _ _ s
  refine wpAny_bind (wpAny_seqItems hS rfl ?_)
  show wpAny _ A.in1 (tryCatch (pyNext (.ref I)) _ >>=_) _ _ s
  refine wpAny_bind (wpAny_tryCatch (W.done s _ _ (hin▸hst) fun h' tk hk'=>?_))
  have hS':=hk' S _ hSw hS
  show wpAny _ A.in1 (updateSeq S (fun _=>#[]) >>=_) _ _ _
  refine wpAny_bind ?_
  refine wpAny_updateSeq hS' rfl (wpAny_bind (wpAny_letGo (wpAny_pure ?_)))
  exact hR vb _ tk (by rw [←hin];exact hPb) fun b o hbw hbS e=>(Heap.get?_update_other _ _ (Ne.symm hbS)).trans (hk' b o hbw e)
 |succ k ih =>
  intro j s vb c hk hj hst hPb hS hR
  have hlt:j+1 < n:=by (first|lia|omega)
  refine codeAny_builtin PySem.F.entry_max_loop ?_
  rw [Around.under_plainId PySem.F.plain_max_loop _]
  show wpAny _ A.in1 (seqItems? (.ref S) >>=_) _ _ s
  refine wpAny_bind (wpAny_seqItems hS rfl ?_)
  show wpAny _ A.in1 (tryCatch (pyNext (.ref I)) _ >>=_) _ _ s
  refine wpAny_bind (wpAny_tryCatch (W.item (j+1) s _ _ hlt hst fun v h' tk hP hst' hk'=>?_))
  have hS':=hk' S _ hSw hS
  show wpAny _ A.in1 (tryCatch (holding [v,v] (richCompare .Gt v vb >>=_)) _ >>=_) _ _ _
  refine wpAny_bind (wpAny_tryCatch (wpAny_holding (wpAny_bind (hcmp (j+1) (argBest bt j) v vb _ _ _ hP hPb ?_))))
  refine wpAny_bind (wpAny_holding (wpAny_truthy_bool ?_))
  refine wpAny_bind (wpAny_letGo (wpAny_pure ?_))
  cases hb:bt (j+1) (argBest bt j) with
  |true =>
   simp only [if_true]
   refine wpAny_bind ?_
   refine wpAny_updateSeq hS' rfl (wpAny_bind (wpAny_letGo ?_))
   rw [hname]
   refine wpAny_pure ⟨plainId_quiet PySem.F.plain_max_loop _,ih (j+1) _ v _ (by first|lia|omega) hlt (W.frame _ _ _ hst' fun b hbf o e=>?_) (by simp only [argBest,hb,if_true];exact hP) (Heap.get?_update_self _ hS' rfl)
    fun v' h'' tk'' hP' hk''=>?_⟩
   ·exact (Heap.get?_update_other _ _ (fun h:S=b=>hSf (by rw [h];exact hbf))).trans e
   ·exact hR v' h'' tk'' hP' fun b o hbw hbS e=>hk'' b o hbw hbS ((Heap.get?_update_other _ _ (Ne.symm hbS)).trans (hk' b o hbw e))
  |false =>
   simp only [Bool.false_eq_true,if_false]
   refine wpAny_bind (wpAny_letGo ?_)
   rw [hname]
   refine wpAny_pure ⟨plainId_quiet PySem.F.plain_max_loop _,ih (j+1) _ vb c (by first|lia|omega) hlt hst' (by simp only [argBest,hb,Bool.false_eq_true,if_false];exact hPb) hS' fun v' h'' tk'' hP' hk''=>?_⟩
   exact hR v' h'' tk'' hP' fun b o hbw hbS e=>hk'' b o hbw hbS (hk' b o hbw e)
theorem zj (W:Walks prog w A.in1 I fp wr n P St) (bt:Nat→Nat→Bool) (hcmp:CmpOf prog w A.in1 .Gt P bt) (S:Addr) (hSf:S ∉ fp) {s:Shared} {c:Nat} (hst:St 0 s.heap)
  (hS:s.heap.get? S=some { cls:=.type "list",dict:=none,data:=.seq #[] c,slots:=#[] })
  (h0:n=0→∀h' tk,(∀b o,b ∉ wr→b≠S→s.heap.get? b=some o→h'.get? b=some o)→R (.ok (.ret d)) { s with heap:=h',toks:=tk })
  (hR:0 < n→∀v h' tk,P (argBest bt (n-1)) v→(∀b o,b ∉ wr→b≠S→s.heap.get? b=some o→h'.get? b=some o)→R (.ok (.ret v)) { s with heap:=h',toks:=tk }) :
  codeAny (model prog w) A (.builtin "max.loop" ⟨[.ref I,.none,.ref S],[(Str.ofString "default",d)]⟩) R s:=by
 have hSw:S ∉ wr:=fun h=>hSf (W.sub _ h)
 have hname:(toString "max" ++toString ".loop" : String)= "max.loop" :=by decide
 refine codeAny_builtin PySem.F.entry_max_loop ?_
 rw [Around.under_plainId PySem.F.plain_max_loop _]
 show wpAny _ A.in1 (seqItems? (.ref S) >>=_) _ _ s
 refine wpAny_bind (wpAny_seqItems hS rfl ?_)
 show wpAny _ A.in1 (tryCatch (pyNext (.ref I)) _ >>=_) _ _ s
 rcases Nat.eq_zero_or_pos n with hn|hn
 ·refine wpAny_bind (wpAny_tryCatch (W.done s _ _ (hn▸hst) fun h' tk hk'=>?_))
  refine wpAny_bind (wpAny_rule (wpAny_pure ?_))
  exact h0 hn h' tk fun b o hbw hbS e=>hk' b o hbw e
 ·refine wpAny_bind (wpAny_tryCatch (W.item 0 s _ _ hn hst fun v h' tk hP hst' hk'=>?_))
  have hS':=hk' S _ hSw hS
  show wpAny _ A.in1 (updateSeq S (fun _=>#[v,v]) >>=_) _ _ _
  refine wpAny_bind ?_
  refine wpAny_updateSeq hS' rfl ?_
  rw [hname]
  refine wpAny_pure ⟨plainId_quiet PySem.F.plain_max_loop _,E8 W bt hcmp S hSf _ 0 _ v _ rfl hn (W.frame _ _ _ hst' fun b hbf o e=>?_) hP (Heap.get?_update_self _ hS' rfl) fun v' h'' tk'' hP' hk''=>?_⟩
  ·exact (Heap.get?_update_other _ _ (fun h:S=b=>hSf (by rw [h];exact hbf))).trans e
  ·exact hR hn v' h'' tk'' hP' fun b o hbw hbS e=>hk'' b o hbw hbS ((Heap.get?_update_other _ _ (Ne.symm hbS)).trans (hk' b o hbw e))
end
theorem Fq {prog:Program} {w:World} {A:Around} {E:Value→Shared→Prop} {s:Shared} {id:String} {b:Builtin} {args:List Value} {kw:List (Str×Value)} {Q:Value→Shared→Prop} (hk:builtinKind id=none) (hp:plainId id=true)
  (hb:entryFor table id=some b) (ha:argsOk id ⟨args,kw⟩)
  (hc:wpAny (model prog w) A.in1 (b ⟨args,kw⟩) (fun fin s'=>match fin with
   |.done f=>(match (Except.ok f:Result) with|.ok (.ret v)=>Q v s'|.ok _=>False|.error e=>E e s')
   |.again c'=>c'.quiet=true∧codeAny (model prog w) A c' (fun r s'=>match r with|.ok (.ret v)=>Q v s'|.ok _=>False|.error e=>E e s') s') E s) :
  wpAny (model prog w) A (call (.builtin id) args kw) Q E s:=by
 refine wpAny_call (codeAny_call_builtin hp hb ?_)
 simp only [checkBuiltinCall,hk]
 cases hsig:Manifest.signature? id with
 |none=>exact wpAny_pure hc
 |some sig =>
  have ha':Bind.checkArgs id sig ⟨args,kw⟩=pure ():=by simpa only [argsOk,hsig] using ha
  simp only [ha']
  exact wpAny_pure hc
theorem AS {prog:Program} {w:World} {A:Around} {E:Value→Shared→Prop} {s:Shared} {l:Addr} {xs:Array (Int×Tok)} {d:Value} {Q:Value→Shared→Prop} (hh:A.handled=none) (hl:s.heap.IsList l (intItems xs))
  (h0:xs.size=0→∀h' tk,(∀b o,s.heap.get? b=some o→h'.get? b=some o)→Q d { s with heap:=h',toks:=tk })
  (h:0 < xs.size→∀v h' tk,(intItems xs)[argBest (fun i j=>decide (numAt xs i > numAt xs j)) (xs.size-1)]?=some v→(∀b o,s.heap.get? b=some o→h'.get? b=some o)→Q v { s with heap:=h',toks:=tk }) :
  wpAny (model prog w) A (call (.builtin "max") [.ref l] [(Str.ofString "default",d)]) Q E s:=by
 have hname:(toString "max" ++toString ".loop" : String)= "max.loop" :=by decide
 refine Fq PySem.F.kind_max PySem.F.plain_max PySem.F.entry_max (D5 _ _) ?_
 show wpAny _ A.in1 (Builtin.Builtins.bindParams "max" ["key", "default"] 0 ⟨[],[(Str.ofString "default",d)]⟩ >>=_) _ _ s
 refine wpAny_bind (wpAny_of_eq (show Builtin.Builtins.bindParams "max" ["key", "default"] 0 ⟨[],[(Str.ofString "default",d)]⟩=pure [none,some d] from rfl) ?_)
 refine wpAny_bind (wpAny_pure ?_)
 refine wpAny_bind (iter_intList hl fun s₂ e st hfp hlI=>?_)
 have hs₂:∀b o,s.heap.get? b=some o→s₂.heap.get? b=some o:=fun b o eb=>by subst e;exact Heap.get?_push_of_some _ eb
 have W:=Walks.list (prog:=prog) (w:=w) (A:=A.in1) hh s.heap.objs.size l hlI (intItems xs)
 refine wpAny_bind (wpAny_newObj_type ?_)
 have hSf:s₂.heap.objs.size ∉ [s.heap.objs.size,l]:=fun hm=>Nat.lt_irrefl _ (hfp _ hm)
 rw [hname]
 have hsz:(intItems xs).size=xs.size:=by simp [intItems]
 have nw:∀b o,s.heap.get? b=some o→b ∉ [s.heap.objs.size]∧b≠s₂.heap.objs.size:=fun b o eb=>by
  have h1:=Heap.lt_size eb
  have h2:=Heap.lt_size (hs₂ b o eb)
  exact ⟨fun z=>by cases List.mem_singleton.mp z;exact Nat.lt_irrefl _ h1,Nat.ne_of_lt h2⟩
 refine wpAny_pure ⟨plainId_quiet PySem.F.plain_max_loop _,zj W (fun i j=>decide (numAt xs i > numAt xs j)) (CmpOf.ints_gt (numAt xs) (fun _ _=>intItems_at)) s₂.heap.objs.size hSf (W.frame _ _ _ st fun b _ o e=>Heap.get?_push_of_some _ e) (Heap.get?_push_size _ rfl) (fun hn h' tk hk=>?_) fun hn v h' tk hP hk=>?_⟩
 ·subst e
  exact h0 (by rw [←hsz];exact hn) h' tk fun b o eb=>hk b o (nw b o eb).1 (nw b o eb).2 (Heap.get?_push_of_some _ (Heap.get?_push_of_some _ eb))
 ·subst e
  exact h (by rw [←hsz];exact hn) v h' tk (by rw [hsz] at hP;exact hP) fun b o eb=>hk b o (nw b o eb).1 (nw b o eb).2 (Heap.get?_push_of_some _ (Heap.get?_push_of_some _ eb))
section
variable {X:Cx}
noncomputable def vf (d:Int) (Q:KD):List D→DH→Prop
 |[.ref l],M=>∃ns:List Int,M l=some (.lst (ns.map .int))∧(ns=[]→Q (.int d) M)∧∀m,m∈ns→(∀k∈ns,k≤m)→Q (.int m) M
 |_,_=>False
noncomputable def HJ (d:Int) (ta:br):aD:=fun τ M Q=>ta τ M fun vs M1=>vf d Q vs M1
theorem zB {a : Expr} {ta : br} {p aA kpos ipos : Pos} {j} {d : Int} (hc : X.calm = true) (hm : X.mg "max" = none) (ha : PA X [a] (cg X.K ta)) (hg : Gl X "max" := by rfl) (hs : starEach [a] X.env = (false, eval a X.env) :: starEach [] X.env := by rfl)
    (hall : (backToKw aA (keywordEach [⟨some "default", .Constant (.int d) j ipos, kpos⟩] X.env)).all (·.1.isSome) = true := by rfl) (hks : (backToKw aA (keywordEach [⟨some "default", .Constant (.int d) j ipos, kpos⟩] X.env)).filterMap (·.1) = [(Str.ofString "default")] := by rfl)
    (hpl : ((backTo aA (starEach [a] X.env)).any (·.1) || (backToKw aA (keywordEach [⟨some "default", .Constant (.int d) j ipos, kpos⟩] X.env)).any (·.1.isNone)) = false := by rfl) :
    PE X (.Call (.Name "max" p) [a] [⟨some "default", .Constant (.int d) j ipos, kpos⟩] aA) (low X.K (HJ d ta)) := by
  rintro aa s σ H Q I ⟨τ, M, Q', hs', hm', h, hq⟩
  refine wpAny_Call_Name_kw (fj I hg hm boot_max ?_)
  refine PySem.W.callWith_of (P := fun _ => True) hpl (fun h' _ => ⟨.machine, .inr (.inl rfl), ?_⟩) (evalArgs_kw2 hall (aC (ha aA aa s σ H (fun vs H1 => ∃ ds M1, aw X.K M1 H1 ∧ Ext X.K H H1 ∧ az X.K H1 vs ds ∧ vf d Q' ds M1) I ⟨τ, M, _, hs', hm', h, fun ds M1 vs H1 m1 e1 i1 h1 => ⟨ds, M1, m1, e1, i1, h1⟩⟩) fun us s1 ⟨vs, H1, I1, r1, q1⟩ => ?_) hs)
  · exact PySem.W.Looks.of_pure rfl
  · refine aC (uG (nm := some "default") (kpos := kpos) pC ra aA aa s1 σ H1 (fun zs H2 => zs = [.int d] ∧ H2 = H1) I1 ⟨rfl, rfl⟩) fun ws s2 zz0 => ?_
    obtain ⟨zs, H2, I2, rz, ez, eH⟩ := zz0
    refine ⟨trivial, ?_⟩
    subst ez eH
    obtain ⟨w1, rfl, t, rfl⟩ := vals1 rz
    rw [hks]
    obtain ⟨ds, M1, m1, e1, i1, q1⟩ := q1
    match ds, q1, i1 with
    | [.ref l], q1, i1 =>
      obtain ⟨v, rfl, i⟩ := cc i1
      cases i with
      | ref =>
        obtain ⟨ns, hl, q0, q⟩ := q1
        obtain ⟨u, rfl, rx⟩ := vals1 r1
        cases rx
        obtain ⟨xs, hx, hxs⟩ := m1.lst hl
        obtain ⟨ai, r1, p1, _⟩ := I2.list hx
        have hi := wA hxs r1
        obtain ⟨ys, e⟩ := hi.allInts.items
        have hns : ns = ys.toList.map (·.1) := by rw [← hi.numsOf, ← nums_intItems, ← e]
        have p2 := p1.isList
        rw [e] at p2
        refine AS (I2.ok.hd hc) p2 (fun hz h' tk hk => ?_) fun hsz v h' tk hv hk => ?_
        · have : ns = [] := by rw [hns]; have : ys.toList = [] := by simpa using hz
                               rw [this]; rfl
          exact ⟨.int d, H2, I2.kept hk, ⟨t, rfl⟩, hq _ _ _ _ m1 e1 (.int _) (q0 this)⟩
        · obtain ⟨t, rfl⟩ := intItems_at hv
          obtain ⟨h1, h2⟩ := argBest_gt (numAt ys) (ys.size - 1)
          refine ⟨.int _, H2, I2.kept hk, ⟨t, rfl⟩, hq _ _ _ _ m1 e1 (.int _) (q _ ?_ fun a ha => ?_)⟩
          · rw [hns, numAt_eq]; exact getD_mem (by rw [List.length_map, Array.length_toList]; (first | lia | omega))
          · rw [hns] at ha
            obtain ⟨j, hj, rfl⟩ := mem_getD ha
            rw [List.length_map, Array.length_toList] at hj
            rw [← numAt_eq]; exact h2 j (by (first | lia | omega))
end
section
variable {X:Cx} {tg elt iter:Expr} {ifs:List Expr} {scope:Scope} {pos:Pos} {js:List (Option Nat)} {Nc:List Str} {cl:List (Str×Addr)}
end
end DL
namespace DL
open PySem PySem.Spec PyProof.Rows L2
noncomputable def hG (f:Str) (d:D):List (Str×D)→List (Str×D)
 |[]=>[(f,d)]
 |(g,x)::r=>if g=f then (g,d)::r else (g,x)::hG f d r
noncomputable abbrev gE (K:PySem.W.Frag) (H:Hp):List (Str×V)→List (Str×D)→Prop:=Paired fun (p:Str×V) (q:Str×D)=>p.1=q.1∧Is K H p.2 q.2
section
variable {K:PySem.W.Frag} {M:DH} {H H':Hp} {fx:List (Str×V)} {fs:List (Str×D)} {f:Str} {a C dx:Addr}
theorem xx (r:gE K H fx fs) {d:D} (e:fs.lookup f=some d):∃v,fx.lookup f=some v∧Is K H v d:=by
 induction r with
 |nil=>cases e
 |@cons p q ps qs h t ih =>
  obtain ⟨p1,p2⟩:=p
  obtain ⟨q1,q2⟩:=q
  have h1:p1=q1:=h.1
  subst h1
  by_cases z:f=p1
  ·subst z
   have e':List.lookup f ((f,q2)::qs)=some q2:=by simp [List.lookup]
   rw [e'] at e
   cases e
   exact ⟨p2,by simp [List.lookup],h.2⟩
  ·have z':(f ==p1)=false:=by simpa using z
   have e1:List.lookup f ((p1,q2)::qs)=List.lookup f qs:=by simp [List.lookup,z']
   have e2:List.lookup f ((p1,p2)::ps)=List.lookup f ps:=by simp [List.lookup,z']
   rw [e1] at e
   rw [e2]
   exact ih e
theorem AR (r:gE K H fx fs) (e:fs.lookup f=none):fx.lookup f=none:=by
 induction r with
 |nil=>rfl
 |@cons p q ps qs h t ih =>
  obtain ⟨p1,p2⟩:=p
  obtain ⟨q1,q2⟩:=q
  have h1:p1=q1:=h.1
  subst h1
  by_cases z:f=p1
  ·subst z
   have e':List.lookup f ((f,q2)::qs)=some q2:=by simp [List.lookup]
   rw [e'] at e
   cases e
  ·have z':(f ==p1)=false:=by simpa using z
   have e1:List.lookup f ((p1,q2)::qs)=List.lookup f qs:=by simp [List.lookup,z']
   have e2:List.lookup f ((p1,p2)::ps)=List.lookup f ps:=by simp [List.lookup,z']
   rw [e1] at e
   rw [e2]
   exact ih e
theorem HS (r:gE K H fx fs) {v:V} {d:D} (i:Is K H v d):gE K H (cz f v fx) (hG f d fs):=by
 induction r with
 |nil=>exact .cons ⟨rfl,i⟩ .nil
 |@cons p q ps qs h t ih =>
  obtain ⟨p1,p2⟩:=p
  obtain ⟨q1,q2⟩:=q
  have h1:p1=q1:=h.1
  subst h1
  show gE K H (if p1=f then (p1,v)::ps else (p1,p2)::cz f v ps) (if p1=f then (p1,d)::qs else (p1,q2)::hG f d qs)
  by_cases z:p1=f
  ·rw [if_pos z,if_pos z];exact .cons ⟨rfl,i⟩ t
  ·rw [if_neg z,if_neg z];exact .cons h ih
theorem yb (e:fG K H H') (r:gE K H fx fs):gE K H' fx fs:=r.impP fun _ _ ⟨r1,r2⟩=>⟨r1,r2.mono0 e⟩
theorem aw.setI {v:V} {d:D} (h:aw K M H) (hx:H a=some (.ins C dx fx)) (ho:H dx=some (.own a)) (hp:gE K H fx fs) (i:Is K H v d) :
  aw K (aj M a (.ins C dx (hG f d fs))) (upd H a (.ins C dx (cz f v fx)))∧Ext K H (upd H a (.ins C dx (cz f v fx))):=by
 have ex:Ext K H (upd H a (.ins C dx (cz f v fx))):=iH (fun zs s=>by rcases s with s|⟨u,s⟩<;>rw [hx] at s<;>cases s) (fun u xs s=>by rw [hx] at s;cases s)
 refine ⟨fun c o q=>?_,ex⟩
 by_cases z:c=a
 ·subst z;rw [ar] at q;cases q
  exact ⟨_,bV,by rw [aK (fY ho hx (by intro k;cases k))];exact ho,yb ex.e0 (HS hp i)⟩
 ·rw [ay z] at q
  exact (h c o q).mono ex.e0 (fun v w=>by rw [aK z];exact w) (fun dx w=>by rw [aK (fY w hx (by intro k;cases k))];exact w)
theorem aw.made {x:Addr} (h:aw K M H) (nx:H x=none) (nd:H dx=none) (ne:dx≠x):aw K (aj M x (.ins C dx [])) (upd (upd H dx (.own x)) x (.ins C dx []))∧Ext K H (upd (upd H dx (.own x)) x (.ins C dx [])):=by
 have n1:upd H dx (.own x) x=none:=by rw [aK (Ne.symm ne)];exact nx
 refine ⟨(h.new nd).newM n1 (show ff K _ x (.ins C dx []) from ⟨[],bV,by rw [aK ne,bV],.nil⟩),(bP nd).trans (bP n1)⟩
end
section
variable {X:Cx} {e o value:Expr} {es:List Expr} {f m:Str} {pos pos' apos tpos:Pos} {te to tv:aD} {t:br} {C:Addr} {k:Nat}
noncomputable def wt (C:Addr) (f:Str) (to:aD):aD:=fun τ M Q=>to τ M fun x M1=>∃a dx fs d,x=.ref a∧M1 a=some (.ins C dx fs)∧fs.lookup f=some d∧Q d M1
theorem eW (c:d7 X.K C) (n:fb X.K C f) (he:PE X e (low X.K te)) (hb:attributeBase e f X.env (eval e X.env)=eval e X.env:=by rfl):PE X (.Attribute e f pos) (low X.K (wt C f te)) :=
 (ze he hb).imp fun σ H Q ⟨τ,M,Q',hs,hm,h,hq⟩=>⟨τ,M,_,hs,hm,h,fun x M1 v H1 m1 e1 i1 ⟨a,dx,fs,d,ex,ha,hl,q⟩=>by
  subst ex
  (first|cases i1.inv|cases i1)
  obtain ⟨fx,h1,h2,h3⟩:=m1 a _ ha
  obtain ⟨v,hv,iv⟩:=xx h3 hl
  exact ⟨a,C,dx,fx,v,rfl,h1,c,n,hv,hq _ _ _ _ m1 e1 iv q⟩⟩
noncomputable def Ia (C:Addr) (f:Str) (to tv:aD):aF:=fun E τ M=>tv τ M fun y M1=>to τ M1 fun x M2=>∃a dx fs,x=.ref a∧M2 a=some (.ins C dx fs)∧fs.length < 1000∧E.nx τ (aj M2 a (.ins C dx (hG f y fs)))
theorem rQ (c:d7 X.K C) (n:fb X.K C f) (ho:PE X o (low X.K to)) (hv:PE X value (low X.K tv)) (hs:swapsWith value (some (.Attribute o f pos')) pos.line X.env=pure false:=by rfl):PS X (.Assign [.Attribute o f pos'] value pos) (aR X.K (Ia C f to tv)) :=
 (Hq ho hv hs).imp fun D σ H ⟨τ,M,D',hs,hm,h,hd⟩=>⟨τ,M,_,hs,hm,h,fun y M1 vy H1 m1 e1 i1 h1=>⟨τ,M1,_,hs.mono e1,m1,h1,fun x M2 vx H2 m2 e2 i2 ⟨a,dx,fs,ex,ha,hl,q⟩=>by
  subst ex
  (first|cases i2.inv|cases i2)
  obtain ⟨fx,g1,g2,g3⟩:=m2 a _ ha
  obtain ⟨m3,e3⟩:=m2.setI (f:=f) g1 g2 g3 (i1.mono e2)
  have e12:=e1.trans e2
  exact ⟨a,C,dx,fx,rfl,g1,c,n,by rw [Paired.length g3];exact hl,hd.nx _ _ _ _ (hs.mono (e12.trans e3)) m3 (e12.trans e3) q⟩⟩⟩
structure eE (P:Program) (w:World) (K:PySem.W.Frag) (mg:Str→Option Value) (base:Heap) (C:Addr) (k:Nat) (m:Str) (ps:List Str) (sp:aS):Prop where
 ex:∃f fd,cn P w K mg base cY k f fd ps (dS K sp)∧Meth K C m f∧Binds K fd ps []
theorem eE.mono {P:Program} {w:World} {K:PySem.W.Frag} {mg:Str→Option Value} {base:Heap} {C:Addr} {j k:Nat} {m:Str} {ps:List Str} {sp:aS} (F:eE P w K mg base C j m ps sp) (h:j≤k):eE P w K mg base C k m ps sp :=
 let ⟨f,fd,a,b,c⟩:=F.ex;⟨f,fd,a.mono h,b,c⟩
noncomputable def sh (C:Addr) (m:Str) (sp:aS) (to:aD) (t:br):aD:=fun τ M Q=>to τ M fun x M1=>∃a dx fs,x=.ref a∧M1 a=some (.ins C dx fs)∧fs.lookup m=none∧t τ M1 fun ds M2=>sp (.ref a::ds) M2 Q
theorem dG {ps:List Str} {sp:aS} {pl:Sem Bool} (c:d7 X.K C) (F:eE X.prog X.w X.K X.mg X.base C k m ps sp) (hr:aW k X.A) (ho:PE X o (low X.K to)) (ha:PA X (e::es) (cg X.K t))
  (hst:starEach (e::es) X.env=(false,eval e X.env)::starEach es X.env:=by rfl) (hpl:(backTo pos (starEach es X.env)).any (·.1)=false:=by rfl)
  (ht:eval (.Call (.Attribute o m apos) (e::es) [] pos) X.env=(do
   let ov ←eval o X.env
   standAt apos.atName
   let (f,first) ←holding [ov] (getMethod ov m pl)
   callWith pos f first (backTo pos (starEach (e::es) X.env)) (backToKw pos (keywordEach [] X.env))):=by rfl) :
  PE X (.Call (.Attribute o m apos) (e::es) [] pos) (low X.K (sh C m sp to t)):=by
 obtain ⟨f,fd,F,hm,hb⟩:=F.ex
 refine (DP (E:=E0) (pl:=pl) ho c hm F hr hb .nil oo ha hst hpl ht).imp fun σ H Q zz0=>?_
 obtain ⟨τ,M,Q',hs,hm,h,hq⟩:=zz0
 refine ⟨τ,M,_,hs,hm,h,fun x M1 v H1 m1 e1 i1 zz0=>?_⟩
 obtain ⟨a,dx,fs,ex,hx,hl,q⟩:=zz0
 subst ex
 (first|cases i1.inv|cases i1)
 obtain ⟨fx,h1,h2,h3⟩:=m1 a _ hx
 refine ⟨a,dx,fx,rfl,h1,AR h3 hl,τ,M1,_,hs.mono e1,m1,q,fun ds M2 vs H2 m2 e2 i2 h4=>?_⟩
 show dS X.K sp (.ref a::(vs++[])) H2 Q E0
 rw [List.append_nil]
 exact ⟨.ref a::ds,M2,Q',.cons (.ref a) i2,m2,h4,hq.ext (e1.trans e2)⟩
structure nJ (P:Program) (w:World) (K:PySem.W.Frag) (mg:Str→Option Value) (base:Heap) (C:Addr) (k:Nat) (ps:List Str) (sp:aS):Prop where
 ex:∃f fd,cn P w K mg base cY k f fd ps (dS K sp)∧Mk K C f∧Binds K fd ps []
end
noncomputable def gK (K:PySem.W.Frag) (C:Addr) (m qual:Str) (st:Stmt) (ps:List Str):Prop:=∃f fd,e8 K m qual st f fd∧Binds K fd ps []∧Meth K C m f
noncomputable def qP (K:PySem.W.Frag) (C:Addr) (qual:Str) (st:Stmt) (ps:List Str):Prop:=∃f fd,e8 K "__init__" qual st f fd∧Binds K fd ps []∧Mk K C f
section
variable {P:Program} {w:World} {K:PySem.W.Frag} {mg:Str→Option Value} {base:Heap}
theorem jh {C:Addr} {m qual:Str} {st:Stmt} {N ps:List Str} {k:Nat} {sp:aS} (T:gK K C m qual st ps) (S:aX N ps (au st)) (len:∀ds M Q,sp ds M Q→ds.length=ps.length)
  (hbody:∀(f:Addr) (cdv:Value) (A:Around) (outer:List Env) (s:Shared) (H:Hp) (E:XK),aW k (A.deeper (envOfC qual (au st) s.heap.objs.size f cdv)) →
   ∃t:aF,bx (cu cY P w K mg base N qual (au st) f cdv A outer s H E).nox (aU st) (aR K t)∧∀ds M Q,sp ds M Q→t (fo Q) (fh N ds) M):eE P w K mg base C (k+1) m ps sp:=by
 obtain ⟨f,fd,F,hb,hm⟩:=T
 exact ⟨f,fd,kZ F S len (hbody f),hm,hb⟩
theorem zX {C:Addr} {qual:Str} {st:Stmt} {N ps:List Str} {k:Nat} {sp:aS} (T:qP K C qual st ps) (S:aX N ps (au st)) (len:∀ds M Q,sp ds M Q→ds.length=ps.length)
  (hbody:∀(f:Addr) (cdv:Value) (A:Around) (outer:List Env) (s:Shared) (H:Hp) (E:XK),aW k (A.deeper (envOfC qual (au st) s.heap.objs.size f cdv)) →
   ∃t:aF,bx (cu cY P w K mg base N qual (au st) f cdv A outer s H E).nox (aU st) (aR K t)∧∀ds M Q,sp ds M Q→t (fo Q) (fh N ds) M):nJ P w K mg base C (k+1) ps sp:=by
 obtain ⟨f,fd,F,hb,hm⟩:=T
 exact ⟨f,fd,kZ F S len (hbody f),hm,hb⟩
end
end DL
namespace DL
open PySem PySem.Spec PyProof.Rows L2
section
variable {X:Cx}
end
noncomputable def tx (cs:List Nat):Str:=⟨cs.toArray⟩
end DL
namespace DL
open PySem PySem.Spec PyProof.Rows L2
section
variable {P:Program} {w:World} {K:PySem.W.Frag} {mg:Str→Option Value} {base:Heap}
end
section
variable {X:Cx} {e o:Expr} {es:List Expr} {m:Str} {pos apos:Pos} {to:aD} {t:br} {C:Addr} {k:Nat} {EX:aJ→Value→DH→Prop}
end
section
variable {X:Cx}
end
end DL
namespace DL
open PySem PySem.Spec PyProof.Rows L2
section
variable {X:Cx} {tg elt a:Expr} {scope:Scope} {pos p aA:Pos} {js:List (Option Nat)} {Nc:List Str} {cl:List (Str×Addr)}
noncomputable def yc (g:aV) (te:aD) (js:List (Option Nat)) (τ:aJ):List D→DH→KD→Prop
 |[.int j],M,Q=>(-(2 ^ 62)≤j∧j≤1000000)∧∀l,M l=none→∃W:Nat→List D→DH→Prop,W 0 [] (aj M l (.lst [])) ∧
   (∀(i:Nat) xs M',i < j.toNat→W i xs M'→xs.length=i∧g (.int i) (pick js τ) M' fun τ4 M4=>jf (pick js τ) τ4∧te τ4 M4 fun y M6=>M6 l=some (.lst xs)∧W (i+1) (xs++[y]) (aj M6 l (.lst (xs++[y])))) ∧
   ∀xs M',W j.toNat xs M'→Q (.ref l) M'
 |_,_,_=>False
noncomputable def vd (ta:br) (g:aV) (te:aD) (js:List (Option Nat)):aD:=fun τ M Q=>ta τ M fun vs M1=>yc g te js τ vs M1 Q
theorem yf {K:PySem.W.Frag} {ta:br} {ted:aD} {gd:aV} {σ:St} {H:Hp} {Q:VK} (h:low K (vd ta gd ted js) σ H Q):mm (uc (cg K ta)) (lowG K gd) (fun _ H Q=>Q true H) (low K ted) js σ H Q:=by
 obtain ⟨τ,M,Q',hs,hm,h,hq⟩:=h
 refine ⟨τ,M,_,hs,hm,h,fun ds M1 vs H1 m1 e1 i1 h1=>?_⟩
 match ds,h1,i1 with
 |[.int j],h1,i1 =>
  obtain ⟨v,rfl,i⟩:=cc i1
  cases i.inv
  obtain ⟨⟨q1,q2⟩,w⟩:=h1
  refine ⟨j,rfl,q1,by first|lia|omega,fun l hl=>?_⟩
  obtain ⟨W,w0,turn,done⟩:=w l (m1.free hl)
  refine ⟨fun i m σ2 H2=>∃xs M',m=j.toNat-i∧i≤j.toNat∧aO K (pick js τ) σ2 H2∧aw K M' H2∧Ext K H1 H2∧W i xs M',⟨j.toNat,[],_,rfl,Nat.zero_le _,((hs.mono e1).pick js).mono (bP hl),m1.newL hl .nil,bP hl,w0⟩,?_⟩
  rintro i m σ2 H2 ⟨xs,M2,rfl,hi,s2,m2,e2,w2⟩
  have G:=nF (K:=K) (H:=H2) j.toNat
  by_cases hlt:i < j.toNat
  ·have hlt':i < ((List.range j.toNat).map fun i:Nat=>D.int (i:Int)).length:=by simpa using hlt
   refine .inr ⟨G.go i hlt',fun x H3 y=>?_⟩
   obtain ⟨rfl,d,ed,id⟩:=G.yld i x H3 hlt' y
   rw [List.getElem?_map,List.getElem?_range hlt] at ed
   cases ed
   obtain ⟨hx,tn⟩:=turn i xs M2 hlt w2
   refine ⟨_,_,_,_,id,s2,m2,tn,fun τ4 M4 σ4 H4 s4 m4 e4 zz=>?_⟩
   obtain ⟨fg,q4⟩:=zz
   show if true=true then _ else _
   rw [if_pos rfl]
   refine ⟨τ4,M4,_,s4,m4,q4,fun y M6 v H6 m6 e6 i6 q6=>?_⟩
   obtain ⟨hl6,w6⟩:=q6
   obtain ⟨ys,hy,iy⟩:=m6 l _ hl6
   obtain ⟨m7,e7⟩:=m6.setL hl6 hy (iy.append (.cons i6 .nil))
   have h3:sizeLine=16777216:=sizeLine_eq
   exact ⟨ys,hy,by rw [iy.length,hx];(first|lia|omega),j.toNat-(i+1),by first|lia|omega,xs++[y],_,rfl,hlt,((s4.forget fg).mono e6).mono e7,m7,e2.trans (e4.trans (e6.trans e7)),w6⟩
  ·have e:i=j.toNat:=by (first|lia|omega)
   subst e
   exact .inl ⟨by have:=G.stop;simpa using this,hq _ _ _ _ m2 (e1.trans e2) (.ref l) (done _ _ w2)⟩
theorem sI {i:Nat} {y:Str} {py spos:Pos} {ta:br} {ted:aD} {gd:aV} (hN:X.N.Nodup) (O:eX X Nc js scope cl) (hc:X.calm=true) (hmr:X.mg "range" = none) (ha:PA X [a] (cg X.K ta)) (hg:∀C s H fp,PG (bB X Nc scope cl C s H fp) tg (lowG X.K gd)) (he:∀C s H fp,PE (bB X Nc scope cl C s H fp) elt (low X.K ted))
  (hi:X.N[i]?=some y:=by rfl) (hx:Loc X.env.scope y:=by first|exact Or.inl rfl|exact Or.inr rfl) (hgl:Gl X "range" :=by rfl) (hst:starEach [a] X.env=[(false,eval a X.env)]:=by rfl) (hs:∀x,foldedSetIterable (.Call (.Name "range" p) [a] [] aA) X.env x=pure x:=by intro _;rfl)
  (hsw:swapsWith (.ListComp elt [⟨tg,.Call (.Name "range" p) [a] [] aA,[],0⟩] scope pos) (some (.Name y py)) spos.line X.env=pure true:=by rfl) (hf:X.fn y=true∨X.env.scope.names.lookup y=some .local:=by first|exact .inl rfl|exact .inr rfl|assumption) :
  PS X (.Assign [.Name y py] (.ListComp elt [⟨tg,.Call (.Name "range" p) [a] [] aA,[],0⟩] scope pos) spos) (aR X.K (eO (vd ta gd ted js) (hName i))) :=
 (nz (tt:=fun _ H Q=>Q true H) O hc hN hi hx (mR hgl hmr ha hst) hg (fun _ _ _ _=>.inl ⟨rfl,rfl⟩) he hs hsw hf).imp fun D σ H zz=>by
  obtain ⟨τ,M,D',hs,hm,h,hd⟩:=zz
  exact yf ⟨τ,M,_,hs,hm,h,fun x M1 v H1 m1 e1 i1 q=>hd.nx _ M1 _ H1 ((hs.mono e1).set i1) m1 e1 q⟩
end
end DL
namespace DL
open PySem PySem.Spec PyProof.Rows L2
section
variable {X:Cx} {tg elt iter a:Expr} {ifs:List Expr} {scope:Scope} {pos p aA:Pos} {js:List (Option Nat)} {Nc:List Str} {cl:List (Str×Addr)}
theorem wM (hif:∀C s H fp,kf (bB X Nc scope cl C s H fp) ifs ttd) (s0:Shared) (H0:Hp):∃ttv:TT,(∀C s H fp,jm (bB X Nc scope cl C s H fp) ifs ttv)∧∀σ H R,cm X.K ttd σ H R→ttv σ H R:=by
 rcases hif 0 s0 H0 [] with ⟨e1,e2⟩|⟨c,e1,_⟩
 ·subst e1 e2
  refine ⟨_,fun _ _ _ _=>.inl ⟨rfl,rfl⟩,fun σ H R zz=>?_⟩
  obtain ⟨τ,M,Q',_,hm,h,hq⟩:=zz
  exact hq true M H hm (Ext.refl H) h
 ·subst e1
  refine ⟨cm X.K ttd,fun C s H fp=>?_,fun σ H R h=>h⟩
  rcases hif C s H fp with ⟨e1,_⟩|⟨c',e1,h⟩
  ·cases e1
  ·cases e1
   exact .inr ⟨c,rfl,h⟩
theorem Dz {i:Nat} {y:Str} {py spos:Pos} {ta:br} {ted:aD} {gd:aV} {ttd:bZ} (hN:X.N.Nodup) (O:eX X Nc js scope cl) (hc:X.calm=true) (hmr:X.mg "range" = none) (ha:PA X [a] (cg X.K ta)) (hg:∀C s H fp,PG (bB X Nc scope cl C s H fp) tg (lowG X.K gd)) (hif:∀C s H fp,kf (bB X Nc scope cl C s H fp) ifs ttd) (he:∀C s H fp,PE (bB X Nc scope cl C s H fp) elt (low X.K ted))
  (hi:X.N[i]?=some y:=by rfl) (hx:Loc X.env.scope y:=by first|exact Or.inl rfl|exact Or.inr rfl) (hgl:Gl X "range" :=by rfl) (hst:starEach [a] X.env=[(false,eval a X.env)]:=by rfl) (hs:∀x,foldedSetIterable (.Call (.Name "range" p) [a] [] aA) X.env x=pure x:=by intro _;rfl)
  (hsw:swapsWith (.ListComp elt [⟨tg,.Call (.Name "range" p) [a] [] aA,ifs,0⟩] scope pos) (some (.Name y py)) spos.line X.env=pure true:=by rfl) (hf:X.fn y=true∨X.env.scope.names.lookup y=some .local:=by first|exact .inl rfl|exact .inr rfl|assumption) :
  PS X (.Assign [.Name y py] (.ListComp elt [⟨tg,.Call (.Name "range" p) [a] [] aA,ifs,0⟩] scope pos) spos) (aR X.K (eO (mV ta gd ttd ted js) (hName i))):=by
 intro aa s0 σ0 H0 D0 I0 hw
 obtain ⟨ttv,hif',htt⟩:=wM hif s0 H0
 refine ((nz O hc hN hi hx (mR hgl hmr ha hst) hg hif' he hs hsw hf).imp (t':=aR X.K (eO (mV ta gd ttd ted js) (hName i))) fun D σ H zz=>?_) aa s0 σ0 H0 D0 I0 hw
 obtain ⟨τ,M,D',hs,hm,h,hd⟩:=zz
 refine ⟨τ,M,_,hs,hm,h,fun ds M1 vs H1 m1 e1 i1 h1=>?_⟩
 match ds,h1,i1 with
 |[.int j],h1,i1 =>
  obtain ⟨v,rfl,i⟩:=cc i1
  cases i.inv
  obtain ⟨⟨q1,q2⟩,w⟩:=h1
  exact ⟨j,rfl,q1,q2,fu (hs.mono e1) e1 m1 (fun x M1 v H1 m1 e1 i1 q=>hd.nx _ M1 _ H1 ((hs.mono e1).set i1) m1 e1 q) htt (fun l M2 H2 m2 e2 _ _=>nF j.toNat) w⟩
theorem Fl {i:Nat} {y:Str} {py spos:Pos} {ti ted:aD} {gd:aV} {ttd:bZ} (hN:X.N.Nodup) (O:eX X Nc js scope cl) (hc:X.calm=true) (hit:PE X iter (low X.K ti)) (hg:∀C s H fp,PG (bB X Nc scope cl C s H fp) tg (lowG X.K gd)) (hif:∀C s H fp,kf (bB X Nc scope cl C s H fp) ifs ttd) (he:∀C s H fp,PE (bB X Nc scope cl C s H fp) elt (low X.K ted))
  (hi:X.N[i]?=some y:=by rfl) (hx:Loc X.env.scope y:=by first|exact Or.inl rfl|exact Or.inr rfl) (hs:∀x,foldedSetIterable iter X.env x=pure x:=by intro _;rfl)
  (hsw:swapsWith (.ListComp elt [⟨tg,iter,ifs,0⟩] scope pos) (some (.Name y py)) spos.line X.env=pure true:=by rfl) (hf:X.fn y=true∨X.env.scope.names.lookup y=some .local:=by first|exact .inl rfl|exact .inr rfl|assumption) :
  PS X (.Assign [.Name y py] (.ListComp elt [⟨tg,iter,ifs,0⟩] scope pos) spos) (aR X.K (eO (lD ti gd ttd ted js) (hName i))):=by
 intro aa s0 σ0 H0 D0 I0 hw
 obtain ⟨ttv,hif',htt⟩:=wM hif s0 H0
 refine ((nz O hc hN hi hx (pG hit) hg hif' he hs hsw hf).imp (t':=aR X.K (eO (lD ti gd ttd ted js) (hName i))) fun D σ H zz=>?_) aa s0 σ0 H0 D0 I0 hw
 obtain ⟨τ,M,D',hs,hm,h,hd⟩:=zz
 have hq:∀H1,Ext X.K H H1→cN X.K H (fun x M1=>D'.nx (τ.set i (some x)) M1) (fun v H1=>D.nx (σ.set i (some v)) H1):=fun _ _ x M1 v H1 m1 e1 i1 q=>hd.nx _ M1 _ H1 ((hs.mono e1).set i1) m1 e1 q
 refine ⟨τ,M,_,hs,hm,h,fun x M1 v H1 m1 e1 i1 h1=>?_⟩
 cases i1 with
 |@tup a xs ds hx hxs=>exact .inl ⟨a,rfl,.inr ⟨⟨xs,hx⟩,fu (hs.mono e1) e1 m1 (hq _ e1) htt (fun l M2 H2 m2 e2 _ _=>pZ (e2.t _ _ hx) (hxs.mono e2)) h1⟩⟩
 |@rol a xs ds hx hxs=>exact .inl ⟨a,rfl,.inl ⟨⟨xs,hx.sq⟩,fu (hs.mono e1) e1 m1 (hq _ e1) htt (fun l M2 H2 m2 e2 _ _=>jj (e2.f _ _ hx).sq (hxs.mono e2)) h1⟩⟩
 |str z=>exact .inr ⟨z,rfl,fu (hs.mono e1) e1 m1 (hq _ e1) htt (fun l M2 H2 m2 e2 _ _=>oA z) h1⟩
 |ref l0 =>
  obtain ⟨ds,hl,w⟩:=h1
  obtain ⟨xs,hx,hxs⟩:=m1 l0 _ hl
  exact .inl ⟨l0,rfl,.inl ⟨⟨xs,bG.of hx⟩,fu (hs.mono e1) e1 m1 (hq _ e1) htt (fun l M2 H2 m2 e2 hk _=>let ⟨ys,hy,iy⟩:=m2.lst (hk l0 ds hl);jj hy iy) w⟩⟩
 |_=>exact h1.elim
end
end DL
namespace DL
open PySem PySem.Spec PyProof.Rows L2
section
variable {X:Cx}
theorem az.erase {K:PySem.W.Frag} {H:Hp}:∀{ds:List D} {vs:List V} (k:Nat),az K H vs ds→az K H (vs.eraseIdx k) (ds.eraseIdx k)
 |[],_,_,h=>by cases h;exact .nil
 |_::_,_,k,h=>by
  cases h with
  |cons i t=>cases k with
   |zero=>exact t
   |succ k=>exact .cons i (az.erase k t)
noncomputable def FK:D→List D→DH→KD→Prop
 |.ref l,[.int i],M,Q=>∃(xs:List D) (k:Nat) (y:D),M l=some (.lst xs)∧i=(k:Int)∧k < 1000000∧xs[k]?=some y∧Q y (aj M l (.lst (xs.eraseIdx k)))
 |_,_,_,_=>False
theorem Gv:fH X "list.pop" FK:=by
 rintro aa s σ H vx vs v us Q I rx rs ⟨x,ds,M,Q',ix,iss,hm,q,hq⟩
 match x,ds,q,ix,iss with
 |.ref l,[.int i],q,ix,iss =>
  obtain ⟨xs,k,y,hl,rfl,hk,hy,q⟩:=q
  cases ix with
  |ref =>
   obtain ⟨vi,rfl,ii⟩:=cc iss
   cases ii.inv
   obtain ⟨ys,h1,h2⟩:=hm l _ hl
   obtain ⟨vy,ey,iy⟩:=h2.get hy
   have hlt:k < ys.length:=by rw [h2.length];exact (List.getElem?_eq_some_iff.mp hy).1
   refine zP aa s σ H _ _ v us Q I rx rs ⟨l,ys,_,k,vy,rfl,rfl,h1,by first|lia|omega,by first|lia|omega,?_,ey,?_⟩
   ·unfold seqIndex?
    simp
    (first|lia|omega)
   ·obtain ⟨m1,e1⟩:=hm.setL hl h1 (az.erase k h2)
    exact hq _ _ _ _ m1 e1 (iy.mono e1) q
end
end DL
namespace DL
open PySem PySem.Spec PyProof.Rows L2
theorem Inv.turnedL {X:Cx} {aa:List (Addr×Obj)} {σ:St} {H:Hp} {s:Shared} {ch:List Addr} {h':Heap} {t':Nat} (I:Inv X aa σ H s) (k:∀b o,b ∉ ch→s.heap.get? b=some o→h'.get? b=some o) (hf:∀b∈ch,eG X aa H b):Inv X aa σ H { s with heap:=h',toks:=t' }:=by
 have nit:∀b u,H b=some u→b ∉ ch:=fun b u e hb=>by rw [(hf b hb).1] at e;cases e
 refine I.step (g':=s.gens) (d':=s.drawn) (ch:=ch) (fun b hb=>⟨(hf b hb).2.2.2.1,(hf b hb).2.1,(hf b hb).2.2.2.2.1,(hf b hb).2.2.2.2.2⟩) (fun b o _ _ hc e _=>k b o hc e) (fun b o _ _ hc e _=>⟨o.slots,k b o hc e⟩) (fun _ _ _ _ n=>n) (fun b o hc e=>⟨o,k b o hc e⟩) (fun _ _ e=>e) (fun _ _ _ e=>e) (fun b ps e=>⟨#[],by rw [e];simp⟩) (fun m hm=>?_) (fun b u e=>?_) I.bare
 ·obtain ⟨o,es,ep,ho,r⟩:=hm
  exact ⟨o,es,ep,k _ o (fun z=>(hf _ z).2.1 rfl) ho,r⟩
 ·refine (I.ao b u e).stay (fun c v hc q=>k c v ?_ q) (fun _ q=>q) fun _ _ q=>q
  rcases hc with z|z
  ·rw [z];exact nit b u e
  ·exact nit c _ z
section
variable {X:Cx} {elts:List Expr} {k:Nat} {tpos pos:Pos} {g:aV} {tb:aF}
noncomputable def dz (xs ys:List D):List D:=(xs.zip ys).map fun p=>.tup [p.1,p.2]
theorem C6 {xs ys:List D} {i:Nat} {a b:D} (h1:xs[i]?=some a) (h2:ys[i]?=some b):(dz xs ys)[i]?=some (.tup [a,b]):=by
 unfold dz
 rw [List.getElem?_map,List.getElem?_zip_eq_some (z:=(a,b)) |>.mpr ⟨h1,h2⟩]
 rfl
end
end DL
namespace DL
open PySem PySem.Spec PyProof.Rows L2
section
variable {P:Program} {w:World} {K:PySem.W.Frag} {mg:Str→Option Value} {base:Heap} {N:List Str} {qual:Str} {scope:Scope} {f:Addr} {cd:Value} {A:Around} {outer:List Env} {s₀:Shared} {H₀:Hp} {E:XK} {EX:Value→DH→Prop}
end
section
variable {P:Program} {w:World} {K:PySem.W.Frag} {mg:Str→Option Value} {base:Heap}
end
section
variable {X:Cx} {aa:List (Addr×Obj)} {σ:St} {C:Addr} {EX:Value→DH→Prop} {e:Value} {s':Shared}
end
section
variable {X:Cx} {tg elt iter:Expr} {scope:Scope} {pos:Pos} {wi:TI} {g:TG} {te:TE} {js:List (Option Nat)} {Nc:List Str} {cl:List (Str×Addr)} {EX:Value→DH→Prop}
end
end DL
namespace DL
open PySem PySem.Spec PyProof.Rows L2
section
variable {X:Cx} {k:Nat}
end
end DL
namespace DL
open PySem PySem.Spec PyProof.Rows L2
section
variable {X:Cx} {k:Nat}
noncomputable def Gp:D→List D→DH→KD→Prop
 |.ref l,[.ref b],M,Q=>∃xs ys,M l=some (.lst xs)∧M b=some (.lst ys)∧xs.length+ys.length≤sizeLine∧Q .non (aj M l (.lst (xs++ys)))
 |_,_,_,_=>False
theorem BA:fH X "list.extend" Gp:=by
 intro aa s σ H vx vs v us Q I rx rs zz
 obtain ⟨x,ds,M,Q',ix,iss,hm,q,hq⟩:=zz
 match x,ds,q,ix,iss with
 |.ref l,[.ref b],q,ix,iss =>
  obtain ⟨xs,ys,hl,hb,hz,q⟩:=q
  cases ix.inv
  obtain ⟨vy,rfl,iy⟩:=cc iss
  cases iy.inv
  obtain ⟨us',h1,h2⟩:=hm l _ hl
  obtain ⟨ws,h3,h4⟩:=hm b _ hb
  refine GL aa s σ H _ _ v us Q I rx rs ⟨l,b,us',ws,rfl,rfl,h1,h3,by rw [h2.length,h4.length];exact hz,?_⟩
  obtain ⟨m1,e1⟩:=hm.setL hl h1 (h2.append h4)
  exact hq _ _ _ _ m1 e1 .non q
end
end DL
namespace DL
open PySem PySem.Spec PyProof.Rows L2
section
variable {X:Cx} {C:Addr} {k:Nat} {pos:Pos}
noncomputable def Dr (C:Addr) (sp:aS):aD:=fun _ M Q=>∀x dx,M x=none→sp [.ref x] (aj M x (.ins C dx [])) fun d M2=>d=.non∧Q (.ref x) M2
theorem GU {ps:List Str} {sp:aS} {x:Str} {p:Pos} (F:nJ X.prog X.w X.K X.mg X.base C k ps sp) (hr:aW (k+1) X.A) (hm:X.mg x=some (.ref C)) (hg:Gl X x:=by rfl)
  (hdb:(x ==("__debug__" : Str))=false:=by decide):PE X (.Call (.Name x p) [] [] pos) (low X.K (Dr C sp)):=by
 obtain ⟨f,fd,F,hM,hb⟩:=F.ex
 refine (yV (E:=E0) hM F hr hg hm hb .nil oo hdb).imp fun σ H Q zz=>?_
 obtain ⟨τ,M,Q',hs,hm,h,hq⟩:=zz
 intro y dy ny nd ne
 obtain ⟨m2,e2⟩:=hm.made (C:=C) ny nd ne
 refine ⟨[.ref y],_,_,.cons (.ref y) .nil,m2,h y dy (hm.free ny),fun d M3 v H3 m3 e3 i3 zz=>?_⟩
 obtain ⟨ed,q⟩:=zz
 subst ed
 cases i3.inv
 exact ⟨rfl,hq _ _ _ _ m3 (e2.trans e3) (.ref y) q⟩
end
theorem Fj {i j k:Nat}:∀ds τ M Q,gj (hName i) (gj (hName j) (gj (hName k) lJ)) ds τ M Q→ds.length=3:=fun ds τ M Q h=>by
 match ds,h with
 |[],h=>exact h.elim
 |[_],h=>exact h.elim
 |[_,_],h=>exact h.elim
 |[_,_,_],h=>rfl
 |_::_::_::_::_,h=>exact h.elim
end DL
namespace DL
open PySem PySem.Spec PyProof.Rows L2
noncomputable instance decD:DecidableEq D:=fun a b=>Classical.propDecidable (a=b)
mutual
inductive HN (h:Heap):D→Value→Prop
 |int {i:Int} {t:Tok}:HN h (.int i) (.int i t)
 |str {x:Str} {t:Tok}:HN h (.str x) (.str x t)
 |tup {a:Addr} {ai:List Value} {ds:List D}:h.IsTuple a ai.toArray→cA h ds ai→HN h (.tup ds) (.ref a)
inductive cA (h:Heap):List D→List Value→Prop
 |nil:cA h [] []
 |cons {d:D} {v:Value} {ds:List D} {vs:List Value}:HN h d v→cA h ds vs→cA h (d::ds) (v::vs)
end
mutual
noncomputable def D.hsh (P:Program) (w:World):D→Int
 |.int i=>(ck P w).hash (.inl i)
 |.str x=>(ck P w).hash (.inr x)
 |.tup ds=>reduceHash (Builtin.Tuple.tupleHashOf (D.hshs P w ds))
 |_=>0
noncomputable def D.hshs (P:Program) (w:World):List D→List Int
 |[]=>[]
 |d::ds=>D.hsh P w d::D.hshs P w ds
end
mutual
noncomputable def D.drw:D→Nat
 |.tup ds=>D.drws ds+1
 |_=>1
noncomputable def D.drws:List D→Nat
 |[]=>0
 |d::ds=>D.drw d+D.drws ds
end
section
variable {P:Program} {w:World} {h:Heap} {s:Shared} {E:Value→Shared→Prop}
theorem cA.length:∀{ds:List D} {vs:List Value},cA h ds vs→ds.length=vs.length
 |[],[],_=>rfl
 |_::_,_::_,.cons _ t=>by rw [List.length_cons,List.length_cons,t.length]
theorem cA.get:∀{ds:List D} {vs:List Value} {j:Nat} {d:D},cA h ds vs→ds[j]?=some d→∃v,vs[j]?=some v∧HN h d v
 |_::_,_::_,0,_,.cons x _,e=>by rw [List.getElem?_cons_zero] at e;cases e;exact ⟨_,rfl,x⟩
 |_::_,_::_,j+1,_,.cons _ t,e=>by
  rw [List.getElem?_cons_succ] at e
  obtain ⟨v,h1,h2⟩:=t.get e
  exact ⟨v,by rw [List.getElem?_cons_succ];exact h1,h2⟩
 |[],_,_,_,_,e=>by rw [List.getElem?_nil] at e;cases e
theorem Eu {a:Addr} {xs ys:Array Value} (p:h.IsTuple a xs) (q:h.IsTuple a ys):xs=ys:=by
 obtain ⟨o,h1,_,n,h2⟩:=p
 obtain ⟨o',h3,_,n',h4⟩:=q
 rw [h1] at h3
 cases h3
 rw [h2] at h4
 injection h4
mutual
theorem HN.inj:∀{d d':D} {v:Value},HN h d v→HN h d' v→d=d'
 |_,_,_,.int,.int=>rfl
 |_,_,_,.str,.str=>rfl
 |_,_,_,.tup p t,.tup p' t'=>by
  have e:=congrArg Array.toList (Eu p p')
  simp only [List.toList_toArray] at e
  subst e
  rw [cA.inj t t']
theorem cA.inj:∀{ds es:List D} {vs:List Value},cA h ds vs→cA h es vs→ds=es
 |_,_,_,.nil,.nil=>rfl
 |_,_,_,.cons x t,.cons x' t'=>by rw [HN.inj x x',cA.inj t t']
end
mutual
theorem HN.keep {h':Heap} (k:∀a xs,h.IsTuple a xs→h'.IsTuple a xs):∀{d:D} {v:Value},HN h d v→HN h' d v
 |_,_,.int=>.int
 |_,_,.str=>.str
 |_,_,.tup p t=>.tup (k _ _ p) (cA.keep k t)
theorem cA.keep {h':Heap} (k:∀a xs,h.IsTuple a xs→h'.IsTuple a xs):∀{ds:List D} {vs:List Value},cA h ds vs→cA h' ds vs
 |_,_,.nil=>.nil
 |_,_,.cons x t=>.cons (HN.keep k x) (cA.keep k t)
end
noncomputable abbrev wz (P:Program) (w:World) (E:Value→Shared→Prop) (n:Nat):Prop:=∀(A:Around) (s:Shared) (d:D) (v:Value) (Q:Int→Shared→Prop),D.dep d≤n→A.units+n < cLine→HN s.heap d v→Q (D.hsh P w d) { s with toks:=s.toks+D.drw d }→wpAny (model P w) A (pyHash v) Q E s
theorem Ft {n:Nat} (ih:wz P w E n) (ds:List D):∀(vs:List Value) (A:Around) (s:Shared) (b:Array Int) (Q:Array Int→Shared→Prop),D.deps ds≤n→A.units+n < cLine→cA s.heap ds vs →
   (∀b',b'.toList=b.toList++D.hshs P w ds→Q b' { s with toks:=s.toks+D.drws ds })→wpAny (model P w) A (forIn vs b fun x r=>do let y ←pyHash x;pure PUnit.unit;pure (ForInStep.yield (r.push y))) Q E s:=by
 induction ds with
 |nil =>
  intro vs A s b Q _ _ t q
  cases t
  exact wpAny_pure (q b (by rw [D.hshs,List.append_nil]))
 |cons d ds ihs =>
  intro vs A s b Q hd hu t q
  cases t with
  |@cons _ v _ vs x t =>
   rw [D.deps] at hd
   rw [List.forIn_cons]
   refine wpAny_bind (wpAny_bind (ih A s d v _ (by first|lia|omega) hu x ?_))
   refine wpAny_bind (wpAny_pure (wpAny_pure ?_))
   refine ihs vs A _ _ Q (by first|lia|omega) hu t fun b' e=>?_
   have e2:s.toks+D.drw d+D.drws ds=s.toks+D.drws (d::ds):=by rw [D.drws];(first|lia|omega)
   show Q b' { s with toks:=s.toks+D.drw d+D.drws ds }
   rw [e2]
   refine q b' ?_
   rw [e,D.hshs,Array.toList_push,List.append_assoc]
   rfl
theorem Bh (n:Nat):wz P w E n:=by
 induction n with
 |zero =>
  intro A s d v Q hd hu x q
  cases x with
  |int=>exact (ck P w).pyHash (ql P w _ _) q
  |str=>exact (ck P w).pyHash (pW P w _ _) q
  |tup p t=>rw [D.dep] at hd;(first|lia|omega)
 |succ n ih =>
  intro A s d v Q hd hu x q
  cases x with
  |int=>exact (ck P w).pyHash (ql P w _ _) q
  |str=>exact (ck P w).pyHash (pW P w _ _) q
  |@tup a ai ds p t =>
   rw [D.dep] at hd
   obtain ⟨o,ho,hc,m,hm⟩:=p
   refine PySem.W.pyHash_slot (T:= "tuple") ⟨_,ho,hc⟩ F.slot_tuple_hash F.entry_tuple_hash (F.args_tuple_hash_1 _) (beq_builtin_none _) (.inr (by first|lia|omega)) ?_
   show wpAny _ _ (Builtin.Tuple.tupleItemsOf (.ref a) >>=_) _ _ s
   refine wpAny_bind (wpAny_tupleItemsOf ho hm (wpAny_bind ?_))
   rw [←Array.forIn_toList]
   refine Ft ih ds ai _ s #[] _ (by first|lia|omega) (by rw [in1_units];(first|lia|omega)) t fun b e=>?_
   have e2:b.toList=D.hshs P w ds:=e
   show wpAny _ _ (retInt (Builtin.Tuple.tupleHashOf b.toList)) _ _ _
   rw [e2]
   refine wpAny_bind (wpAny_mkInt (wpAny_pure ⟨_,_,rfl,?_⟩))
   rw [D.hsh,D.drw,←Nat.add_assoc] at q
   exact q
theorem FO (n:Nat):∀(A:Around) (s:Shared) (d d':D) (v v':Value),D.dep d≤n→A.units+n < cLine→D.eqOk d d'=true→HN s.heap d v→HN s.heap d' v'→SeqAt.EqAt A s v v' (D.eq d d'):=by
 induction n with
 |zero =>
  intro A s d d' v v' hd hu ok x x'
  cases x with
  |int=>cases x' with
   |int=>exact SeqAt.EqAt.int_int _ _ _ _
   |str=>exact SeqAt.EqAt.int_str _ _ _ _
   |tup=>exact cj ok
  |str=>cases x' with
   |int=>exact SeqAt.EqAt.str_int _ _ _ _
   |str=>exact SeqAt.EqAt.str_str _ _ _ _
   |tup=>exact cj ok
  |tup p t=>rw [D.dep] at hd;(first|lia|omega)
 |succ n ih =>
  intro A s d d' v v' hd hu ok x x'
  cases x with
  |int=>cases x' with
   |int=>exact SeqAt.EqAt.int_int _ _ _ _
   |str=>exact SeqAt.EqAt.int_str _ _ _ _
   |tup=>exact cj ok
  |str=>cases x' with
   |int=>exact SeqAt.EqAt.str_int _ _ _ _
   |str=>exact SeqAt.EqAt.str_str _ _ _ _
   |tup=>exact cj ok
  |@tup a ai ds p t=>cases x' with
   |int=>exact cj ok
   |str=>exact cj ok
   |@tup b its2 es p' t' =>
    rw [D.dep] at hd
    by_cases hab:a=b
    ·subst hab
     have e:=HN.inj (HN.tup p t) (HN.tup p' t')
     rw [nQ _ _ _ (Nat.le_refl _) ok e]
     exact SeqAt.EqAt.same _
    ·refine SeqAt.EqAt.of_refs hab ?_
     show SeqAt.RcAt A s (.ref a) (.ref b) (D.eqs ds es)
     have n1:ai.toArray.size=ds.length:=by rw [List.size_toArray,t.length]
     have n2:its2.toArray.size=es.length:=by rw [List.size_toArray,t'.length]
     rw [←ml ds es,←n1,←n2]
     refine SeqAt.RcAt.tuples p p' (by first|lia|omega) fun j h1 h2=>?_
     have q1:ds[j]?=some ds[j]:=List.getElem?_eq_getElem (by first|lia|omega)
     have q2:es[j]?=some es[j]:=List.getElem?_eq_getElem (by first|lia|omega)
     obtain ⟨u1,e1,x1⟩:=t.get q1
     obtain ⟨u2,e2,x2⟩:=t'.get q2
     have g1:ai.toArray[j]=u1:=by
      have:ai[j]?=some ai[j]:=List.getElem?_eq_getElem (by simpa using h1)
      rw [this] at e1;simpa using e1
     have g2:its2.toArray[j]=u2:=by
      have:its2[j]?=some its2[j]:=List.getElem?_eq_getElem (by simpa using h2)
      rw [this] at e2;simpa using e2
     have pe:pairEq ds es j=D.eq ds[j] es[j]:=by unfold pairEq;rw [q1,q2]
     have dg:=me q1
     rw [g1,g2,pe]
     exact ih A.in1 s _ _ u1 u2 (by first|lia|omega) (by rw [in1_units];(first|lia|omega)) (oQ (show D.eqOks ds es=true from ok) q1 q2) x1 x2
theorem xN (n:Nat):∀(A:Around) (s:Shared) (d:D) (v:Value) (Q:Bool→Shared→Prop),D.dep d≤n→HN s.heap d v→Q true s→wpAny (model P w) A (eqIsQuiet n v) Q E s:=by
 induction n with
 |zero =>
  intro A s d v Q hd x q
  cases x with
  |int=>rw [eqIsQuiet_byValue 0 (v:=.int _ _) rfl];exact wpAny_pure q
  |str=>rw [eqIsQuiet_byValue 0 (v:=.str _ _) rfl];exact wpAny_pure q
  |tup p t=>rw [D.dep] at hd;(first|lia|omega)
 |succ n ih =>
  intro A s d v Q hd x q
  cases x with
  |int=>rw [eqIsQuiet_byValue _ (v:=.int _ _) rfl];exact wpAny_pure q
  |str=>rw [eqIsQuiet_byValue _ (v:=.str _ _) rfl];exact wpAny_pure q
  |@tup a ai ds p t =>
   rw [D.dep] at hd
   obtain ⟨o,ho,hc,m,hm⟩:=p
   unfold eqIsQuiet
   refine wpAny_bind (wpAny_specialOf ⟨o,ho,hc⟩ F.slot_tuple_eq.lookup ?_)
   refine wpAny_bind (wpAny_isInstance ⟨o,ho,hc⟩ isSubtype_tuple_tuple ?_)
   rw [Bool.not_true,if_neg Bool.false_ne_true]
   refine wpAny_bind (wpAny_seqItems ho hm (wpAny_bind ?_))
   show wpAny _ _ (forIn ai.toArray _ _) _ _ s
   rw [←Array.forIn_toList]
   refine wpAny_forIn_list _ (fun rest r s'=>r.1=none∧s'=s∧∃ds',D.deps ds'≤n∧cA s.heap ds' rest) _ ?_ ?_ _ _ ⟨rfl,rfl,ds,by first|lia|omega,t⟩
   ·rintro v rest r s' ⟨hr,rfl,ds',h1,h2⟩
    cases h2 with
    |@cons d' _ ds'' _ x1 t1 =>
     rw [D.deps] at h1
     refine wpAny_bind (ih A s' d' v _ (by first|lia|omega) x1 ?_)
     rw [Bool.not_true,if_neg Bool.false_ne_true]
     exact wpAny_pure ⟨rfl,rfl,ds'',by first|lia|omega,t1⟩
   ·rintro ⟨r1,r2⟩ s' ⟨hr,rfl,_⟩
    cases hr
    exact wpAny_pure q
end
end DL
namespace DL
open PySem PySem.Spec PyProof.Rows L2
mutual
inductive NK:D→Prop
 |blk {a n:Str} {ds:List D}:gi ds→NK (.tup [.str a,.str n,.tup ds])
 |bln {a:Str} {k:Int}:NK (.tup [.str a,.int k])
inductive gi:List D→Prop
 |nil:gi []
 |cons {d:D} {ds:List D}:NK d→gi ds→gi (d::ds)
end
theorem NK.ok {d e:D} (x:NK d) (y:NK e):D.eqOk d e=true :=
 NK.rec (motive_1:=fun d _=>∀e,NK e→D.eqOk d e=true) (motive_2:=fun ds _=>∀es,gi es→D.eqOks ds es=true)
  (fun {a n ds} _ ih e y=>by
   cases y with
   |blk t'=>show (true && (true && (D.eqOks ds _ && true)))=true;rw [ih _ t'];rfl
   |bln=>rfl)
  (fun {a k} e y=>by cases y<;>rfl)
  (fun es y=>by cases y<;>rfl)
  (fun {d ds} _ _ ih1 ih2 es y=>by
   cases y with
   |nil=>rfl
   |cons x' t'=>show (D.eqOk d _ && D.eqOks ds _)=true;rw [ih1 _ x',ih2 _ t'];rfl) x e y
theorem NK.one {d e:D} (x:NK d) (y:NK e) (h:D.eq d e=true):d=e :=
 NK.rec (motive_1:=fun d _=>∀e,NK e→D.eq d e=true→d=e) (motive_2:=fun ds _=>∀es,gi es→D.eqs ds es=true→ds=es)
  (fun {a n ds} _ ih e y h=>by
   cases y with
   |@blk b m es t' =>
    replace h:(a ==b && (n ==m && (D.eqs ds es && true)))=true:=h
    simp only [Bool.and_eq_true,beq_iff_eq] at h
    rw [h.1,h.2.1,ih _ t' h.2.2.1]
   |@bln b k =>
    replace h:(a ==b && (false && false))=true:=h
    simp at h)
  (fun {a k} e y h=>by
   cases y with
   |@blk b m es t' =>
    replace h:(a ==b && (false && false))=true:=h
    simp at h
   |@bln b j =>
    replace h:(a ==b && (k ==j && true))=true:=h
    simp only [Bool.and_eq_true,beq_iff_eq] at h
    rw [h.1,h.2.1])
  (fun es y h=>by
   cases y with
   |nil=>rfl
   |cons _ _=>exact cj h)
  (fun {d ds} _ _ ih1 ih2 es y h=>by
   cases y with
   |nil=>exact cj h
   |cons x' t' =>
    obtain ⟨h1,h2⟩:=Bool.and_eq_true_iff.mp h
    rw [ih1 _ x' h1,ih2 _ t' h2]) x e y h
theorem NK.dec {d e:D} (x:NK d) (y:NK e):D.eq d e=decide (d=e):=by
 by_cases h:d=e
 ·rw [decide_eq_true h];exact nQ _ _ _ (Nat.le_refl _) (x.ok y) h
 ·rw [decide_eq_false h]
  cases q:D.eq d e with
  |false=>rfl
  |true=>exact absurd (x.one y q) h
noncomputable def bO (d:D):Prop:=NK d∧D.dep d≤8
theorem Eo {h h':Heap} {a d:Addr} {o:Obj} {es:Array DictEntry} {ep:Nat} {xs:Array Value} (p:h.IsTuple a xs) (ho:h.get? d=some o) (hd:o.data=.dict es ep) (hs:Heap.SameBut d h h'):h'.IsTuple a xs:=by
 obtain ⟨u,h1,h2,n,h3⟩:=p
 have hne:a≠d:=fun z=>by
  subst z
  rw [ho] at h1
  cases h1
  rw [hd] at h3
  cases h3
 exact ⟨u,(hs.2 a hne).trans h1,h2,n,h3⟩
noncomputable def oy (P:Program) (w:World):HeapKind P w D where
 is:=fun h d a=>HN h d (.ref a)∧bO d
 hash:=D.hsh P w
 draws:=D.drw
 room:=fun A=>A.units+20 < cLine
 inj:=fun x y=>HN.inj x.1 y.1
 keeps:=fun x ho hd hs=>⟨x.1.keep fun _ _ p=>Eo p ho hd hs,x.2⟩
 pyHash:=fun hu x q=>Bh 8 _ _ _ _ _ x.2.2 (by first|lia|omega) x.1 q
 eqBool:=fun {A E s x y a b Q} hu hx hy q=>FO 8 A s x y _ _ hx.2.2 (by first|lia|omega) (hx.2.1.ok hy.2.1) hx.1 hy.1 P w E Q (by rw [hx.2.1.dec hy.2.1];exact q)
 quiet:=fun {A E s k a Q} x q=>xN 8 A s k _ Q x.2.2 x.1 q
section
variable {X:Cx} {aa:List (Addr×Obj)} {σ:St} {H:Hp} {s:Shared}
theorem nL {x:Str} {vs:List V} {us:List Value} (r:Vals (.str x::vs) us):∃t us',us=.str x t::us'∧Vals vs us':=by
 cases r with
 |cons a r=>obtain ⟨t,rfl⟩:=a;exact ⟨t,_,rfl,r⟩
theorem zw {x:Int} {vs:List V} {us:List Value} (r:Vals (.int x::vs) us):∃t us',us=.int x t::us'∧Vals vs us':=by
 cases r with
 |cons a r=>obtain ⟨t,rfl⟩:=a;exact ⟨t,_,rfl,r⟩
theorem GR {x:Addr} {vs:List V} {us:List Value} (r:Vals (.ref x::vs) us):∃us',us=.ref x::us'∧Vals vs us':=by
 cases r with
 |cons a r=>cases a;exact ⟨_,rfl,r⟩
theorem nR {us:List Value} (r:Vals [] us):us=[]:=by cases r;rfl
theorem pv {K:PySem.W.Frag} {x:Str} {vs:List V} {ds:List D} (r:az K H vs (.str x::ds)):∃vs',vs=.str x::vs'∧az K H vs' ds:=by
 cases r with
 |cons a r=>cases a.inv;exact ⟨_,rfl,r⟩
theorem GY {K:PySem.W.Frag} {x:Int} {vs:List V} {ds:List D} (r:az K H vs (.int x::ds)):∃vs',vs=.int x::vs'∧az K H vs' ds:=by
 cases r with
 |cons a r=>cases a.inv;exact ⟨_,rfl,r⟩
theorem G9 {K:PySem.W.Frag} {es:List D} {vs:List V} {ds:List D} (r:az K H vs (.tup es::ds)):∃a xs vs',vs=.ref a::vs'∧aZ K H a xs∧az K H xs es∧az K H vs' ds:=by
 cases r with
 |cons a r=>cases a with
  |tup h i=>exact ⟨_,_,_,rfl,h,i,r⟩
theorem oO {K:PySem.W.Frag} {vs:List V} (r:az K H vs []):vs=[]:=by cases r;rfl
theorem Gg {ds:List D} (ih:∀d v u,d∈ds→NK d→Is X.K H v d→RelV v u→HN s.heap d u) (t:gi ds):∀{vs:List V} {us:List Value},az X.K H vs ds→Vals vs us→cA s.heap ds us:=by
 induction ds with
 |nil=>intro vs us i r;cases oO i;cases nR r;exact .nil
 |cons d ds ihs =>
  intro vs us i r
  cases t with
  |cons x t=>cases i with
   |cons i is=>cases r with
    |cons a r=>exact .cons (ih d _ _ List.mem_cons_self x i a) (ihs (fun d v u hd=>ih d v u (List.mem_cons_of_mem _ hd)) t is r)
theorem zG (I:Inv X aa σ H s) (n:Nat):∀(d:D) (v:V) (u:Value),D.dep d≤n→NK d→Is X.K H v d→RelV v u→HN s.heap d u:=by
 induction n with
 |zero =>
  intro d v u hd x i r
  cases x<;>(rw [D.dep] at hd;(first|lia|omega))
 |succ n ih =>
  intro d v u hd x i r
  cases x with
  |@blk a m ds t =>
   cases i with
   |tup hx is =>
    cases (show u=_ from r)
    obtain ⟨ai,r1,p1,_⟩:=I.tuple hx
    obtain ⟨v1,rfl,j1⟩:=pv is
    obtain ⟨v2,rfl,j2⟩:=pv j1
    obtain ⟨b,ys,v3,rfl,hy,is2,j3⟩:=G9 j2
    cases oO j3
    obtain ⟨t1,u1,rfl,k1⟩:=nL r1
    obtain ⟨t2,u2,rfl,k2⟩:=nL k1
    obtain ⟨u3,rfl,k3⟩:=GR k2
    cases nR k3
    obtain ⟨its2,r2,p2,_⟩:=I.tuple hy
    have hd2:D.deps ds≤n:=by
     simp only [D.dep,D.deps] at hd
     (first|lia|omega)
    refine .tup p1 (.cons .str (.cons .str (.cons (.tup p2 (Gg (X:=X) (fun d v u hm x i r=>ih d v u ?_ x i r) t is2 r2)) .nil)))
    obtain ⟨j,hj⟩:=List.mem_iff_getElem?.mp hm
    exact Nat.le_trans (me hj) hd2
  |@bln a k =>
   cases i with
   |tup hx is =>
    cases (show u=_ from r)
    obtain ⟨ai,r1,p1,_⟩:=I.tuple hx
    obtain ⟨v1,rfl,j1⟩:=pv is
    obtain ⟨v2,rfl,j2⟩:=GY j1
    cases oO j2
    obtain ⟨t1,u1,rfl,k1⟩:=nL r1
    obtain ⟨t2,u2,rfl,k2⟩:=zw k1
    cases nR k2
    exact .tup p1 (.cons .str (.cons .int .nil))
theorem NK.hn (I:Inv X aa σ H s) {d:D} {v:V} {u:Value} (x:NK d) (i:Is X.K H v d) (r:RelV v u):HN s.heap d u:=zG I _ d v u (Nat.le_refl _) x i r
end
section
variable {X:Cx} {aa:List (Addr×Obj)} {σ:St} {H:Hp} {s:Shared} {a b:Addr} {k:D} {ae:List (D×D)} {xs:List (D×Addr×Value)}
theorem NK.ref {K:PySem.W.Frag} {v:V} (x:NK k) (i:Is K H v k):∃b,v=.ref b:=by
 cases x<;>(cases i;exact ⟨_,rfl⟩)
theorem mF (I:Inv X aa σ H s) (x:bO k) (i:Is X.K H (.ref b) k):(oy X.prog X.w).is s.heap k b:=⟨x.1.hn I i rfl,x⟩
theorem pB (I:Inv X aa σ H s) (e:H a=some (.ext (gN a (D.hsh X.prog X.w) xs))) (r:mC X.K H ae xs) (hn:(ae.map (·.1)).Nodup) (hk:∀q∈ae,bO q.1):s.heap.DictOfH (oy X.prog X.w) a xs:=by
 obtain ⟨⟨o,es,ep,h1,h2,h3,h4⟩,g⟩:=(show bS X.prog X.w H s.heap a (.ext (gN a (D.hsh X.prog X.w) xs)) from I.ao a _ e)
 refine ⟨o,es,ep,h1,h2,h3,h4,?_,by rw [←Ds r];exact hn⟩
 clear h4 e hn g
 induction r with
 |nil=>intro x hx;exact nomatch hx
 |@cons q x qs xs h t ih =>
  intro y hy
  rcases List.mem_cons.mp hy with z|z
  ·subst z;rw [←h.1];exact mF I (hk q List.mem_cons_self) h.2.1
  ·exact ih (fun q hq=>hk q (List.mem_cons_of_mem _ hq)) y z
theorem vT {P:Program} {w:World} {H':Hp} {h':Heap} {hf:D→Int} (h:gN a hf xs h'):bS P w H' h' a (.ext (gN a hf xs)):=by
 refine ⟨h,?_,?_⟩
 ·obtain ⟨o,_,_,h1,_⟩:=h;exact ⟨o,h1⟩
 ·rintro h1 h2 ⟨o,es,ep,g1,g2⟩ hk
  exact ⟨o,es,ep,hk _ g1,g2⟩
theorem pS {A:Around} (hu:A.units+30 < cLine):(oy X.prog X.w).room A.in1:=by
 show A.in1.units+20 < cLine
 rw [in1_units];(first|lia|omega)
theorem Gm {K:PySem.W.Frag} {H':Hp} (e:fG K H H') (r:mC K H ae xs):mC K H' ae xs:=r.impP fun _ _ ⟨r1,r2,v,r3,r4⟩=>⟨r1,r2.mono0 e,v,r3,r4.mono0 e⟩
noncomputable def wc (X:Cx) (H:Hp) (a:Addr) (y v:V):Prop:=∀(aa:List (Addr×Obj)) (σ:St) (s:Shared),Inv X aa σ H s→s.TypeIs (.ref a) "dict" ∧
 ∀(u:Value) (A:Around) (E:Value→Shared→Prop) (Q:Value→Shared→Prop),A.units+30 < cLine→RelV y u→(∀w' s',Inv X aa σ H s'→RelV v w'→Q w' s')→wpAny (model X.prog X.w) A (getItem (.ref a) u) Q E s
noncomputable def yY (X:Cx) (td ty:TE):TE:=fun σ H Q=>td σ H fun x H1=>ty σ H1 fun y H2=>∃a v,x=.ref a∧wc X H2 a y v∧Q v H2
theorem Hl {o i:Expr} {pos:Pos} {td ty:TE} (hu:X.A.units+30 < cLine) (ho:PE X o td) (hi:PE X i ty) (hs:kX i):PE X (.Subscript o i pos) (yY X td ty):=by
 intro aa s σ H Q I h
 refine tR PySem.F.slot_dict_getitem.lookup hs (aC (ho aa s σ H _ I h) fun u s1 zz0=>?_)
 obtain ⟨x,H1,I1,rx,q1⟩:=zz0
 refine aC (hi aa s1 σ H1 _ I1 q1) fun iv s2 zz1=>?_
 obtain ⟨y,H2,I2,ry,a,v,ex,g,q2⟩:=zz1
 subst ex
 obtain rfl:u=Value.ref a:=rx
 exact ⟨(g _ _ _ I2).1,(g _ _ _ I2).2 _ _ _ _ hu ry fun w' s3 I3 rw'=>⟨v,H2,I3,rw',q2⟩⟩
theorem Ba {M:DH} {d:D} (hm:aw X.K M H) (e:M a=some (.ndc (D.hsh X.prog X.w) bO ae)) (hk:bO k) (hb:Is X.K H (.ref b) k) (hd:bJ ae k=some d):∃v,wc X H a (.ref b) v∧Is X.K H v d:=by
 obtain ⟨xs,h1,r,h3,h4,h5,h6⟩:=hm a _ e
 obtain ⟨p,v,g1,g2,g3⟩:=so r hd
 refine ⟨v,fun aa σ s I=>?_,g3⟩
 have dd:=pB I h1 r h5 h6
 refine ⟨dd.typeIs,fun u A E Q hu ry h=>?_⟩
 cases (show u=Value.ref b from ry)
 refine wpAny_getItem_heap (pS hu) (mF I hk hb) dd g1 ?_
 exact h _ _ (I.tok _) g2
noncomputable def tI (X:Cx) (H:Hp) (a:Addr) (y:V) (r:Value) (H':Hp):Prop:=∀(aa:List (Addr×Obj)) (σ:St) (s:Shared) (u:Value) (A:Around) (E:Value→Shared→Prop) (Q:Unit→Shared→Prop),A.units+30 < cLine→Inv X aa σ H s→RelV y u →
 (∀s',Inv X aa σ H' s'→Q () s')→wpAny (model X.prog X.w) A (setItem (.ref a) u r) Q E s
theorem zy {α:Type} [DecidableEq α] {ae:List (α×D)} {k:α} {d:D} {q:α×D} (h:q∈cB ae k d):q.1=k∨∃p∈ae,q.1=p.1:=by
 unfold cB at h
 by_cases e:(bJ ae k).isSome=true
 ·rw [if_pos e] at h
  obtain ⟨p,hp,rfl⟩:=List.mem_map.mp h
  refine .inr ⟨p,hp,?_⟩
  split<;>rfl
 ·rw [if_neg e] at h
  rcases List.mem_append.mp h with h|h
  ·exact .inr ⟨q,h,rfl⟩
  ·rw [List.mem_singleton.mp h];exact .inl rfl
theorem yz {M:DH} {d:D} {v:V} {r:Value} (hm:aw X.K M H) (e:M a=some (.ndc (D.hsh X.prog X.w) bO ae)) (hk:bO k) (hb:Is X.K H (.ref b) k) (hl:ae.length < sizeLine) (rv:RelV v r) (i:Is X.K H v d) :
  ∃H',tI X H a (.ref b) r H'∧aw X.K (aj M a (.ndc (D.hsh X.prog X.w) bO (cB ae k d))) H'∧Ext X.K H H':=by
 obtain ⟨xs,h1,rr,h3,h4,h5,h6⟩:=hm a _ e
 have ex:Ext X.K H (upd H a (.ext (gN a (D.hsh X.prog X.w) (storedH xs k b r)))):=iH (fun zs s=>by rcases s with s|⟨u,s⟩<;>rw [h1] at s<;>cases s) (fun u xs s=>by rw [h1] at s;cases s)
 refine ⟨_,fun aa σ s u A E Q hu I ry h=>?_,fun c o q=>?_,ex⟩
 ·cases (show u=Value.ref b from ry)
  have dd:=pB I h1 rr h5 h6
  have hz:xs.length≤sizeLine:=by rw [←Paired.length rr];exact h4
  refine wpAny_setItem_heap (hsz:=hz) (pS hu) (mF I hk hb) dd fun h' dd' hs=>h _ ?_
  obtain ⟨q,es,ep,hq,g2,g3,g4,_,g5⟩:=dd'
  exact oW I (by rw [h1];exact True.intro) hs ⟨q,hq⟩ (vT ⟨q,es,ep,hq,g2,g3,g4⟩)
 ·by_cases z:c=a
  ·subst z;rw [ar] at q;cases q
   refine ⟨_,bV,Gm ex.e0 (FQ rr hb rv i),h3,by have:=rL ae k d;(first|lia|omega),GD d h5,fun q hq=>?_⟩
   rcases zy hq with e|⟨p,hp,e⟩
   ·rw [e];exact hk
   ·rw [e];exact h6 p hp
  ·rw [ay z] at q
   exact (hm c o q).mono ex.e0 (fun v w=>by rw [aK z];exact w) (fun dx w=>by rw [aK (fY w h1 (by intro k;cases k))];exact w)
end
section
variable {X:Cx} {a b o:Expr} {pos:Pos} {ta tb:aD} {n:Nat}
theorem nC (hr:aW n X.A):X.A.units+30 < cLine:=by have:=hr.un;(first|lia|omega)
noncomputable def Ec (P:Program) (w:World):aD:=fun _ M Q=>∀p,M p=none→Q (.ref p) (aj M p (.ndc (D.hsh P w) bO []))
theorem yA:PE X (.Dict [] [] pos) (low X.K (Ec X.prog X.w)):=fun aa s σ H Q I ⟨τ,M,Q',hs,hm,h,hq⟩ =>
 have hp:H s.heap.objs.size=none:=I.ao.fresh (Nat.le_refl _)
 wpAny_Dict_empty ⟨.ref s.heap.objs.size,_,I.laid (a:=s.heap.objs.size) (o:=.ext (gN s.heap.objs.size (D.hsh X.prog X.w) [])) (t':=s.toks) (fun _ _ q=>Heap.get?_push_of_some _ q) (Nat.le_refl _)
  (vT ⟨_,#[],0,Heap.get?_push_size _ rfl,⟨rfl,rfl,rfl⟩,rfl,rfl⟩),rfl,
  hq _ _ _ _ (hm.newM hp (show ff X.K _ _ (.ndc (D.hsh X.prog X.w) bO []) from ⟨[],bV,.nil,beq_eq_false_iff_ne.mpr (Ne.symm (Nat.ne_of_lt I.big)),Nat.zero_le _,List.nodup_nil,fun q hq=>(nomatch hq)⟩)) (bP hp) (.ref _) (h _ (hm.free hp))⟩
noncomputable def AZ (hf:D→Int):D→D→DH→KD→Prop
 |.ref l,y,M,Q=>∃ae d,bO y∧M l=some (.ndc hf bO ae)∧bJ ae y=some d∧Q d M
 |_,_,_,_=>False
theorem qD (hr:aW n X.A) (ha:PE X a (low X.K ta)) (hb:PE X b (low X.K tb)) (hs:kX b:=by intro _ _;rfl):PE X (.Subscript a b pos) (low X.K (dF (AZ (D.hsh X.prog X.w)) ta tb)) :=
 (Hl (nC hr) ha hb hs).imp fun σ H Q ⟨τ,M,Q',hs,hm,h,hq⟩ =>
  ⟨τ,M,_,hs,hm,h,fun x M1 vx H1 m1 e1 i1 h1=>⟨τ,M1,_,hs.mono e1,m1,h1,fun y M2 vy H2 m2 e2 i2 h2=>by
   cases i1 with
   |ref l =>
    obtain ⟨ae,d,hk,hl,hd,q⟩:=h2
    obtain ⟨b,rfl⟩:=hk.1.ref i2
    obtain ⟨v,g,iv⟩:=Ba m2 hl hk i2 hd
    exact ⟨l,v,rfl,g,hq d M2 v H2 m2 (e1.trans e2) iv q⟩
   |_=>exact h2.elim⟩⟩
noncomputable def lX (hf:D→Int):D→D→DH→KD→Prop
 |y,.ref l,M,Q=>∃ae,bO y∧M l=some (.ndc hf bO ae)∧Q (.bl (bJ ae y).isSome) M
 |_,_,_,_=>False
theorem GK {hf:D→Int} {x y:D} {M:DH} {Q:KD} (q:lX hf x y M Q) (h2:∀l,y≠.ref l):False:=by
 cases y with
 |ref l=>exact h2 _ rfl
 |_=>cases x<;>exact q
theorem D8 {hf:D→Int} {x:D} {l:Addr} {M:DH} {Q:KD} (q:lX hf x (.ref l) M Q):∃ae,bO x∧M l=some (.ndc hf bO ae)∧Q (.bl (bJ ae x).isSome) M:=by
 cases x<;>exact q
theorem FW (hr:aW n X.A):cx X (compareOp .In) (lX (D.hsh X.prog X.w)):=by
 rintro aa s σ H vx vy v u Q I rx ry ⟨x,y,M,Q',ix,iy,hm,q,hq⟩
 cases iy with
 |ref l =>
  cases ry
  obtain ⟨ae,hk,hl,q⟩:=D8 q
  obtain ⟨b,rfl⟩:=hk.1.ref ix
  cases (show v=Value.ref b from rx)
  obtain ⟨xs,h1,r,h3,h4,h5,h6⟩:=hm l _ hl
  refine wpAny_in_heap (pS (nC hr)) (mF I hk ix) h3 (pB I h1 r h5 h6) ?_
  rw [tF r]
  exact ⟨.bl _,H,I.tok _,rfl,hq.here hm (.bl _) q⟩
 |_=>exact (GK q fun _ z=>D.noConfusion z).elim
noncomputable def B3 (hf:D→Int):D→D→D→DH→(DH→Prop)→Prop
 |.ref l,y,d,M,Q=>∃ae,bO y∧M l=some (.ndc hf bO ae)∧ae.length < sizeLine∧Q (aj M l (.ndc hf bO (cB ae y d)))
 |_,_,_,_,_=>False
noncomputable def wa (P:Program) (w:World) (to ti:aD):aV:=fun d τ M Q=>to τ M fun x M1=>ti τ M1 fun y M2=>B3 (D.hsh P w) x y d M2 fun M3=>Q τ M3
noncomputable def EK (X:Cx):km:=fun x y v H R=>∃l,x=.ref l∧∀r,RelV v r→∃H',tI X H l y r H'∧R H'
theorem Cj (hr:aW n X.A):nX X (EK X):=by
 rintro aa s σ H o i v ov iv u Q I ro ri rv ⟨l,e,g⟩
 subst e
 cases ro
 obtain ⟨H',g,q⟩:=g u rv
 exact g _ _ _ _ _ _ _ (nC hr) I ri fun s' I'=>⟨H',I',q⟩
theorem pX {i:Expr} {to ti:aD} (hr:aW n X.A) (ho:PE X o (low X.K to)) (hi:PE X i (low X.K ti))
  (ha:∀v,assign (.Subscript o i pos) X.env v=(do
   let ov ←holding [v] (eval o X.env)
   let iv ←holding [v,ov] (eval i X.env)
   standAt pos
   holding [v,ov,iv] (setItem ov iv v)
   release [v,ov,iv] []):=by intro _;rfl):PG X (.Subscript o i pos) (lowG X.K (wa X.prog X.w to ti)) :=
 (rZ ho hi (Cj hr) ha).imp fun v σ H Q ⟨d,τ,M,Q',i,hs,hm,h,hq⟩ =>
  ⟨τ,M,_,hs,hm,h,fun x M1 vx H1 m1 e1 i1 h1=>⟨τ,M1,_,hs.mono e1,m1,h1,fun y M2 vy H2 m2 e2 i2 h2=>by
   cases i1 with
   |ref l =>
    obtain ⟨ae,hk,hl,hz,q⟩:=h2
    obtain ⟨b,rfl⟩:=hk.1.ref i2
    have e12:=e1.trans e2
    refine ⟨l,rfl,fun r rv=>?_⟩
    obtain ⟨H',g,m3,e3⟩:=yz (d:=d) m2 hl hk i2 hz rv (i.mono e12)
    exact ⟨H',g,hq τ _ σ _ (hs.mono (e12.trans e3)) m3 (e12.trans e3) q⟩
   |_=>exact h2.elim⟩⟩
end
end DL
namespace DL
open PySem PySem.Spec PyProof.Rows L2
noncomputable def gF (h:Heap) (z TI TO:Addr):Prop:=∃f b,(f=Value.none∨∃T:Nat,f=rawInt T)∧h.get? z=some { cls:=.type "zip",dict:=none,data:=.fields #[f,.bool b,.bool false,.ref TI,.ref TO],slots:=#[] }
noncomputable def cX (h:Heap) (z TI TO i j l r:Addr) (k:Nat):Prop:=gF h z TI TO∧IsPair h TI (.ref i) (.ref j)∧(∃u v,IsPair h TO u v)∧h.IsTupleIter i l k∧h.IsTupleIter j r k
section
variable {prog:Program} {w:World} {A:Around} {E:Value→Shared→Prop} {y:Shared}
theorem xU {a:Addr} {Q:Option Obj→Shared→Prop} (h:∀o,Q o y):wpAny (model prog w) A (loadIfAlive a) Q E y:=fun _ _ _=>by
 unfold loadIfAlive
 rw [Sem.wp_loadIfAlive]
 exact h _
theorem ua {z TI TO:Addr} {Q:Bool→Shared→Prop} (hZ:gF y.heap z TI TO) (h1:Q true y) (h2:∀g,gF g z TI TO→Heap.SameBut z y.heap g→Q false { y with heap:=g }):wpAny (model prog w) A (Builtin.SmallTypes.ownedTupleIsFree (.ref z)) Q E y:=by
 obtain ⟨f,b,hf,hz⟩:=hZ
 unfold Builtin.SmallTypes.ownedTupleIsFree
 refine wpAny_bind (wpAny_field hz rfl (x:=f) rfl ?_)
 rcases hf with rfl|⟨T,rfl⟩
 ·exact wpAny_pure h1
 ·refine wpAny_bind (xU fun o=>?_)
  cases o with
  |none=>exact wpAny_pure h1
  |some o =>
   refine wpAny_bind (wpAny_field hz rfl (x:=.bool b) rfl ?_)
   cases b with
   |true=>exact wpAny_pure (h2 y.heap ⟨_,_,.inr ⟨T,rfl⟩,hz⟩ (Heap.SameBut.refl _ _))
   |false=>exact wpAny_bind (wpAny_setField_rec hz (by simp) fun g hg sb=>wpAny_pure (h2 g ⟨_,true,.inr ⟨T,rfl⟩,hg⟩ sb))
noncomputable def Kp (z TO i j:Addr) (h h':Heap):Prop:=∀c o,c≠z→c≠TO→c≠i→c≠j→h.get? c=some o→h'.get? c=some o
theorem cw {h g:Heap} {j a c:Addr} {k:Nat} (x:h.IsTupleIter j a k) (sb:Heap.SameBut c h g) (hn:j≠c):g.IsTupleIter j a k:=by
 obtain ⟨o,e,r⟩:=x
 exact ⟨o,(sb.2 j hn).trans e,r⟩
theorem cW {h g:Heap} {a c:Addr} {xs:Array Value} (x:h.IsTuple a xs) (sb:Heap.SameBut c h g) (hn:a≠c):g.IsTuple a xs:=by
 obtain ⟨o,e,r⟩:=x
 exact ⟨o,(sb.2 a hn).trans e,r⟩
theorem D3 {z TI TO i j l r:Addr} {k:Nat} {xs ys:Array Value} {u v:Value} {Q:Value→Shared→Prop} (D:ZipApart z TI TO i j l r) (hZ:cX y.heap z TI TO i j l r k) (hl:y.heap.IsTuple l xs) (hr:y.heap.IsTuple r ys) (hx:xs[k]?=some u) (hy:ys[k]?=some v)
  (hQ:∀g,cX g z TI TO i j l r (k+1)→IsPair g y.heap.objs.size u v→g.objs.size=y.heap.objs.size+1→Kp z TO i j y.heap g→Q (.ref y.heap.objs.size) { y with heap:=g }) :
  wpAny (model prog w) A (Builtin.«zip.__next__» ⟨[.ref z],[]⟩) (fun fin s'=>∃v,fin=.done (.ret v)∧Q v s') E y:=by
 obtain ⟨zz,hI,⟨u0,v0,hO⟩,it1,it2⟩:=hZ
 obtain ⟨f,b,hf,hz⟩:=id zz
 show wpAny _ _ (field (.ref z) 2 >>=_) _ _ _
 refine wpAny_bind (wpAny_field (i:=2) hz rfl (x:=.bool false) rfl ?_);show wpAny _ _ (field (.ref z) 3 >>=_) _ _ _
 refine wpAny_bind (wpAny_field (i:=3) hz rfl (x:=.ref TI) rfl (wpAny_bind (wpAny_seqItems hI rfl ?_)))
 show wpAny _ _ (Builtin.SmallTypes.ownedTupleIsFree (.ref z) >>=_) _ _ _
 refine wpAny_bind (ua zz ?_ fun g zg sb=>?_)
 ·rw [if_pos rfl]
  refine wpAny_bind (wpAny_rule (wpAny_bind (wpAny_field (i:=4) hz rfl (x:=.ref TO) rfl (wpAny_bind (wpAny_setField_rec hz (by simp) fun g zg sb=>?_)))))
  have zg':g.get? z=some { cls:=.type "zip",dict:=none,data:=.fields #[.ellipsis,.bool b,.bool false,.ref TI,.ref TO],slots:=#[] }:=zg
  refine wpAny_bind ?_
  simp only [List.zipIdx_cons,List.zipIdx_nil,List.forIn_cons,List.forIn_nil]
  refine wpAny_bind (wpAny_bind (wpAny_onRaise ?_))
  show wpAny _ _ (Builtin.SmallTypes.nextOf (.ref i) >>=_) _ _ _
  refine wpAny_bind (gY (z:={ y with heap:=g }) (cw it1 sb D.i1z) (cW hl sb D.l1z) hx fun g1 j1 sb1=>wpAny_pure ?_)
  have o1:IsPair g1 TO u0 v0:=(sb1.2 TO D.TOi1).trans ((sb.2 TO D.TOz).trans hO)
  refine wpAny_bind (wpAny_seqItems o1 rfl (wpAny_bind (wpAny_updateSeq_pair o1 fun g2 o2 sb2=>wpAny_bind (wpAny_letGo (wpAny_pure ?_)))))
  replace o2:IsPair g2 TO u v0:=o2
  refine wpAny_bind (wpAny_bind (wpAny_onRaise ?_))
  show wpAny _ _ (Builtin.SmallTypes.nextOf (.ref j) >>=_) _ _ _
  refine wpAny_bind (gY (z:={ y with heap:=g2 }) (cw (cw (cw it2 sb D.i2z) sb1 D.i12.symm) sb2 D.TOi2.symm) (cW (cW (cW hr sb D.l2z) sb1 D.l2i1) sb2 D.l2TO) hy fun g3 j2 sb3=>wpAny_pure ?_)
  have o3:IsPair g3 TO u v0:=(sb3.2 TO D.TOi2).trans o2
  refine wpAny_bind (wpAny_seqItems o3 rfl (wpAny_bind (wpAny_updateSeq_pair o3 fun g4 o4 sb4=>wpAny_bind (wpAny_letGo (wpAny_pure (wpAny_pure ?_))))))
  replace o4:IsPair g4 TO u v:=o4
  refine wpAny_bind (wpAny_seqItems o4 rfl (wpAny_bind (wpAny_newTuple ?_)))
  show wpAny _ _ (Builtin.SmallTypes.ownedTupleHandOut (.ref z) (.ref g4.objs.size) >>=_) _ _ { y with heap:=g4.push { cls:=.type "tuple",data:=.seq #[u,v] } }
  have hsz:g4.objs.size=y.heap.objs.size:=(((sb4.1.trans sb3.1).trans sb2.1).trans sb1.1).trans sb.1
  have z4:g4.get? z=some { cls:=.type "zip",dict:=none,data:=.fields #[.ellipsis,.bool b,.bool false,.ref TI,.ref TO],slots:=#[] }:=(sb4.2 z D.TOz.symm).trans ((sb3.2 z D.i2z.symm).trans ((sb2.2 z D.TOz.symm).trans ((sb1.2 z D.i1z.symm).trans zg')))
  have zlt:z < g4.objs.size:=Heap.lt_size z4
  refine wpAny_bind ?_
  unfold Builtin.SmallTypes.ownedTupleHandOut
  refine wpAny_bind (wpAny_setField_rec (s:={ y with heap:=g4.push { cls:=.type "tuple",data:=.seq #[u,v] } }) (Heap.get?_push_of_some _ z4) (by simp) fun g5 z5 sb5=>?_)
  refine wpAny_setField_rec z5 (by simp) fun g6 z6 sb6=>wpAny_pure ⟨_,rfl,?_⟩
  have kz:∀c o,c≠z→g4.get? c=some o→g6.get? c=some o:=fun c o h1 e=>(sb6.2 c h1).trans ((sb5.2 c h1).trans (Heap.get?_push_of_some _ e))
  have kk:∀c o,c≠z→c≠TO→c≠i→c≠j→y.heap.get? c=some o→g6.get? c=some o:=fun c o h1 h2 h3 h4 e=>kz c o h1 ((sb4.2 c h2).trans ((sb3.2 c h4).trans ((sb2.2 c h2).trans ((sb1.2 c h3).trans ((sb.2 c h1).trans e)))))
  show Q (.ref g4.objs.size) { y with heap:=g6 }
  have hp:g6.get? g4.objs.size=some { cls:=.type "tuple",data:=.seq #[u,v] }:=(sb6.2 _ (Nat.ne_of_gt zlt)).trans ((sb5.2 _ (Nat.ne_of_gt zlt)).trans (Heap.get?_push_size _ rfl))
  have hs6:g6.objs.size=g4.objs.size+1:=(sb6.1.trans sb5.1).trans (Heap.size_push ..)
  rw [hsz] at hp hs6 ⊢
  refine hQ g6 ⟨⟨_,false,.inr ⟨_,rfl⟩,z6⟩,kk TI _ D.TIz D.TITO D.TIi1 D.TIi2 hI,⟨u,v,kz TO _ D.TOz o4⟩,?_,?_⟩ hp hs6 kk
  ·obtain ⟨o,e,q⟩:=cw (cw (cw j1 sb2 D.TOi1.symm) sb3 D.i12) sb4 D.TOi1.symm
   exact ⟨o,kz i o D.i1z e,q⟩
  ·obtain ⟨o,e,q⟩:=cw j2 sb4 D.TOi2.symm
   exact ⟨o,kz j o D.i2z e,q⟩
 ·rw [if_neg Bool.false_ne_true]
  refine wpAny_bind ?_
  rw [←Array.forIn_toList]
  simp only [List.forIn_cons,List.forIn_nil]
  refine wpAny_bind (wpAny_bind (wpAny_holding ?_))
  show wpAny _ _ (Builtin.SmallTypes.nextOf (.ref i) >>=_) _ _ _
  refine wpAny_bind (gY (z:={ y with heap:=g }) (cw it1 sb D.i1z) (cW hl sb D.l1z) hx fun g1 j1 sb1=>wpAny_pure (wpAny_pure ?_))
  refine wpAny_bind (wpAny_bind (wpAny_holding ?_))
  show wpAny _ _ (Builtin.SmallTypes.nextOf (.ref j) >>=_) _ _ _
  refine wpAny_bind (gY (z:={ y with heap:=g1 }) (cw (cw it2 sb D.i2z) sb1 D.i12.symm) (cW (cW hr sb D.l2z) sb1 D.l2i1) hy fun g2 j2 sb2=>wpAny_pure (wpAny_pure ?_))
  refine wpAny_pure (wpAny_bind (wpAny_newTuple (wpAny_pure ⟨_,rfl,?_⟩) (hsz:=(by decide:2≤sizeLine))))
  have hsz:g2.objs.size=y.heap.objs.size:=(sb2.1.trans sb1.1).trans sb.1
  show Q (.ref g2.objs.size) { y with heap:=g2.push { cls:=.type "tuple",data:=.seq #[u,v] } }
  have kz:∀c o,c≠z→c≠i→c≠j→y.heap.get? c=some o→(g2.push { cls:=.type "tuple",data:=.seq #[u,v] }).get? c=some o:=fun c o h1 h2 h3 e=>Heap.get?_push_of_some _ ((sb2.2 c h3).trans ((sb1.2 c h2).trans ((sb.2 c h1).trans e)))
  obtain ⟨f',b',hf',hz'⟩:=zg
  rw [hsz]
  refine hQ _ ⟨⟨f',b',hf',Heap.get?_push_of_some _ ((sb2.2 z D.i2z.symm).trans ((sb1.2 z D.i1z.symm).trans hz'))⟩,kz TI _ D.TIz D.TIi1 D.TIi2 hI,⟨u0,v0,kz TO _ D.TOz D.TOi1 D.TOi2 hO⟩,?_,?_⟩ ?_ ?_ fun c o h1 _ h3 h4 e=>kz c o h1 h3 h4 e
  ·obtain ⟨o,e,q⟩:=cw j1 sb2 D.i12
   exact ⟨o,Heap.get?_push_of_some _ e,q⟩
  ·obtain ⟨o,e,q⟩:=j2
   exact ⟨o,Heap.get?_push_of_some _ e,q⟩
  ·have e:=Heap.get?_push_size g2 (o:={ cls:=.type "tuple",data:=.seq #[u,v] }) rfl
   rw [hsz] at e
   exact e
  ·rw [Heap.size_push,hsz]
theorem Bc {z TI TO i j l r:Addr} {k:Nat} {xs ys:Array Value} {Q:PySem.Fin→Shared→Prop} (hh:A.handled=none) (D:ZipApart z TI TO i j l r) (hZ:cX y.heap z TI TO i j l r k) (hl:y.heap.IsTuple l xs) (hr:y.heap.IsTuple r ys) (hend:xs[k]?=none∨ys[k]?=none)
  (hE:∀g e,Kp z TO i j y.heap g→(∃o,g.get? e=some o∧o.cls=.type "StopIteration")→E (.ref e) { y with heap:=g }) :
  wpAny (model prog w) A (Builtin.«zip.__next__» ⟨[.ref z],[]⟩) Q E y:=by
 obtain ⟨zz,hI,⟨u0,v0,hO⟩,it1,it2⟩:=hZ
 obtain ⟨f,b,hf,hz⟩:=id zz
 show wpAny _ _ (field (.ref z) 2 >>=_) _ _ _
 refine wpAny_bind (wpAny_field (i:=2) hz rfl (x:=.bool false) rfl ?_);show wpAny _ _ (field (.ref z) 3 >>=_) _ _ _
 refine wpAny_bind (wpAny_field (i:=3) hz rfl (x:=.ref TI) rfl (wpAny_bind (wpAny_seqItems hI rfl ?_)))
 show wpAny _ _ (Builtin.SmallTypes.ownedTupleIsFree (.ref z) >>=_) _ _ _
 refine wpAny_bind (ua zz ?_ fun g zg sb=>?_)
 ·rw [if_pos rfl]
  refine wpAny_bind (wpAny_rule (wpAny_bind (wpAny_field (i:=4) hz rfl (x:=.ref TO) rfl (wpAny_bind (wpAny_setField_rec hz (by simp) fun g zg sb=>?_)))))
  have zg':g.get? z=some { cls:=.type "zip",dict:=none,data:=.fields #[.ellipsis,.bool b,.bool false,.ref TI,.ref TO],slots:=#[] }:=zg
  refine wpAny_bind ?_
  simp only [List.zipIdx_cons,List.zipIdx_nil,List.forIn_cons,List.forIn_nil]
  refine wpAny_bind (wpAny_bind (wpAny_onRaise ?_))
  show wpAny _ _ (Builtin.SmallTypes.nextOf (.ref i) >>=_) _ _ _
  cases hx:xs[k]? with
  |none =>
   refine wpAny_bind (ky (z:={ y with heap:=g }) hh (cw it1 sb D.i1z) (cW hl sb D.l1z) hx fun g1 e xb he=>?_)
   have z1:=xb z _ D.i1z.symm zg'
   obtain ⟨oe,h1,h2⟩:=he
   have hez:e≠z:=fun q=>by
    subst q
    rw [z1] at h1
    cases h1
    simp at h2
   exact wpAny_setField_rec z1 (by simp) fun g2 _ sb2=>hE g2 e (fun c o h1 _ h3 _ q=>(sb2.2 c h1).trans (xb c o h3 ((sb.2 c h1).trans q))) ⟨oe,(sb2.2 e hez).trans h1,h2⟩
  |some u =>
   have hy:ys[k]?=none:=by
    rcases hend with q|q
    ·rw [hx] at q;cases q
    ·exact q
   refine wpAny_bind (gY (z:={ y with heap:=g }) (cw it1 sb D.i1z) (cW hl sb D.l1z) hx fun g1 j1 sb1=>wpAny_pure ?_)
   have o1:IsPair g1 TO u0 v0:=(sb1.2 TO D.TOi1).trans ((sb.2 TO D.TOz).trans hO)
   refine wpAny_bind (wpAny_seqItems o1 rfl (wpAny_bind (wpAny_updateSeq_pair o1 fun g2 o2 sb2=>wpAny_bind (wpAny_letGo (wpAny_pure ?_)))))
   refine wpAny_bind (wpAny_bind (wpAny_onRaise ?_))
   show wpAny _ _ (Builtin.SmallTypes.nextOf (.ref j) >>=_) _ _ _
   refine wpAny_bind (ky (z:={ y with heap:=g2 }) hh (cw (cw (cw it2 sb D.i2z) sb1 D.i12.symm) sb2 D.TOi2.symm) (cW (cW (cW hr sb D.l2z) sb1 D.l2i1) sb2 D.l2TO) hy fun g3 e xb he=>?_)
   have z3:=xb z _ D.i2z.symm ((sb2.2 z D.TOz.symm).trans ((sb1.2 z D.i1z.symm).trans zg'))
   obtain ⟨oe,h1,h2⟩:=he
   have hez:e≠z:=fun q=>by
    subst q
    rw [z3] at h1
    cases h1
    simp at h2
   exact wpAny_setField_rec z3 (by simp) fun g4 _ sb4=>hE g4 e (fun c o h1 h2 h3 h4 q=>(sb4.2 c h1).trans (xb c o h4 ((sb2.2 c h2).trans ((sb1.2 c h3).trans ((sb.2 c h1).trans q))))) ⟨oe,(sb4.2 e hez).trans h1,h2⟩
 ·rw [if_neg Bool.false_ne_true]
  refine wpAny_bind ?_
  rw [←Array.forIn_toList]
  simp only [List.forIn_cons,List.forIn_nil]
  refine wpAny_bind (wpAny_bind (wpAny_holding ?_))
  show wpAny _ _ (Builtin.SmallTypes.nextOf (.ref i) >>=_) _ _ _
  cases hx:xs[k]? with
  |none=>exact wpAny_bind (ky (z:={ y with heap:=g }) hh (cw it1 sb D.i1z) (cW hl sb D.l1z) hx fun g1 e xb he=>hE g1 e (fun c o h1 _ h3 _ q=>xb c o h3 ((sb.2 c h1).trans q)) he)
  |some u =>
   have hy:ys[k]?=none:=by
    rcases hend with q|q
    ·rw [hx] at q;cases q
    ·exact q
   refine wpAny_bind (gY (z:={ y with heap:=g }) (cw it1 sb D.i1z) (cW hl sb D.l1z) hx fun g1 j1 sb1=>wpAny_pure (wpAny_pure ?_))
   refine wpAny_bind (wpAny_bind (wpAny_holding ?_))
   show wpAny _ _ (Builtin.SmallTypes.nextOf (.ref j) >>=_) _ _ _
   exact wpAny_bind (ky (z:={ y with heap:=g1 }) hh (cw (cw it2 sb D.i2z) sb1 D.i12.symm) (cW (cW hr sb D.l2z) sb1 D.l2i1) hy fun g2 e xb he=>hE g2 e (fun c o h1 _ h3 h4 q=>xb c o h4 ((sb1.2 c h3).trans ((sb.2 c h1).trans q))) he)
theorem kL {z TI TO:Addr} (hZ:gF y.heap z TI TO):y.TypeIs (.ref z) "zip" :=let ⟨_,_,_,e⟩:=hZ;⟨_,e,rfl⟩
theorem BO {z TI TO i j l r:Addr} {k:Nat} {xs ys:Array Value} {u v:Value} {Q:Value→Shared→Prop} (D:ZipApart z TI TO i j l r) (hZ:cX y.heap z TI TO i j l r k) (hl:y.heap.IsTuple l xs) (hr:y.heap.IsTuple r ys) (hx:xs[k]?=some u) (hy:ys[k]?=some v)
  (hQ:∀g,cX g z TI TO i j l r (k+1)→IsPair g y.heap.objs.size u v→g.objs.size=y.heap.objs.size+1→Kp z TO i j y.heap g→Q (.ref y.heap.objs.size) { y with heap:=g }) :
  wpAny (model prog w) A (Builtin.SmallTypes.nextOf (.ref z)) Q E y:=by
 unfold Builtin.SmallTypes.nextOf
 exact wpAny_bind (wpAny_callSpecial?_slot (name:=Str.ofString "__next__") (kL hZ.1) F.slot_zip_next (wpAny_call_entry F.slot_zip_next (kL hZ.1) F.entry_zip_next (D3 D hZ hl hr hx hy fun g h1 h2 h3 h4=>wpAny_pure (hQ g h1 h2 h3 h4)) (F.args_zip_next_1 _)))
theorem AO {z TI TO i j l r:Addr} {k:Nat} {xs ys:Array Value} {Q:Value→Shared→Prop} (hh:A.handled=none) (D:ZipApart z TI TO i j l r) (hZ:cX y.heap z TI TO i j l r k) (hl:y.heap.IsTuple l xs) (hr:y.heap.IsTuple r ys) (hend:xs[k]?=none∨ys[k]?=none)
  (hE:∀g e,Kp z TO i j y.heap g→(∃o,g.get? e=some o∧o.cls=.type "StopIteration")→E (.ref e) { y with heap:=g }) :
  wpAny (model prog w) A (Builtin.SmallTypes.nextOf (.ref z)) Q E y:=by
 unfold Builtin.SmallTypes.nextOf
 exact wpAny_bind (wpAny_callSpecial?_slot (name:=Str.ofString "__next__") (kL hZ.1) F.slot_zip_next (wpAny_call_entry F.slot_zip_next (kL hZ.1) F.entry_zip_next (Bc hh D hZ hl hr hend hE) (F.args_zip_next_1 _)))
theorem lR {h g:Heap} {z TI TO i j l r:Addr} {k:Nat} (x:cX h z TI TO i j l r k) (kp:∀c o,c∈[z,TI,TO,i,j]→h.get? c=some o→g.get? c=some o):cX g z TI TO i j l r k:=by
 obtain ⟨⟨f,b,hf,e⟩,hI,⟨u,v,hO⟩,⟨o1,e1,r1⟩,⟨o2,e2,r2⟩⟩:=x
 exact ⟨⟨f,b,hf,kp z _ (by simp) e⟩,kp TI _ (by simp) hI,⟨u,v,kp TO _ (by simp) hO⟩,⟨o1,kp i _ (by simp) e1,r1⟩,⟨o2,kp j _ (by simp) e2,r2⟩⟩
theorem CW {e z TI TO i j l r:Addr} {k n:Nat} {xs ys:Array Value} {u v old:Value} {Q:Value→Shared→Prop} (D:ZipApart z TI TO i j l r) (hn:e ∉ [z,TI,TO,i,j]) (he:IsEnum y.heap e z n old) (hZ:cX y.heap z TI TO i j l r k) (hl:y.heap.IsTuple l xs) (hr:y.heap.IsTuple r ys) (hx:xs[k]?=some u) (hy:ys[k]?=some v)
  (hQ:∀g,IsEnumOut g e z ((n:Int)+1) (.ref y.heap.objs.size) (y.heap.objs.size+1)→cX g z TI TO i j l r (k+1)→IsPair g y.heap.objs.size u v→IsPair g (y.heap.objs.size+1) (.int n y.toks) (.ref y.heap.objs.size)→(∀c o,c≠e→c≠z→c≠TO→c≠i→c≠j→y.heap.get? c=some o→g.get? c=some o) →
   Q (.ref (y.heap.objs.size+1)) { y with heap:=g,toks:=y.toks+1 }) :
  wpAny (model prog w) A (Builtin.«enumerate.__next__» ⟨[.ref e],[]⟩) (fun fin s'=>∃v,fin=.done (.ret v)∧Q v s') E y:=by
 simp only [List.mem_cons,List.not_mem_nil,or_false,not_or] at hn
 obtain ⟨n1,n2,n3,n4,n5⟩:=hn
 show wpAny _ _ (field (.ref e) 2 >>=_) _ _ _
 refine wpAny_bind (wpAny_field (i:=2) he rfl (x:=.ref z) rfl (wpAny_bind (BO D hZ hl hr hx hy fun g1 zs1 hp1 sz1 kp1=>?_)))
 have e1:IsEnum g1 e z n old:=kp1 e _ n1 n3 n4 n5 he
 have elt:e < y.heap.objs.size:=Heap.lt_size he
 obtain ⟨hp0,gs,dr,tk,os⟩:=y
 show wpAny _ _ (field (.ref e) 3 >>=_) _ _ ⟨g1,gs,dr,tk,os⟩
 refine wpAny_bind (wpAny_field (i:=3) e1 rfl (x:=rawInt n) rfl ?_);show wpAny _ _ (field (.ref e) 4 >>=_) _ _ ⟨g1,gs,dr,tk,os⟩
 refine wpAny_bind (wpAny_field (i:=4) e1 rfl (x:=.none) rfl ?_);show wpAny _ _ (mkInt n >>=_) _ _ ⟨g1,gs,dr,tk,os⟩
 refine wpAny_bind (wpAny_mkInt ?_);show wpAny _ _ (setField (.ref e) 3 (rawInt ((n:Int)+1)) >>=_) _ _ ⟨g1,gs,dr,tk+1,os⟩
 refine wpAny_bind (wpAny_setField_rec e1 (by simp) fun g2 e2 sb2=>?_);show wpAny _ _ (setField (.ref e) 4 .none >>=_) _ _ ⟨g2,gs,dr,tk+1,os⟩
 refine wpAny_bind (wpAny_setField_rec e2 (by simp) fun g3 e3 sb3=>?_)
 replace e3:IsEnum g3 e z ((n:Int)+1) old:=e3
 show wpAny _ _ (newTuple [.int n tk,.ref hp0.objs.size] >>=_) _ _ ⟨g3,gs,dr,tk+1,os⟩
 refine wpAny_bind (wpAny_newTuple ?_)
 have sz3:g3.objs.size=hp0.objs.size+1:=(sb3.1.trans sb2.1).trans sz1
 have e4:IsEnum (g3.push { cls:=.type "tuple",data:=.seq #[.int n tk,.ref hp0.objs.size] }) e z ((n:Int)+1) old:=Heap.get?_push_of_some _ e3
 have t4:(g3.push { cls:=.type "tuple",data:=.seq #[.int n tk,.ref hp0.objs.size] }).get? (hp0.objs.size+1)=some { cls:=.type "tuple",data:=.seq #[.int n tk,.ref hp0.objs.size] }:=by rw [←sz3];exact Heap.get?_push_size _ rfl
 have k4:∀c o,c≠e→g1.get? c=some o→(g3.push { cls:=.type "tuple",data:=.seq #[.int n tk,.ref hp0.objs.size] }).get? c=some o:=fun c o h q=>Heap.get?_push_of_some _ ((sb3.2 c h).trans ((sb2.2 c h).trans q))
 show wpAny _ _ (Builtin.SmallTypes.ownedTupleIsFree (.ref e) >>=_) _ _ ⟨g3.push { cls:=.type "tuple",data:=.seq #[.int n tk,.ref hp0.objs.size] },gs,dr,tk+1,os⟩
 rw [sz3]
 generalize g3.push { cls:=.type "tuple",data:=.seq #[.int n tk,.ref hp0.objs.size] }=g4 at *
 refine wpAny_bind ?_
 unfold Builtin.SmallTypes.ownedTupleIsFree
 refine wpAny_bind (wpAny_field (i:=0) e4 rfl (x:=.none) rfl (wpAny_pure ?_))
 rw [if_pos rfl]
 refine wpAny_bind (wpAny_rule (wpAny_bind (wpAny_field (i:=5) e4 rfl (x:=old) rfl (wpAny_bind (wpAny_setField_rec e4 (by simp) fun g5 e5 sb5=>?_)))))
 show wpAny _ _ (Builtin.SmallTypes.ownedTupleHandOut (.ref e) (.ref (hp0.objs.size+1)) >>=_) _ _ ⟨g5,gs,dr,tk+1,os⟩
 refine wpAny_bind ?_
 unfold Builtin.SmallTypes.ownedTupleHandOut
 refine wpAny_bind (wpAny_setField_rec e5 (by simp) fun g6 e6 sb6=>?_)
 refine wpAny_setField_rec e6 (by simp) fun g7 e7 sb7=>wpAny_bind (wpAny_letGo (wpAny_pure ⟨_,rfl,?_⟩))
 have k7:∀c o,c≠e→g4.get? c=some o→g7.get? c=some o:=fun c o h q=>(sb7.2 c h).trans ((sb6.2 c h).trans ((sb5.2 c h).trans q))
 have ne0:hp0.objs.size≠e:=Nat.ne_of_gt elt
 have ne1:hp0.objs.size+1≠e:=Nat.ne_of_gt (Nat.lt_succ_of_lt elt)
 refine hQ g7 e7 (lR zs1 fun c o hc q=>?_) (k7 _ _ ne0 (k4 _ _ ne0 hp1)) (k7 _ _ ne1 t4) fun c o h1 h2 h3 h4 h5 q=>k7 c o h1 (k4 c o h1 (kp1 c o h2 h3 h4 h5 q))
 have hce:c≠e:=fun x=>by
  subst x
  simp only [List.mem_cons,List.not_mem_nil,or_false] at hc
  rcases hc with h|h|h|h|h<;>contradiction
 exact k7 c o hce (k4 c o hce q)
theorem CN {e z TI TO i j l r:Addr} {k n:Nat} {xs ys:Array Value} {u v old:Value} {Q:Option Value→Shared→Prop} (D:ZipApart z TI TO i j l r) (hn:e ∉ [z,TI,TO,i,j]) (he:IsEnum y.heap e z n old) (hZ:cX y.heap z TI TO i j l r k) (hl:y.heap.IsTuple l xs) (hr:y.heap.IsTuple r ys) (hx:xs[k]?=some u) (hy:ys[k]?=some v)
  (hQ:∀g,IsEnumOut g e z ((n:Int)+1) (.ref y.heap.objs.size) (y.heap.objs.size+1)→cX g z TI TO i j l r (k+1)→IsPair g y.heap.objs.size u v→IsPair g (y.heap.objs.size+1) (.int n y.toks) (.ref y.heap.objs.size)→(∀c o,c≠e→c≠z→c≠TO→c≠i→c≠j→y.heap.get? c=some o→g.get? c=some o) →
   Q (some (.ref (y.heap.objs.size+1))) { y with heap:=g,toks:=y.toks+1 }):wpAny (model prog w) A (pyNext (.ref e)) Q E y:=by
 have hT:y.TypeIs (.ref e) "enumerate" :=⟨_,he,rfl⟩
 unfold pyNext
 exact wpAny_bind (wpAny_attempt (wpAny_callSpecial?_slot (name:=Str.ofString "__next__") hT F.slot_enumerate_next (wpAny_call_entry F.slot_enumerate_next hT F.entry_enumerate_next (CW D hn he hZ hl hr hx hy fun g a1 a2 a3 a4 a5=>wpAny_pure (hQ g a1 a2 a3 a4 a5)) (F.args_enumerate_next_1 _))))
theorem Dq {e z TI TO i j l r:Addr} {k:Nat} {n:Int} {xs ys:Array Value} {old:Value} {Q:Option Value→Shared→Prop} (hh:A.handled=none) (D:ZipApart z TI TO i j l r) (he:IsEnum y.heap e z n old) (hZ:cX y.heap z TI TO i j l r k) (hl:y.heap.IsTuple l xs) (hr:y.heap.IsTuple r ys) (hend:xs[k]?=none∨ys[k]?=none)
  (hQ:∀g,Kp z TO i j y.heap g→Q none { y with heap:=g }):wpAny (model prog w) A (pyNext (.ref e)) Q E y:=by
 have hT:y.TypeIs (.ref e) "enumerate" :=⟨_,he,rfl⟩
 unfold pyNext
 refine wpAny_bind (wpAny_attempt (wpAny_callSpecial?_slot (name:=Str.ofString "__next__") hT F.slot_enumerate_next (wpAny_call_entry F.slot_enumerate_next hT F.entry_enumerate_next ?_ (F.args_enumerate_next_1 _))))
 show wpAny _ _ (field (.ref e) 2 >>=_) _ _ _
 refine wpAny_bind (wpAny_field (i:=2) he rfl (x:=.ref z) rfl (wpAny_bind (AO hh D hZ hl hr hend fun g x kp hx=>?_)))
 obtain ⟨o,h1,h2⟩:=hx
 exact wpAny_bind (wpAny_isInstance (T:= "StopIteration") (b:=true) ⟨o,h1,h2⟩ isSubtype_stop (wpAny_pure (hQ g kp)))
end
end DL
namespace DL
open PySem PySem.Spec PyProof.Rows L2
noncomputable abbrev sG (l:Addr):Obj:={ cls:=.type "tuple_iterator",data:=.fields #[.ref l,.int 0 0] }
noncomputable abbrev my (h:Heap) (l:Addr):Heap:=h.push (sG l)
noncomputable abbrev lG (h:Heap) (l r:Addr):Heap:=(my h l).push (sG r)
noncomputable abbrev lE (h:Heap) (l r:Addr):Heap:=(lG h l r).push { cls:=.type "tuple",data:=.seq #[.ref h.objs.size,.ref (my h l).objs.size] }
noncomputable abbrev mG (h:Heap) (l r:Addr):Heap:=(lE h l r).push { cls:=.type "tuple",data:=.seq #[.none,.none] }
noncomputable abbrev gL (h:Heap) (l r:Addr):Heap:=(mG h l r).push { cls:=.type "zip",data:=.fields #[.none,.bool false,.bool false,.ref (lG h l r).objs.size,.ref (lE h l r).objs.size] }
theorem EZ {h:Heap} {a:Addr} {xs:Array Value} (x:h.IsTuple a xs) (o:Obj):(h.push o).IsTuple a xs:=by
 obtain ⟨u,e,r⟩:=x
 exact ⟨u,Heap.get?_push_of_some _ e,r⟩
theorem xI (l r:Addr) (xs ys:Array Value):Meets (Builtin.«zip.__new__» ⟨[.type "zip",.ref l,.ref r],[]⟩) (fun _ R s=>s.heap.IsTuple l xs∧s.heap.IsTuple r ys ∧
   R (.ok (.ret (.ref (mG s.heap l r).objs.size))) { s with heap:=gL s.heap l r }) :=
 .of_wp fun prog w A R y q=>by
  obtain ⟨hp,gs,dr,tk,os⟩:=y
  obtain ⟨t1,t2,q⟩:=q
  have hsub:=sub_zip
  have q1:Heap.IsTuple (Shared.heap ⟨hp,gs,dr,tk,os⟩) l xs:=t1
  have q2:Heap.IsTuple (Shared.heap ⟨hp.push { cls:=.type "tuple_iterator",data:=.fields #[.ref l,.int 0 0] },gs,dr,tk,os⟩) r ys:=EZ t2 _
  wp_walk using wpAny_pyIter_tuple q1,wpAny_pyIter_tuple q2
  exact ⟨_,rfl,q⟩
section
variable {prog:Program} {w:World} {A:Around} {E:Value→Shared→Prop} {y:Shared}
theorem Ii {l r:Addr} {xs ys:Array Value} {Q:Value→Shared→Prop} (t1:y.heap.IsTuple l xs) (t2:y.heap.IsTuple r ys)
  (q:∀g,cX g (y.heap.objs.size+4) (y.heap.objs.size+2) (y.heap.objs.size+3) y.heap.objs.size (y.heap.objs.size+1) l r 0→g.objs.size=y.heap.objs.size+5→(∀c o,y.heap.get? c=some o→g.get? c=some o)→Q (.ref (y.heap.objs.size+4)) { y with heap:=g }) :
  wpAny (model prog w) A (call (.type "zip") [.ref l,.ref r]) Q E y:=by
 refine callType_new F.called_zip (by decide) (F.typeCall_zip_2 _ _) (F.newCall_zip_2 _ _) (fun obj=>F.args_object_init_3 obj _ _) F.entry_zip_new (xI l r xs ys) ⟨t1,t2,?_⟩
 have s1:(my y.heap l).objs.size=y.heap.objs.size+1:=Heap.size_push ..
 have s2:(lG y.heap l r).objs.size=y.heap.objs.size+2:=by rw [Heap.size_push,s1]
 have s3:(lE y.heap l r).objs.size=y.heap.objs.size+3:=by rw [Heap.size_push,s2]
 have s4:(mG y.heap l r).objs.size=y.heap.objs.size+4:=by rw [Heap.size_push,s3]
 have s5:(gL y.heap l r).objs.size=y.heap.objs.size+5:=by rw [Heap.size_push,s4]
 have p5:(gL y.heap l r).get? (mG y.heap l r).objs.size=some _:=Heap.get?_push_size _ rfl
 have p4:(gL y.heap l r).get? (lE y.heap l r).objs.size=some _:=Heap.get?_push_of_some _ (Heap.get?_push_size _ rfl)
 have p3:(gL y.heap l r).get? (lG y.heap l r).objs.size=some _:=Heap.get?_push_of_some _ (Heap.get?_push_of_some _ (Heap.get?_push_size _ rfl))
 have p2:(gL y.heap l r).get? (my y.heap l).objs.size=some _:=Heap.get?_push_of_some _ (Heap.get?_push_of_some _ (Heap.get?_push_of_some _ (Heap.get?_push_size _ rfl)))
 have p1:(gL y.heap l r).get? y.heap.objs.size=some _:=Heap.get?_push_of_some _ (Heap.get?_push_of_some _ (Heap.get?_push_of_some _ (Heap.get?_push_of_some _ (Heap.get?_push_size _ rfl))))
 show _∧_
 rw [s2,s3,s4] at p5
 rw [s1,s2] at p3
 rw [s3] at p4
 rw [s1] at p2
 rw [s4]
 exact ⟨⟨_,p5,rfl⟩,q _ ⟨⟨_,false,.inl rfl,p5⟩,p3,⟨_,_,p4⟩,⟨_,p1,rfl,rfl⟩,⟨_,p2,rfl,rfl⟩⟩ s5 fun c o x=>Heap.get?_push_of_some _ (Heap.get?_push_of_some _ (Heap.get?_push_of_some _ (Heap.get?_push_of_some _ (Heap.get?_push_of_some _ x))))⟩
theorem pO {z TI TO:Addr} {Q:Value→Shared→Prop} (hZ:gF y.heap z TI TO) (q:Q (.ref z) y):wpAny (model prog w) A (pyIter (.ref z)) Q E y:=by
 have hT:=kL hZ
 refine wpAny_pyIter_slot hT F.slot_zip_iter (wpAny_call_entry F.slot_zip_iter hT F.entry_zip_iter ?_ (F.args_zip_iter_1 _))
 exact (show wpAny _ _ (ret (.ref z)) _ _ y from wpAny_pure ⟨_,rfl, "zip",_,hT,F.slot_zip_next.lookup,q⟩)
end
theorem Cd (z TI TO:Addr):Meets (Builtin.«enumerate.__new__» ⟨[.type "enumerate",.ref z],[]⟩) (fun _ R s=>gF s.heap z TI TO ∧
   R (.ok (.ret (.ref s.heap.objs.size))) { s with heap:=s.heap.push { cls:=.type "enumerate",data:=.fields #[.none,.bool false,.ref z,rawInt 0,.none,.none] } }) :=
 .of_wp fun prog w A R y q=>by
  obtain ⟨hp,gs,dr,tk,os⟩:=y
  obtain ⟨hz,q⟩:=q
  obtain ⟨f,b,hf,hl⟩:=id hz
  have hsub:=sub_enumerate
  have hZ:gF (Shared.heap ⟨hp,gs,dr,tk,os⟩) z TI TO:=hz
  wp_walk using AutoSeq1.wpAny_loadPart' hl
  refine wpAny_stack_any fun st=>wpAny_pure ?_;split
  ·rename_i c _ _ _ _ _
   cases (c ==Value.type "enumerate")
   ·wp_walk using AutoSeq1.wpAny_loadPart' hl,pO hZ
    exact ⟨_,rfl,q⟩
   ·wp_walk using AutoSeq1.wpAny_loadPart' hl,pO hZ
    exact ⟨_,rfl,q⟩
  ·wp_walk using AutoSeq1.wpAny_loadPart' hl,pO hZ
   exact ⟨_,rfl,q⟩
section
variable {prog:Program} {w:World} {A:Around} {E:Value→Shared→Prop} {y:Shared}
theorem zu {z TI TO:Addr} {Q:Value→Shared→Prop} (hZ:gF y.heap z TI TO) (q:∀g,IsEnum g y.heap.objs.size z 0 .none→(∀c o,y.heap.get? c=some o→g.get? c=some o)→Q (.ref y.heap.objs.size) { y with heap:=g }) :
  wpAny (model prog w) A (call (.type "enumerate") [.ref z]) Q E y:=by
 refine callType_new PySem.F.called_enumerate (by decide) (PySem.F.typeCall_enumerate_1 _) (PySem.F.newCall_enumerate_1 _) (fun obj=>PySem.F.args_object_init_2 obj _) PySem.F.entry_enumerate_new (Cd z TI TO) ⟨hZ,?_⟩
 have he:IsEnum (y.heap.push { cls:=.type "enumerate",data:=.fields #[.none,.bool false,.ref z,rawInt 0,.none,.none] }) y.heap.objs.size z 0 .none:=Heap.get?_push_size _ rfl
 exact ⟨⟨_,he,rfl⟩,q _ he fun c o x=>Heap.get?_push_of_some _ x⟩
end
noncomputable def kD (K:PySem.W.Frag) (l r:Addr):It :=
 ⟨fun i H=>∃xs ys x y,aZ K H l xs∧aZ K H r ys∧xs[i]?=some x∧ys[i]?=some y,
  fun i H x H'=>∃T U,H T=none∧H U=none∧T≠U∧x=.ref U∧∀xs ys,aZ K H l xs→aZ K H r ys→∃u v,xs[i]?=some u∧ys[i]?=some v∧H'=upd (upd H T (.tup [u,v])) U (.tup [.int ((i:Nat):Int),.ref T]),
  fun i H=>∃xs ys,aZ K H l xs∧aZ K H r ys∧(xs[i]?=none∨ys[i]?=none)⟩
theorem zZ {P:Program} {w:World} {K:PySem.W.Frag} {elts:List Expr} {k:Nat} {tpos:Pos} (l r e z TI TO i j:Addr) (D:ZipApart z TI TO i j l r) (hn:e ∉ [z,TI,TO,i,j]):Turn P w K (.Tuple elts k tpos) (kD K l r) [e,z,TI,TO,i,j] e
  (fun m h=>(∃old,IsEnum h e z ((m:Nat):Int) old)∧cX h z TI TO i j l r m) where
 mem:=by simp
 obj:=fun m h st x hx=>by
  obtain ⟨⟨old,he⟩,⟨f,b,hf,s1⟩,s2,⟨u,v,s3⟩,⟨o1,s4,_,d4⟩,⟨o2,s5,_,d5⟩⟩:=st
  simp only [List.mem_cons,List.not_mem_nil,or_false] at hx
  rcases hx with rfl|rfl|rfl|rfl|rfl|rfl
  ·exact ⟨_,he,fun v z=>by cases (show Data.fields _=Data.cell v from z)⟩
  ·exact ⟨_,s1,fun v z=>by cases (show Data.fields _=Data.cell v from z)⟩
  ·exact ⟨_,s2,fun v z=>by cases (show Data.seq _ _=Data.cell v from z)⟩
  ·exact ⟨_,s3,fun v z=>by cases (show Data.seq _ _=Data.cell v from z)⟩
  ·exact ⟨_,s4,fun v z=>by rw [d4] at z;cases z⟩
  ·exact ⟨_,s5,fun v z=>by rw [d5] at z;cases z⟩
 keep:=fun m h h' st kp=>⟨let ⟨old,he⟩:=st.1;⟨old,kp e (by simp) _ he⟩,lR st.2 fun c o hc q=>kp c (List.mem_cons_of_mem _ hc) o q⟩
 item:=by
  intro X hP hw hK hc m aa s σ H E I hf st hg
  subst hP hw hK
  obtain ⟨xs,ys,x,y,hx,hy,ex,ey⟩:=hg
  obtain ⟨itx,rx,px,_⟩:=I.tuple hx
  obtain ⟨ity,ry,py,_⟩:=I.tuple hy
  obtain ⟨u,hu,ru⟩:=rx.get ex
  obtain ⟨v,hv,rv⟩:=ry.get ey
  obtain ⟨⟨old,he⟩,zs⟩:=st
  refine CN D hn he zs px py (by simpa using hu) (by simpa using hv) fun g1 e1 z1 t1 t2 k1=>?_
  refine ⟨_,rfl,wpAny_letOwnedTupleGo_enum (s:={ s with heap:=g1,toks:=s.toks+1 }) e1 fun g2 e2 sb=>?_⟩
  have lt:∀c∈[e,z,TI,TO,i,j],c < s.heap.objs.size:=fun c hc=>by
   obtain ⟨⟨f,b,_,q1⟩,q2,⟨u',v',q3⟩,⟨o1,q4,_⟩,⟨o2,q5,_⟩⟩:=zs
   simp only [List.mem_cons,List.not_mem_nil,or_false] at hc
   rcases hc with rfl|rfl|rfl|rfl|rfl|rfl
   ·exact Heap.lt_size he
   ·exact Heap.lt_size q1
   ·exact Heap.lt_size q2
   ·exact Heap.lt_size q3
   ·exact Heap.lt_size q4
   ·exact Heap.lt_size q5
  have g2k:∀c o,c≠e→g1.get? c=some o→g2.get? c=some o:=fun c o h q=>(sb.2 c h).trans q
  have n0:s.heap.objs.size≠e:=Nat.ne_of_gt (lt e (by simp))
  have n1:s.heap.objs.size+1≠e:=Nat.ne_of_gt (Nat.lt_succ_of_lt (lt e (by simp)))
  have hsz:(s.heap.push { cls:=.type "tuple",data:=.seq #[u,v] }).objs.size=s.heap.objs.size+1:=Heap.size_push ..
  have h0:H s.heap.objs.size=none:=I.fresh
  have h1:H (s.heap.objs.size+1)=none:=I.ao.fresh (Nat.le_succ _)
  have I1:Inv X aa σ (upd H s.heap.objs.size (.tup [x,y])) { s with heap:=s.heap.push { cls:=.type "tuple",data:=.seq #[u,v] },toks:=s.toks } :=
   I.laid (t':=s.toks) (fun b o q=>Heap.get?_push_of_some _ q) (Nat.le_refl _) (show bS X.prog X.w _ _ _ (.tup [x,y]) from ⟨by show 2≤sizeLine;decide,[u,v],.cons ru (.cons rv .nil),_,Heap.get?_push_size _ rfl,rfl,_,rfl⟩)
  have I2:Inv X aa σ (upd (upd H s.heap.objs.size (.tup [x,y])) (s.heap.push { cls:=.type "tuple",data:=.seq #[u,v] }).objs.size (.tup [.int ((m:Nat):Int),.ref s.heap.objs.size])) { s with heap:=(s.heap.push { cls:=.type "tuple",data:=.seq #[u,v] }).push { cls:=.type "tuple",data:=.seq #[.int ((m:Nat):Int) s.toks,.ref s.heap.objs.size] },toks:=s.toks+1 } :=
   I1.laid (t':=s.toks+1) (fun b o q=>Heap.get?_push_of_some _ q) (Nat.le_refl _) (show bS X.prog X.w _ _ _ (.tup [.int ((m:Nat):Int),.ref s.heap.objs.size]) from ⟨by show 2≤sizeLine;decide,[.int ((m:Nat):Int) s.toks,.ref s.heap.objs.size],.cons ⟨s.toks,rfl⟩ (.cons rfl .nil),_,Heap.get?_push_size _ rfl,rfl,_,rfl⟩)
  rw [hsz] at I2
  have I3:Inv X aa σ (upd (upd H s.heap.objs.size (.tup [x,y])) (s.heap.objs.size+1) (.tup [.int ((m:Nat):Int),.ref s.heap.objs.size])) { s with heap:=g2,toks:=s.toks+1 }:=by
   refine Inv.turnedL (s:={ s with heap:=(s.heap.push { cls:=.type "tuple",data:=.seq #[u,v] }).push { cls:=.type "tuple",data:=.seq #[.int ((m:Nat):Int) s.toks,.ref s.heap.objs.size] },toks:=s.toks+1 }) (h':=g2) (t':=s.toks+1) (ch:=[e,z,TO,i,j]) I2 (fun b o hb q=>?_) fun b hb=>?_
   ·simp only [List.mem_cons,List.not_mem_nil,or_false,not_or] at hb
    by_cases hb1:b=s.heap.objs.size+1
    ·subst hb1
     have q':((s.heap.push { cls:=.type "tuple",data:=.seq #[u,v] }).push { cls:=.type "tuple",data:=.seq #[.int ((m:Nat):Int) s.toks,.ref s.heap.objs.size] }).get? (s.heap.objs.size+1)=some o:=q
     rw [←hsz,Heap.get?_push_size _ rfl] at q'
     cases q'
     exact g2k _ _ n1 t2
    ·have q':(s.heap.push { cls:=.type "tuple",data:=.seq #[u,v] }).get? b=some o:=(Heap.get?_push_ne _ _ _ (by rw [hsz];exact hb1)).symm.trans q
     by_cases hb0:b=s.heap.objs.size
     ·subst hb0
      rw [Heap.get?_push_size _ rfl] at q'
      cases q'
      exact g2k _ _ n0 t1
     ·exact g2k b o hb.1 (k1 b o hb.1 hb.2.1 hb.2.2.1 hb.2.2.2.1 hb.2.2.2.2 ((Heap.get?_push_ne _ _ _ hb0).symm.trans q'))
   ·have hb':b∈[e,z,TI,TO,i,j]:=by
     simp only [List.mem_cons,List.not_mem_nil,or_false] at hb ⊢
     rcases hb with h|h|h|h|h<;>simp [h]
    obtain ⟨f0,f1,f2,f3,f4,f5⟩:=hf b hb'
    have lb:=lt b hb'
    exact ⟨by rw [aK (Nat.ne_of_lt (Nat.lt_succ_of_lt lb)),aK (Nat.ne_of_lt lb)];exact f0,f1,f2,f3,f4,f5⟩
  refine ⟨.ref (s.heap.objs.size+1),_,I3,rfl,⟨_,_,h0,h1,Nat.ne_of_lt (Nat.lt_succ_self _),rfl,fun xs' ys' hx' hy'=>⟨x,y,by rw [I.tuple_inj hx' hx];exact ex,by rw [I.tuple_inj hy' hy];exact ey,rfl⟩⟩,⟨⟨.ref s.heap.objs.size,?_⟩,lR z1 fun c o hc q=>g2k c o ?_ q⟩,fun b hb=>?_⟩
  ·exact e2
  ·intro h
   exact hn (h▸hc)
  ·have lb:=lt b hb
   rw [aK (Nat.ne_of_lt (Nat.lt_succ_of_lt lb)),aK (Nat.ne_of_lt lb)]
   exact (hf b hb).1
 done:=by
  intro X hP hw hK hc m aa s σ H E I hf st hg
  subst hP hw hK
  obtain ⟨xs,ys,hx,hy,hend⟩:=hg
  obtain ⟨itx,rx,px,_⟩:=I.tuple hx
  obtain ⟨ity,ry,py,_⟩:=I.tuple hy
  obtain ⟨⟨old,he⟩,zs⟩:=st
  refine Dq (I.ok.hd hc) D he zs px py ?_ fun g kp=>⟨rfl,Inv.turnedL (t':=s.toks) (ch:=[z,TO,i,j]) I (fun b o hb q=>?_) fun b hb=>hf b ?_⟩
  ·rcases hend with h|h
   ·exact .inl (by rw [List.getElem?_toArray];rw [List.getElem?_eq_none_iff] at h ⊢;rw [←rx.length];exact h)
   ·exact .inr (by rw [List.getElem?_toArray];rw [List.getElem?_eq_none_iff] at h ⊢;rw [←ry.length];exact h)
  ·simp only [List.mem_cons,List.not_mem_nil,or_false,not_or] at hb
   exact kp b o hb.1 hb.2.1 hb.2.2.1 hb.2.2.2 q
  ·simp only [List.mem_cons,List.not_mem_nil,or_false] at hb ⊢
   rcases hb with h|h|h|h<;>simp [h]
 self:=fun A m s Q E st h=>by
  obtain ⟨⟨old,he⟩,_⟩:=st
  exact wpAny_pyIter_enum he h
section
variable {X:Cx} {elts:List Expr} {k:Nat} {tpos pos:Pos} {g:aV} {tb:aF}
noncomputable def Bz (K:PySem.W.Frag) (ta:TA):TI:=fun σ H R=>ta σ H fun vs H1=>∃l r,vs=[.ref l,.ref r]∧(∃xs,aZ K H1 l xs)∧(∃ys,aZ K H1 r ys)∧R (kD K l r) H1
theorem Dm {a b:Expr} {ta:TA} {p q aA dpos:Pos} (hg:Gl X "enumerate") (hm:X.mg "enumerate" = none) (hg2:Gl X "zip") (hm2:X.mg "zip" = none) (ha:PA X [a,b] ta)
  (hs:starEach [.Call (.Name "zip" q) [a,b] [] dpos] X.env=[(false,eval (.Call (.Name "zip" q) [a,b] [] dpos) X.env)]:=by rfl) (hs2:starEach [a,b] X.env=(false,eval a X.env)::starEach [b] X.env:=by rfl) (hpl:(backTo dpos (starEach [b] X.env)).any (·.1)=false:=by rfl) :
  PI X (.Tuple elts k tpos) (.Call (.Name "enumerate" p) [.Call (.Name "zip" q) [a,b] [] dpos] [] aA) (Bz X.K ta):=by
 intro aa s σ H R I h
 refine Call_ (fj I hg hm boot_enumerate (PyProof.Rows.callWith_type1 ?_ hs rfl))
 rw [hs]
 show wpAny _ _ (spliced ((false,eval (.Call (.Name "zip" q) [a,b] [] dpos) X.env)::[])) _ _ s
 refine Calls.spliced_cons ?_
 refine Call_ (fj I hg2 hm2 boot_zip (PyProof.Rows.callWith_type1 (aC (ha dpos aa s σ H _ I h) fun us s1 zz=>?_) hs2 hpl))
 obtain ⟨vs,H1,I1,r1,q1⟩:=zz
 obtain ⟨l,r,e,⟨xs,hq1⟩,⟨ys,hq2⟩,q⟩:=q1
 subst e
 obtain ⟨u,v,rfl,r,r'⟩:=vals2 r1
 cases r
 cases r'
 obtain ⟨itx,rx,px,_⟩:=I1.tuple hq1
 obtain ⟨ity,ry,py,_⟩:=I1.tuple hq2
 have lt1:l < s1.heap.objs.size:=by obtain ⟨_,e,_⟩:=px;exact Heap.lt_size e
 have lt2:r < s1.heap.objs.size:=by obtain ⟨_,e,_⟩:=py;exact Heap.lt_size e
 refine Ii px py fun g1 z1 sz1 k1=>Calls.spliced_nil ?_
 refine zu (y:={ s1 with heap:=g1 }) z1.1 fun g2 e2 k2=>wpAny_pyIter_enum (s:={ s1 with heap:=g2 }) e2 ?_
 have e2':IsEnum g2 (s1.heap.objs.size+5) (s1.heap.objs.size+4) 0 .none:=by rw [←sz1];exact e2
 refine ⟨s1.heap.objs.size+5,[s1.heap.objs.size+5,s1.heap.objs.size+4,s1.heap.objs.size+2,s1.heap.objs.size+3,s1.heap.objs.size,s1.heap.objs.size+1],_,_,H1,congrArg Value.ref sz1,I1.kept (t':=s1.toks) fun c o e=>k2 c o (k1 c o e),zZ l r _ _ _ _ _ _ (zipApart_new lt1 lt2) ?_,⟨⟨_,e2'⟩,lR z1 fun c o _ e=>k2 c o e⟩,fun x hx=>?_,q⟩
 ·simp only [List.mem_cons,List.not_mem_nil,or_false,not_or]
  exact ⟨Nat.ne_of_gt (Nat.add_lt_add_left (by decide) _),Nat.ne_of_gt (Nat.add_lt_add_left (by decide) _),Nat.ne_of_gt (Nat.add_lt_add_left (by decide) _),Nat.ne_of_gt (Nat.lt_add_of_pos_right (by decide)),Nat.ne_of_gt (Nat.add_lt_add_left (by decide) _)⟩
 ·have hle:s1.heap.objs.size≤x:=by
   simp only [List.mem_cons,List.not_mem_nil,or_false] at hx
   rcases hx with rfl|rfl|rfl|rfl|rfl|rfl<;>first|exact Nat.le_add_right _ _|exact Nat.le_refl _
  exact I1.fpOk hle (I1.ao.fresh hle)
noncomputable def HR (g:aV) (tb:aF) (E:cp) (τ:aJ):List D→DH→Prop
 |[.tup xs,.tup ys],M=>dE (dY 0 (dz xs ys)) (fun _=>True) g tb E τ M
 |_,_=>False
noncomputable def xn (ta:br) (g:aV) (tb:aF):aF:=fun E τ M=>ta τ M fun vs M1=>HR g tb E τ vs M1
theorem yB {K:PySem.W.Frag} {a b:Addr} {xs ys:List D} {us vs:List V} {D':cp} {E:Ends} {τ:aJ} {σ:St} {M:DH} {H H1:Hp} (hd:dR K H D' E) (e1:Ext K H H1) (s1:aO K τ σ H1) (m1:aw K M H1) (hu1:aZ K H1 a us) (iu1:az K H1 us xs) (hv1:aZ K H1 b vs) (iv1:az K H1 vs ys)
  (h:dE (dY 0 (dz xs ys)) (fun _=>True) g tb D' τ M) :
  ∃W:Nat→Nat→St→Hp→Prop,(∃m,W 0 m σ H1)∧∀i m σ H,W i m σ H →
   ((kD K a b).stop i H∧E.nx σ H)∨((kD K a b).go i H∧∃N:St→Hp→Prop,(∀σ' H',N σ' H'→∃m',m' < m∧W (i+1) m' σ' H')∧∀x H',(kD K a b).yld i H x H'→lowG K g x σ H' fun σ2 H2=>aR K tb { E with nx:=N,ct:=N,bk:=E.nx } σ2 H2):=by
 obtain ⟨W,w0,stay,turn,done⟩:=h
 have hlen:(dz xs ys).length=min xs.length ys.length:=by unfold dz;rw [List.length_map,List.length_zip]
 rw [eZ] at done
 refine ⟨fun i m σ2 H2=>m=(dz xs ys).length-i∧i≤(dz xs ys).length∧∃τ2 M2,aO K τ2 σ2 H2∧aw K M2 H2∧Ext K H1 H2∧W i τ2 M2,⟨_,rfl,Nat.zero_le _,τ,M,s1,m1,Ext.refl H1,w0⟩,?_⟩
 rintro i m σ2 H2 ⟨rfl,hi,τ2,M2,s2,m2,e2,w2⟩
 have hu:=e2.t _ _ hu1
 have iu:=iu1.mono e2
 have hv:=e2.t _ _ hv1
 have iv:=iv1.mono e2
 by_cases hlt:i < (dz xs ys).length
 ·have h1:i < xs.length:=by (first|lia|omega)
  have h2:i < ys.length:=by (first|lia|omega)
  obtain ⟨u,eu,ju⟩:=iu.get (List.getElem?_eq_getElem h1)
  obtain ⟨v,ev,jv⟩:=iv.get (List.getElem?_eq_getElem h2)
  refine .inr ⟨⟨us,vs,u,v,hu,hv,eu,ev⟩,fun σ3 H3=>∃τ3 M3,aO K τ3 σ3 H3∧aw K M3 H3∧Ext K H1 H3∧W (i+1) τ3 M3,fun σ3 H3 p=>⟨(dz xs ys).length-(i+1),by first|lia|omega,rfl,hlt,p⟩,fun x H' y=>?_⟩
  obtain ⟨T,U,hT,hU,hTU,rfl,hall⟩:=y
  obtain ⟨u',v',eu',ev',rfl⟩:=hall us vs hu hv
  rw [eu] at eu'
  rw [ev] at ev'
  cases eu'
  cases ev'
  have xt:Ext K H2 (upd H2 T (.tup [u,v])):=bP hT
  have hU':upd H2 T (.tup [u,v]) U=none:=by rw [aK (Ne.symm hTU)];exact hU
  have xu:Ext K (upd H2 T (.tup [u,v])) (upd (upd H2 T (.tup [u,v])) U (.tup [.int ((i:Nat):Int),.ref T])):=bP hU'
  have it:Is K (upd H2 T (.tup [u,v])) (.ref T) (.tup [xs[i],ys[i]]):=.tup (aZ.of bV) (.cons (ju.mono xt) (.cons (jv.mono xt) .nil))
  have tn:=turn i _ τ2 M2 (jB (c:=0) (C6 (List.getElem?_eq_getElem h1) (List.getElem?_eq_getElem h2))) w2
  rw [Nat.zero_add] at tn
  exact lC (hd.ext e1) (e2.trans (xt.trans xu)) (.tup (aZ.of bV) (.cons (.int _) (.cons (it.mono xu) .nil))) (s2.mono (xt.trans xu)) ((m2.new hT).new hU') tn
 ·have e:i=(dz xs ys).length:=by (first|lia|omega)
  subst e
  refine .inl ⟨⟨us,vs,hu,hv,?_⟩,hd.nx τ2 M2 σ2 H2 s2 m2 (e1.trans e2) (done τ2 M2 w2)⟩
  rw [List.getElem?_eq_none_iff,List.getElem?_eq_none_iff,iu.length,iv.length,hlen]
  (first|lia|omega)
theorem Hj {a b:Expr} {ta:br} {body:List Stmt} {p q aA dpos:Pos} (hp:PassesOwn (model X.prog X.w) X.A X.env X.xe) (hc:X.calm=true) (hm:X.mg "enumerate" = none) (hm2:X.mg "zip" = none) (ha:PA X [a,b] (cg X.K ta)) (hg:PG X (.Tuple elts k tpos) (lowG X.K g)) (hb:bx X body (aR X.K tb)) (hgl:Gl X "enumerate" :=by rfl) (hgl2:Gl X "zip" :=by rfl)
  (hst:starEach [.Call (.Name "zip" q) [a,b] [] dpos] X.env=[(false,eval (.Call (.Name "zip" q) [a,b] [] dpos) X.env)]:=by rfl) (hst2:starEach [a,b] X.env=(false,eval a X.env)::starEach [b] X.env:=by rfl) (hpl:(backTo dpos (starEach [b] X.env)).any (·.1)=false:=by rfl)
  (hs:∀x,foldedSetIterable (.Call (.Name "enumerate" p) [.Call (.Name "zip" q) [a,b] [] dpos] [] aA) X.env x=pure x:=by intro _;rfl):PS X (.For (.Tuple elts k tpos) (.Call (.Name "enumerate" p) [.Call (.Name "zip" q) [a,b] [] dpos] [] aA) body [] pos) (aR X.K (xn ta g tb)) :=
 (gS hp hc (Dm hgl hm hgl2 hm2 ha hst hst2 hpl) hg hb hs).imp fun D σ H zz=>by
  obtain ⟨τ,M,D',hs,hm,h,hd⟩:=zz
  refine ⟨τ,M,_,hs,hm,h,fun ds M1 vs H1 m1 e1 i1 h1=>?_⟩
  match ds,h1,i1 with
  |[.tup xs,.tup ys],h1,i1 =>
   obtain ⟨v,v',rfl,i,i'⟩:=lA i1
   cases i with
   |@tup l us _ hx hxs=>cases i' with
    |@tup r vs _ hy hys=>exact ⟨l,r,rfl,⟨us,hx⟩,⟨vs,hy⟩,yB hd e1 (hs.mono e1) m1 hx hxs hy hys h1⟩
end
end DL
namespace DL
open PySem PySem.Spec PyProof.Rows L2
noncomputable def pk (K:PySem.W.Frag) (a:Addr) (n:Nat):It :=
 ⟨fun i H=>∃xs x,bG K H a xs∧xs.length=n∧i < n∧xs[n-1-i]?=some x,fun i H x H'=>H'=H∧∀xs,bG K H a xs→xs[n-1-i]?=some x,fun i _=>i=n⟩
theorem HZ {P:Program} {w:World} {K:PySem.W.Frag} {tg:Expr} (a it:Addr) (n:Nat):Turn P w K tg (pk K a n) [it] it (fun i h=>h.IsRevIter it a ((n:Int)-1-(i:Int))) where
 mem:=by simp
 obj:=fun i h st b hb=>by
  have e:b=it:=by simpa using hb
  subst e
  obtain ⟨o,e,c,d⟩:=st
  exact ⟨o,e,fun v z=>by rw [d] at z;cases z⟩
 keep:=fun i h h' st k=>st.at fun o e=>k it (by simp) o e
 item:=by
  intro X hP hw hK hc i aa s σ H E I hf st hg
  subst hP hw hK
  obtain ⟨xs,x,hq,hn,hi,hx⟩:=hg
  obtain ⟨ai,rv,p,hz⟩:=I.list hq
  obtain ⟨u,hu,ru⟩:=rv.get hx
  obtain ⟨f0,f1,f2,f3,f4,f5⟩:=hf it (by simp)
  have e:(n:Int)-1-(i:Int)=((n-1-i:Nat):Int):=by (first|lia|omega)
  rw [e] at st
  refine wpAny_pyNext_rev_item st p.isList (x:=u) (by simpa using hu) fun h' st' sb=>?_
  have e2:((n-1-i:Nat):Int)-1=(n:Int)-1-((i+1:Nat):Int):=by (first|lia|omega)
  rw [e2] at st'
  have I1:Inv X aa σ H { s with heap:=h' }:=I.turned (t':=s.toks) (fun b o hb e=>(sb.2 b hb).trans e) f0 f1 f3 f4 f5
  obtain ⟨o,e,c,d⟩:=id st'
  exact ⟨u,rfl,iG (s:={ s with heap:=h' }) e c d (by decide) ⟨x,H,I1,ru,⟨rfl,fun ys hy=>by rw [I.list_inj hy hq];exact hx⟩,st',fun b hb=>(hf b hb).1⟩⟩
 done:=by
  intro X hP hw hK hc i aa s σ H E I hf st hg
  subst hP hw hK
  cases (show i=n from hg)
  obtain ⟨f0,f1,f2,f3,f4,f5⟩:=hf it (by simp)
  have e:(n:Int)-1-(n:Int)=-1:=by (first|lia|omega)
  rw [e] at st
  exact wpAny_pyNext_rev_end (I.ok.hd hc) st fun h' eb=>⟨rfl,I.turned (t':=s.toks) (fun b o hb e=>eb b o hb e) f0 f1 f3 f4 f5⟩
 self:=fun A i s Q E st h=>wpAny_pyIter_revIter st h
section
variable {X:Cx} {tg:Expr} {pos:Pos} {g:aV} {tb:aF}
noncomputable def xT (K:PySem.W.Frag) (ta:TA):TI:=fun σ H R=>ta σ H fun vs H1=>∃a xs,vs=[.ref a]∧bG K H1 a xs∧R (pk K a xs.length) H1
theorem Fp {a:Expr} {ta:TA} {p aA:Pos} (hg:Gl X "reversed") (hm:X.mg "reversed" = none) (ha:PA X [a] ta) (hs:starEach [a] X.env=[(false,eval a X.env)]:=by rfl):PI X tg (.Call (.Name "reversed" p) [a] [] aA) (xT X.K ta):=by
 intro aa s σ H R I h
 refine Call_ (fj I hg hm boot_reversed (PyProof.Rows.callWith_type1 (aC (ha aA aa s σ H _ I h) fun us s1 zz=>?_) hs rfl))
 obtain ⟨vs,H1,I1,r1,q1⟩:=zz
 obtain ⟨l,xs,e,hq,q⟩:=q1
 subst e
 cases r1 with
 |cons r rr =>
  cases rr
  cases r
  obtain ⟨ai,rv,p,_⟩:=I1.list hq
  refine call_reversed_list p.isList ?_
  have st:Heap.IsRevIter (s1.heap.push (revObj l ((ai.toArray.size:Int)-1))) s1.heap.objs.size l ((xs.length:Int)-1-((0:Nat):Int)):=⟨_,Heap.get?_push_size _ rfl,rfl,by
   rw [List.size_toArray,←rv.length]
   show Data.fields #[.ref l,rawInt ((xs.length:Int)-1)]=_
   rw [show (xs.length:Int)-1-((0:Nat):Int)=(xs.length:Int)-1 by first|lia|omega]⟩
  refine wpAny_pyIter_revIter (s:={ s1 with heap:=s1.heap.push (revObj l ((ai.toArray.size:Int)-1)) }) st ?_
  refine ⟨s1.heap.objs.size,[s1.heap.objs.size],_,_,H1,rfl,I1.kept (t':=s1.toks) fun c o e=>Heap.get?_push_of_some _ e,HZ l _ xs.length,st,fun x hx=>?_,q⟩
  cases List.mem_singleton.mp hx
  exact I1.fpOk (Nat.le_refl _) (I1.ao.fresh (Nat.le_refl _))
theorem Bg {K:PySem.W.Frag} {H:Hp} {a:Addr} {xs:List V} {ds:List D} (h:bG K H a xs) (i:az K H xs ds):Gives K (pk K a ds.length) ds.reverse H:=by
 have hl:=i.length
 refine ⟨fun j hj=>?_,fun j x H' hj y=>?_,by rw [List.length_reverse];exact rfl⟩
 ·rw [List.length_reverse] at hj
  obtain ⟨v,e,_⟩:=i.get (List.getElem?_eq_getElem (l:=ds) (i:=ds.length-1-j) (by first|lia|omega))
  exact ⟨xs,v,h,hl,hj,e⟩
 ·obtain ⟨e,y⟩:=y
  rw [List.length_reverse] at hj
  obtain ⟨d,ed,id⟩:=i.getV (y xs h)
  exact ⟨e,d,by rw [List.getElem?_reverse hj];exact ed,id⟩
noncomputable def BC (g:aV) (tb:aF) (E:cp) (τ:aJ):List D→DH→Prop
 |[.ref l],M=>∃ds,M l=some (.lst ds)∧dE ds.reverse (fun M=>M l=some (.lst ds)) g tb E τ M
 |_,_=>False
noncomputable def BE (ta:br) (g:aV) (tb:aF):aF:=fun E τ M=>ta τ M fun vs M1=>BC g tb E τ vs M1
theorem Di {a:Expr} {ta:br} {body:List Stmt} {p aA:Pos} (hp:PassesOwn (model X.prog X.w) X.A X.env X.xe) (hc:X.calm=true) (hm:X.mg "reversed" = none) (ha:PA X [a] (cg X.K ta)) (hg:PG X tg (lowG X.K g)) (hb:bx X body (aR X.K tb)) (hgl:Gl X "reversed" :=by rfl)
  (hst:starEach [a] X.env=[(false,eval a X.env)]:=by rfl) (hs:∀x,foldedSetIterable (.Call (.Name "reversed" p) [a] [] aA) X.env x=pure x:=by intro _;rfl):PS X (.For tg (.Call (.Name "reversed" p) [a] [] aA) body [] pos) (aR X.K (BE ta g tb)) :=
 (gS hp hc (Fp hgl hm ha hst) hg hb hs).imp fun D σ H zz=>by
  obtain ⟨τ,M,D',hs,hm,h,hd⟩:=zz
  refine ⟨τ,M,_,hs,hm,h,fun ds M1 vs H1 m1 e1 i1 h1=>?_⟩
  match ds,h1,i1 with
  |[.ref l],h1,i1 =>
   obtain ⟨v,rfl,i⟩:=cc i1
   cases i.inv
   obtain ⟨ds,hl,w⟩:=h1
   obtain ⟨us,hu,iu⟩:=m1.lst hl
   refine ⟨l,us,rfl,hu,?_⟩
   rw [iu.length]
   exact jX hd e1 (hs.mono e1) m1 (fun M2 H2 m2 e2 hl2=>let ⟨ys,hy,iy⟩:=m2.lst hl2;Bg hy iy) w
noncomputable def ED:D→List D→DH→KD→Prop
 |.ref l,[.int k],M,Q=>∃ns:List Int,LstAt M l (ns.map .int)∧ns.length≤1000∧k∈ns∧Q (.int ((ns.idxOf k:Nat):Int)) M
 |_,_,_,_=>False
noncomputable def A7 (k:Int):Value→Bool
 |.int i _=>i ==k
 |_=>false
theorem Hw:fH X "list.index" ED:=by
 intro aa s σ H vx vs v us Q I rx rs zz
 obtain ⟨x,ds,M,Q',ix,iss,hm,q,hq⟩:=zz
 match x,ds,q,ix,iss with
 |.ref l,[.int k],q,ix,iss =>
  obtain ⟨ns,hl,hlen,hk,q⟩:=q
  cases ix.inv
  obtain ⟨v1,rfl,i⟩:=cc iss
  cases i.inv
  cases rx
  obtain ⟨u,rfl,ru⟩:=rs.one
  obtain ⟨t,rfl⟩:=ru
  obtain ⟨xs,hx,hxs⟩:=hm.lst hl
  obtain ⟨ai,rv,p,_⟩:=I.list hx
  have hlen2:ai.length=ns.length:=by rw [←rv.length,hxs.length,List.length_map]
  have at_:∀(j:Nat) (m:Int),ns[j]?=some m→∃t,ai[j]?=some (.int m t):=fun j m e=>by
   obtain ⟨w,e1,i1⟩:=hxs.get (i:=j) (d:=.int m) (by rw [List.getElem?_map,e];rfl)
   cases i1.inv
   obtain ⟨u,e2,r2⟩:=rv.get e1
   obtain ⟨t,rfl⟩:=r2
   exact ⟨t,e2⟩
  have hj:ns.idxOf k < ns.length:=List.idxOf_lt_length_iff.mpr hk
  obtain ⟨⟨cls,dd,data,sl⟩,ho,hc,n,hd⟩:=p.isList
  simp only at hc hd
  subst hc hd
  refine call_meets PySem.F.slot_list_index ⟨_,ho,rfl⟩ PySem.F.entry_list_index (PySem.F.args_list_index_2 _ _) (SeqAt.list_indexAt l ai.toArray n dd sl (.int k t) (A7 k) (ns.idxOf k) (by simpa [hlen2] using hj) (by first|lia|omega) ?_ ?_) ⟨ho,fun y hy=>?_,?_⟩
  ·obtain ⟨t',e⟩:=at_ _ _ (List.getElem?_eq_getElem hj)
   have e2:ai.toArray[ns.idxOf k]'(by simpa [hlen2] using hj)=.int ns[ns.idxOf k] t':=by
    have:=List.getElem?_eq_some_iff.mp e
    obtain ⟨h1,h2⟩:=this
    simpa using h2
   rw [e2]
   show (ns[ns.idxOf k] ==k)=true
   simpa using List.getElem_idxOf hj
  ·intro m hm1 hlt
   have hm2:m < ns.length:=by (first|lia|omega)
   obtain ⟨t',e⟩:=at_ _ _ (List.getElem?_eq_getElem hm2)
   have e2:ai.toArray[m]=.int ns[m] t':=by
    obtain ⟨h1,h2⟩:=List.getElem?_eq_some_iff.mp e
    simpa using h2
   rw [e2]
   show (ns[m] ==k)=false
   exact ne_of_lt_idxOf hlt _
  ·obtain ⟨j,hj',rfl⟩:=List.mem_iff_getElem.mp (by simpa using hy:y∈ai)
   obtain ⟨t',e⟩:=at_ j ns[j] (List.getElem?_eq_getElem (by first|lia|omega))
   obtain ⟨h1,h2⟩:=List.getElem?_eq_some_iff.mp e
   rw [h2]
   exact SeqAt.EqAt.int_int _ _ _ _
  ·exact ⟨.int _,H,I.tok _,⟨_,rfl⟩,hq.here hm (.int _) q⟩
end
end DL
namespace Law
open PySem PySem.Spec PyProof.Rows L2 DL
noncomputable def top (i:Nat):Stmt:=PySem.Challenge.pw_commonform_k42_widest_that_doubles.main.body.getD i (.Pass ⟨0,0,0,0⟩)
noncomputable abbrev i0:Stmt:=top 5
theorem Cn:aX ["tree"] ["tree"] (au i0):=⟨rfl,rfl,rfl,by decide +kernel,rfl,by decide +kernel,by decide +kernel⟩
noncomputable abbrev iQ:Stmt:=top 6
theorem lV:aX ["tree", "knots", "part"] ["tree"] (au iQ):=⟨rfl,rfl,rfl,by decide +kernel,rfl,by decide +kernel,by decide +kernel⟩
noncomputable abbrev jM:Stmt:=top 7
theorem mB:aX ["tree", "deepest", "part"] ["tree"] (au jM):=⟨rfl,rfl,rfl,by decide +kernel,rfl,by decide +kernel,by decide +kernel⟩
noncomputable abbrev iD:Stmt:=top 8
theorem uq:aX ["tree", "found", "part"] ["tree", "found"] (au iD):=⟨rfl,rfl,rfl,by decide +kernel,rfl,by decide +kernel,by decide +kernel⟩
noncomputable abbrev iO:Stmt:=top 9
theorem vM:aX ["tree", "found"] ["tree"] (au iO):=⟨rfl,rfl,rfl,by decide +kernel,rfl,by decide +kernel,by decide +kernel⟩
noncomputable abbrev jz:Stmt:=top 13
theorem pb:aX ["tree", "filling", "parts", "part"] ["tree", "filling"] (au jz):=⟨rfl,rfl,rfl,by decide +kernel,rfl,by decide +kernel,by decide +kernel⟩
noncomputable abbrev jC:Stmt:=top 14
theorem xD:aX ["tree"] ["tree"] (au jC):=⟨rfl,rfl,rfl,by decide +kernel,rfl,by decide +kernel,by decide +kernel⟩
noncomputable abbrev i9:Stmt:=top 15
theorem rS:aX ["tree", "filling", "whole"] ["tree", "filling"] (au i9):=⟨rfl,rfl,rfl,by decide +kernel,rfl,by decide +kernel,by decide +kernel⟩
noncomputable abbrev iz:Stmt:=top 16
theorem mX:aX ["tree", "naming", "count", "number"] ["tree"] (au iz):=⟨rfl,rfl,rfl,by decide +kernel,rfl,by decide +kernel,by decide +kernel⟩
noncomputable abbrev jn:Stmt:=top 18
theorem Hm:aX ["one", "other"] ["one", "other"] (au jn):=⟨rfl,rfl,rfl,by decide +kernel,rfl,by decide +kernel,by decide +kernel⟩
noncomputable abbrev jK:Stmt:=top 19
theorem tE:aX ["number", "tree", "place", "stood", "first"] ["number", "tree", "place", "stood"] (au jK):=⟨rfl,rfl,rfl,by decide +kernel,rfl,by decide +kernel,by decide +kernel⟩
noncomputable abbrev i7:Stmt:=top 20
theorem kh:aX ["form", "tree", "place", "stood", "parts", "number", "inner", "clash"] ["form", "tree", "place", "stood"] (au i7):=⟨rfl,rfl,rfl,by decide +kernel,rfl,by decide +kernel,by decide +kernel⟩
noncomputable abbrev ja:Stmt:=top 21
theorem lI:aX ["form", "tree", "stood", "filling", "number"] ["form", "tree"] (au ja):=⟨rfl,rfl,rfl,by decide +kernel,rfl,by decide +kernel,by decide +kernel⟩
noncomputable abbrev ji:Stmt:=top 23
theorem mQ:aX ["one", "other", "growth", "grown", "number"] ["one", "other"] (au ji):=⟨rfl,rfl,rfl,by decide +kernel,rfl,by decide +kernel,by decide +kernel⟩
noncomputable abbrev iM:Stmt:=top 24
theorem Fb:aX ["one", "other"] ["one", "other"] (au iM):=⟨rfl,rfl,rfl,by decide +kernel,rfl,by decide +kernel,by decide +kernel⟩
noncomputable abbrev jc:Stmt:=top 27
theorem Bb:aX ["root"] ["root"] (au jc):=⟨rfl,rfl,rfl,by decide +kernel,rfl,by decide +kernel,by decide +kernel⟩
noncomputable abbrev gI:Stmt:=top 28
theorem jF:aX ["inner", "order", "start", "path", "here", "ahead"] ["inner"] (au gI):=⟨rfl,rfl,rfl,by decide +kernel,rfl,by decide +kernel,by decide +kernel⟩
noncomputable abbrev gp:Stmt:=top 29
theorem ip:aX ["one", "other", "ties", "clash", "roots", "inner", "number", "told"] ["one", "other"] (au gp):=⟨rfl,rfl,rfl,by decide +kernel,rfl,by decide +kernel,by decide +kernel⟩
noncomputable abbrev jQ:Stmt:=top 30
theorem iI:aX ["one", "other", "told", "trees", "number", "root", "form"] ["one", "other"] (au jQ):=⟨rfl,rfl,rfl,by decide +kernel,rfl,by decide +kernel,by decide +kernel⟩
noncomputable abbrev jd:Stmt:=top 31
theorem tN:aX ["one", "other", "tree", "told"] ["one", "other", "tree"] (au jd):=⟨rfl,rfl,rfl,by decide +kernel,rfl,by decide +kernel,by decide +kernel⟩
noncomputable abbrev je:Stmt:=top 33
theorem Bi:aX ["script", "k"] ["script", "k"] (au je):=⟨rfl,rfl,rfl,by decide +kernel,rfl,by decide +kernel,by decide +kernel⟩
noncomputable abbrev jA:Stmt:=top 34
theorem kS:aX ["cell", "many", "found", "x", "k"] ["cell", "many"] (au jA):=⟨rfl,rfl,rfl,by decide +kernel,rfl,by decide +kernel,by decide +kernel⟩
noncomputable abbrev gU:Stmt:=top 35
theorem gO:aX ["cell", "some", "xs", "base", "at", "sign", "other"] ["cell"] (au gU):=⟨rfl,rfl,rfl,by decide +kernel,rfl,by decide +kernel,by decide +kernel⟩
noncomputable abbrev il:Stmt:=top 42
theorem Ee:aX ["tree", "filling"] ["tree", "filling"] (au il):=⟨rfl,rfl,rfl,by decide +kernel,rfl,by decide +kernel,by decide +kernel⟩
noncomputable abbrev hJ:Stmt:=top 43
theorem mv:aX ["tree", "found", "part"] ["tree"] (au hJ):=⟨rfl,rfl,rfl,by decide +kernel,rfl,by decide +kernel,by decide +kernel⟩
noncomputable abbrev iS:Stmt:=top 44
theorem pP:aX ["tree", "names", "k"] ["tree"] (au iS):=⟨rfl,rfl,rfl,by decide +kernel,rfl,by decide +kernel,by decide +kernel⟩
noncomputable abbrev gb:Stmt:=top 45
theorem jy:aX ["script", "xs", "many", "first", "blanks", "times"] ["script"] (au gb):=⟨rfl,rfl,rfl,by decide +kernel,rfl,by decide +kernel,by decide +kernel⟩
noncomputable abbrev iA:Stmt:=top 46
theorem gx:aX ["names", "blanks", "times", "closed", "tree", "row", "k", "j"] ["names", "blanks", "times", "closed"] (au iA):=⟨rfl,rfl,rfl,by decide +kernel,rfl,by decide +kernel,by decide +kernel⟩
noncomputable abbrev iU:Stmt:=top 47
theorem jo:aX ["times", "many", "size", "k"] ["times"] (au iU):=⟨rfl,rfl,rfl,by decide +kernel,rfl,by decide +kernel,by decide +kernel⟩
noncomputable abbrev jD:Stmt:=top 48
theorem lY:aX ["one", "other", "word", "e"] ["one", "other"] (au jD):=⟨rfl,rfl,rfl,by decide +kernel,rfl,by decide +kernel,by decide +kernel⟩
noncomputable abbrev iP:Stmt:=top 49
theorem mY:aX ["one", "other", "word", "e"] ["one", "other"] (au iP):=⟨rfl,rfl,rfl,by decide +kernel,rfl,by decide +kernel,by decide +kernel⟩
noncomputable abbrev ib:Stmt:=top 50
theorem yL:aX ["names", "many"] ["names", "many"] (au ib):=⟨rfl,rfl,rfl,by decide +kernel,rfl,by decide +kernel,by decide +kernel⟩
noncomputable abbrev dQ:Stmt:=top 51
theorem cM:aX ["script", "names", "blanks", "times", "closed", "many", "last", "nexts", "blocks", "pairs", "one", "other", "due", "leaf", "barred", "found", "doubled", "ring"] ["script"] (au dQ):=⟨rfl,rfl,rfl,by decide +kernel,rfl,by decide +kernel,by decide +kernel⟩
noncomputable abbrev iL:Stmt:=inClass (top 26) 0
theorem yJ:aX ["self"] ["self"] (au iL):=⟨rfl,rfl,rfl,by decide +kernel,rfl,by decide +kernel,by decide +kernel⟩
noncomputable abbrev iV:Stmt:=inClass (top 26) 1
theorem Hb:aX ["self", "step"] ["self", "step"] (au iV):=⟨rfl,rfl,rfl,by decide +kernel,rfl,by decide +kernel,by decide +kernel⟩
noncomputable abbrev jL:Stmt:=inClass (top 26) 2
theorem BX:aX ["self", "number"] ["self", "number"] (au jL):=⟨rfl,rfl,rfl,by decide +kernel,rfl,by decide +kernel,by decide +kernel⟩
noncomputable abbrev jG:Stmt:=inClass (top 26) 3
theorem yi:aX ["self", "first", "second"] ["self", "first", "second"] (au jG):=⟨rfl,rfl,rfl,by decide +kernel,rfl,by decide +kernel,by decide +kernel⟩
noncomputable abbrev i8:Stmt:=inClass (top 26) 4
theorem gM:aX ["self", "tree", "path", "root", "number", "passed"] ["self", "tree"] (au i8):=⟨rfl,rfl,rfl,by decide +kernel,rfl,by decide +kernel,by decide +kernel⟩
noncomputable abbrev jO:Stmt:=inClass (top 26) 5
theorem mT:aX ["self", "left", "right", "number", "found", "which", "pair"] ["self", "left", "right", "number"] (au jO):=⟨rfl,rfl,rfl,by decide +kernel,rfl,by decide +kernel,by decide +kernel⟩
noncomputable abbrev jP:Stmt:=inClass (top 26) 6
theorem jI:aX ["self", "one", "other", "pending", "likeness", "left", "right", "number"] ["self", "one", "other"] (au jP):=⟨rfl,rfl,rfl,by decide +kernel,rfl,by decide +kernel,by decide +kernel⟩
theorem lg {C:List Value→Prop} (h:C []):∀us:List Value,us.length=0→C us:=fun us e=>by rw [List.length_eq_zero_iff.mp e];exact h
theorem eV {C:List Value→Prop} {n:Nat} (h:∀a,∀us:List Value,us.length=n→C (a::us)):∀us:List Value,us.length=n+1→C us
 |a::us,e=>h a us (Nat.succ.inj e)
theorem dv {C:List Value→Prop} (h:∀a0,C [a0]):∀us:List Value,us.length=1→C us:=eV fun a0=>lg (h a0)
theorem cJ {C:List Value→Prop} (h:∀a0 a1,C [a0,a1]):∀us:List Value,us.length=2→C us:=eV fun a0=>eV fun a1=>lg (h a0 a1)
theorem nI {C:List Value→Prop} (h:∀a0 a1 a2,C [a0,a1,a2]):∀us:List Value,us.length=3→C us:=eV fun a0=>eV fun a1=>eV fun a2=>lg (h a0 a1 a2)
theorem mM {C:List Value→Prop} (h:∀a0 a1 a2 a3,C [a0,a1,a2,a3]):∀us:List Value,us.length=4→C us:=eV fun a0=>eV fun a1=>eV fun a2=>eV fun a3=>lg (h a0 a1 a2 a3)
structure Txt (K:PySem.W.Frag) (mg:Str→Option Value):Prop where
 f_parts_of:bH K mg "parts_of" i0 ["tree"]
 f_knots_of:bH K mg "knots_of" iQ ["tree"]
 f_depth_of:bH K mg "depth_of" jM ["tree"]
 f_gather_blanks:bH K mg "gather_blanks" iD ["tree", "found"]
 f_blanks_of:bH K mg "blanks_of" iO ["tree"]
 f_exchanged:bH K mg "exchanged" jz ["tree", "filling"]
 f_refuse_too_great:bH K mg "refuse_too_great" jC ["tree"]
 f_filled:bH K mg "filled" i9 ["tree", "filling"]
 f_plain:bH K mg "plain" iz ["tree"]
 f_same_head:bH K mg "same_head" jn ["one", "other"]
 f_blank_clash:bH K mg "blank_clash" jK ["number", "tree", "place", "stood"]
 f_clash_from:bH K mg "clash_from" i7 ["form", "tree", "place", "stood"]
 f_fitting:bH K mg "fitting" ja ["form", "tree"]
 f_apart:bH K mg "apart" ji ["one", "other"]
 f_unlike_blocks:bH K mg "unlike_blocks" iM ["one", "other"]
 f_blanks_within:bH K mg "blanks_within" jc ["root"]
 f_arranged:bH K mg "arranged" gI ["inner"]
 f_settled:bH K mg "settled" gp ["one", "other"]
 f_widest:bH K mg "widest" jQ ["one", "other"]
 f_by_widest:bH K mg "by_widest" jd ["one", "other", "tree"]
 f__law_cell_at:bH K mg "_law_cell_at" je ["script", "k"]
 f__law_stream:bH K mg "_law_stream" jA ["cell", "many"]
 f__law_names:bH K mg "_law_names" gU ["cell"]
 f__law_filled:bH K mg "_law_filled" il ["tree", "filling"]
 f__law_blanks:bH K mg "_law_blanks" hJ ["tree"]
 f__law_plain:bH K mg "_law_plain" iS ["tree"]
 f__law_row:bH K mg "_law_row" gb ["script"]
 f__law_made:bH K mg "_law_made" iA ["names", "blanks", "times", "closed"]
 f__law_knots:bH K mg "_law_knots" iU ["times"]
 f__law_refused:bH K mg "_law_refused" jD ["one", "other"]
 f__law_refused_by_base:bH K mg "_law_refused_by_base" iP ["one", "other"]
 f__law_twos:bH K mg "_law_twos" ib ["names", "many"]
 f_Ties___init__:qP K (cl mg "Ties") "Ties.__init__" iL ["self"]
 f_Ties_noted:gK K (cl mg "Ties") "noted" "Ties.noted" iV ["self", "step"]
 f_Ties_turned:gK K (cl mg "Ties") "turned" "Ties.turned" jL ["self", "number"]
 f_Ties_linked:gK K (cl mg "Ties") "linked" "Ties.linked" jG ["self", "first", "second"]
 f_Ties_root_of:gK K (cl mg "Ties") "root_of" "Ties.root_of" i8 ["self", "tree"]
 f_Ties_tie_roots:gK K (cl mg "Ties") "tie_roots" "Ties.tie_roots" jO ["self", "left", "right", "number"]
 f_Ties_tie:gK K (cl mg "Ties") "tie" "Ties.tie" jP ["self", "one", "other"]
 n_Ties:mg "Ties" = some (.ref (cl mg "Ties"))
 c_Ties:d7 K (cl mg "Ties")
 a_Ties_links:fb K (cl mg "Ties") "links"
 a_Ties_steps:fb K (cl mg "Ties") "steps"
 m_ValueError:mg "ValueError" = none
 m_enumerate:mg "enumerate" = none
 m_int:mg "int" = none
 m_isinstance:mg "isinstance" = none
 m_len:mg "len" = none
 m_list:mg "list" = none
 m_max:mg "max" = none
 m_range:mg "range" = none
 m_reversed:mg "reversed" = none
 m_tuple:mg "tuple" = none
 m_zip:mg "zip" = none
 g_MOST_TOLD_DEPTH:∃t,mg "MOST_TOLD_DEPTH" = some (.int 60 t)
 g_MOST_TOLD_KNOTS:∃t,mg "MOST_TOLD_KNOTS" = some (.int 400 t)
 n_FormError:mg "FormError" = some (.ref (cl mg "FormError"))
 n_BadText:mg "BadText" = some (.ref (cl mg "BadText"))
 n_TooLong:mg "TooLong" = some (.ref (cl mg "TooLong"))
 xc:fe K [cl mg "FormError",cl mg "BadText",cl mg "TooLong"] [[true,false,false],[true,true,false],[true,false,true]]
section
variable {K:PySem.W.Frag} {mg:Str→Option Value}
theorem A3 (T:Txt K mg):XC K mg "FormError" (cl mg "FormError"):=⟨T.n_FormError,T.xc.ow _ (by simp)⟩
theorem E3 (T:Txt K mg):XC K mg "BadText" (cl mg "BadText"):=⟨T.n_BadText,T.xc.ow _ (by simp)⟩
theorem mi (T:Txt K mg):XC K mg "TooLong" (cl mg "TooLong"):=⟨T.n_TooLong,T.xc.ow _ (by simp)⟩
theorem sL (T:Txt K mg):kC K (cl mg "TooLong"):=T.xc.xcl 2 rfl
theorem Aa (T:Txt K mg):PySem.W.kitOne K (.ref (cl mg "TooLong")) (.type "ValueError")=some true:=T.xc.vee 2 rfl
theorem G4 (T:Txt K mg):kN K (cl mg "TooLong") (cl mg "FormError") true:=T.xc.isa 2 0 rfl rfl rfl rfl
theorem Dw (T:Txt K mg):PySem.W.kitOne K (.ref (cl mg "TooLong")) (.ref (cl mg "BadText"))=some false:=T.xc.kit 2 1 rfl rfl rfl rfl
theorem vW (T:Txt K mg):kN K (cl mg "TooLong") (cl mg "TooLong") true:=T.xc.isa 2 2 rfl rfl rfl rfl
end
section
variable {P:Program} {w:World} {K:PySem.W.Frag} {mg:Str→Option Value} {base:Heap}
noncomputable def mU:Nat:=190
theorem dc {Q:KD} {d:D} {M:DH} (q:Q d M):(fo Q).rt d M:=⟨M,Sub.refl M,q⟩
inductive Tree where
 |block (n:Str) (ps:List Tree)
 |blank (k:Int)
mutual
noncomputable def Tree.d:Tree→D
 |.block n ps=>.tup [.str "block",.str n,.tup (Tree.ds ps)]
 |.blank k=>.tup [.str "blank",.int k]
noncomputable def Tree.ds:List Tree→List D
 |[]=>[]
 |t::ts=>t.d::Tree.ds ts
end
mutual
noncomputable def Tree.knots:Tree→Nat
 |.block _ ps=>Tree.knotss ps+1
 |.blank _=>1
noncomputable def Tree.knotss:List Tree→Nat
 |[]=>0
 |t::ts=>t.knots+Tree.knotss ts
end
mutual
noncomputable def Tree.depth:Tree→Nat
 |.block _ ps=>Tree.depths ps+1
 |.blank _=>1
noncomputable def Tree.depths:List Tree→Nat
 |[]=>0
 |t::ts=>max t.depth (Tree.depths ts)
end
noncomputable def Tree.parts:Tree→List Tree
 |.block _ ps=>ps
 |.blank _=>[]
theorem cy:∀ts:List Tree,Tree.ds ts=ts.map Tree.d
 |[]=>rfl
 |t::ts=>by rw [Tree.ds,cy ts];rfl
theorem xW (t:Tree):t.knots=Tree.knotss t.parts+1:=by cases t<;>rfl
theorem nO (t:Tree):t.depth=Tree.depths t.parts+1:=by cases t<;>rfl
theorem fB:∀{ts:List Tree} {i:Nat} {t:Tree},ts[i]?=some t→t.depth≤Tree.depths ts
 |[],_,_,e=>by simp at e
 |t::ts,0,_,e=>by simp at e;subst e;simp only [Tree.depths];(first|lia|omega)
 |t::ts,i+1,_,e=>by
  have:=fB (ts:=ts) (i:=i) (by simpa using e)
  simp only [Tree.depths];(first|lia|omega)
theorem kU:∀(ts:List Tree) (i:Nat) (t:Tree),ts[i]?=some t→Tree.knotss (ts.take (i+1))=Tree.knotss (ts.take i)+t.knots
 |[],_,_,e=>by simp at e
 |t::ts,0,_,e=>by simp at e;subst e;simp [Tree.knotss]
 |t::ts,i+1,_,e=>by
  have:=kU ts i _ (by simpa using e)
  simp only [List.take_succ_cons,Tree.knotss] at this ⊢
  (first|lia|omega)
theorem qN:∀(ts:List Tree) (i:Nat) (t:Tree),ts[i]?=some t→Tree.depths (ts.take (i+1))=max (Tree.depths (ts.take i)) t.depth
 |[],_,_,e=>by simp at e
 |t::ts,0,_,e=>by simp at e;subst e;simp [Tree.depths]
 |t::ts,i+1,_,e=>by
  have:=qN ts i _ (by simpa using e)
  rw [List.take_succ_cons,List.take_succ_cons,Tree.depths,Tree.depths,this,Nat.max_assoc]
noncomputable def nM:aS:=fun ds M Q=>∃t:Tree,ds=[t.d]∧Q (.tup (t.parts.map Tree.d)) M
theorem g9 (T:Txt K mg):bu P w K mg base 1 "parts_of" ["tree"] nM:=by
 refine bW T.f_parts_of Cn (fun ds M Q h=>?_) fun f cdv A outer s H E hr=>⟨_,(aq (bz (bg (cv hr) (av (af 0) ak) aQ (bj _)) (ax (aG (aM ah))) bF)
 (ax (aG (av (af 0) ak)))),fun ds M Q h=>?_⟩
 ·obtain ⟨t,rfl,_⟩:=h;rfl
 ·obtain ⟨t,rfl,q⟩:=h
  cases t with
  |blank k=>exact dc q
  |block n ps =>
   have q':Q (.tup (Tree.ds ps)) M:=by rw [cy];exact q
   exact dc q'
theorem gu {x:Str} {ps:List Str} {sp:aS} {st:Stmt} (T:bH K mg x st ps) (no:∀ds M Q,¬sp ds M Q):bu P w K mg base 0 x ps sp:=by
 obtain ⟨f,fd,F,hb,hm⟩:=T
 have no':∀vs H Q E,¬dS K sp vs H Q E:=fun vs H Q E ⟨ds,M,Q',_,_,h,_⟩=>no ds M Q' h
 exact ⟨f,fd,⟨fun vs H Q E h=>absurd h (no' vs H Q E),fun A outer s H args us vs Q E _ _ _ _ h=>absurd h (no' vs H Q E)⟩,hm,F.kp,hb⟩
theorem gk (t:Tree):0 < t.depth:=by rw [nO];(first|lia|omega)
mutual
theorem pI:∀t:Tree,t.depth≤t.knots
 |.block n ps=>by rw [Tree.depth,Tree.knots];have:=vL ps;(first|lia|omega)
 |.blank k=>Nat.le_refl _
theorem vL:∀ts:List Tree,Tree.depths ts≤Tree.knotss ts
 |[]=>Nat.le_refl _
 |t::ts=>by rw [Tree.depths,Tree.knotss];have:=pI t;have:=vL ts;(first|lia|omega)
end
theorem lL:∀ts:List Tree,ts.length≤Tree.knotss ts
 |[]=>Nat.le_refl _
 |t::ts=>by have h1:=lL ts;have h2:=pI t;have h3:=gk t;rw [List.length_cons,Tree.knotss];(first|lia|omega)
theorem fO {c:Prop} [Decidable c] {A B:Prop} (h:c) (a:A):if decide c=true then A else B:=by rw [decide_eq_true h,if_pos rfl];exact a
theorem gD {c:Prop} [Decidable c] {A B:Prop} (h:¬c) (b:B):if decide c=true then A else B:=by rw [decide_eq_false h,if_neg Bool.false_ne_true];exact b
theorem kJ {α:Type} {xs:List α} {i:Int} (h0:0≤i) (h1:i < xs.length):∃k,bA xs i=some k:=by
 have e:i=((i.toNat:Nat):Int):=by (first|lia|omega)
 have hl:i.toNat < xs.length:=by (first|lia|omega)
 have h:=jE (xs:=xs) (j:=i.toNat) (v:=xs[i.toNat]) (by rw [List.getElem?_eq_getElem hl])
 rw [←e] at h
 exact ⟨_,h⟩
theorem mz (a b:Str):(a++b).length=a.length+b.length:=by
 show (a.cps++b.cps).size=_
 rw [Array.size_append]
 rfl
theorem Hy:(Str.ofString "abcdefghijklmnopqrstuvwxyz0123456789").cps.toList.length=36:=by decide +kernel
noncomputable def Dh:aS:=fun ds M Q=>∃(ns:List Int) (k:Int),ds=[.rol (ns.map .int),.int k]∧0≤k∧∀c:Int,Q (.int c) M
theorem uJ (T:Txt K mg):bu P w K mg base 1 "_law_cell_at" ["script", "k"] Dh:=by
 have m_len:=T.m_len
 refine bW T.f__law_cell_at Bi (fun ds M Q h=>?_) fun f cdv A outer s H E hr=>⟨_,(aq (bz (bg Ef (af 1) (cG dn rfl m_len df (ag (af 0) ah)) (bj _)) (ax (aG (av (af 0) (af 1)))) bF)
 (ax (aG ak))),fun ds M Q h=>?_⟩
 ·obtain ⟨ns,k,rfl,_⟩:=h;rfl
 ·obtain ⟨ns,k,rfl,hk,q⟩:=h
  show if decide (k < ((ns.map D.int).length:Int))=true then _ else _
  by_cases h1:k < ((ns.map D.int).length:Int)
  ·first|refine fO h1 ?_|rw [decide_eq_true h1,if_pos rfl]
   obtain ⟨v,hv⟩:=kJ (xs:=ns.map D.int) hk h1
   obtain ⟨j,_,hj,_⟩:=nj hv
   obtain ⟨c,_,rfl⟩:=List.mem_map.mp (List.mem_of_getElem? hj)
   show fK (bA (ns.map D.int) k) _
   rw [hv]
   exact dc (q c)
  ·first|refine gD h1 ?_|rw [decide_eq_false h1,if_neg Bool.false_ne_true]
   exact dc (q 0)
theorem dA {M:DH} {a b:Addr} {o:MO} (h:aj M a o b=none):b≠a∧M b=none:=by
 have hne:b≠a:=by intro z;subst z;rw [ar] at h;cases h
 exact ⟨hne,by rw [ay hne] at h;exact h⟩
theorem fX {M0 M:DH} {a:Addr} {o:MO} (s:Sub M0 M) (h:M0 a=none):Sub M0 (aj M a o):=fun b u e=>by
 rw [ay (by intro z;subst z;rw [h] at e;cases e)];exact s b u e
theorem nr:∀{ts:List Tree} {i:Nat} {t:Tree},ts[i]?=some t→t.knots≤Tree.knotss ts
 |[],_,_,e=>by simp at e
 |t::ts,0,_,e=>by simp at e;subst e;simp only [Tree.knotss];(first|lia|omega)
 |t::ts,i+1,_,e=>by
  have:=nr (ts:=ts) (i:=i) (by simpa using e)
  simp only [Tree.knotss];(first|lia|omega)
noncomputable abbrev uZ:=List Int×Tree
mutual
noncomputable def pre (p:List Int):Tree→List uZ
 |.block n ps=>(p,.block n ps)::uR p 0 ps
 |.blank k=>[(p,.blank k)]
noncomputable def uR (p:List Int) (i:Nat):List Tree→List uZ
 |[]=>[]
 |t::ts=>pre (p++[(i:Int)]) t++uR p (i+1) ts
end
theorem kW:∀(ts:List Tree) (i:Nat),Tree.knotss (ts.take i)≤Tree.knotss ts
 |[],i=>by simp
 |t::ts,0=>by simp [Tree.knotss]
 |t::ts,i+1=>by have:=kW ts i;simp only [List.take_succ_cons,Tree.knotss];(first|lia|omega)
theorem iC {M:DH} {a:Addr} {o:MO} (h:M a=some o):aj M a o=M:=by
 funext b
 by_cases z:b=a
 ·subst z;rw [ar,h]
 ·rw [ay z]
noncomputable def yO (n:Nat):aS:=fun ds M Q=>∃t:Tree,ds=[t.d]∧t.depth≤n∧Q (.int t.knots) M
noncomputable def AW (n:Nat):aS:=fun ds M Q=>∃t:Tree,ds=[t.d]∧t.depth≤n∧Q (.int t.depth) M
theorem wB (T:Txt K mg):∀n:Nat,bu P w K mg base (n+1) "knots_of" ["tree"] (yO n)
 |0=>(gu T.f_knots_of fun ds M Q ⟨t,_,h,_⟩=>by have:=gk t;(first|lia|omega)).mono (by first|lia|omega)
 |n+1=>by
  have F_knots_of:=wB T n
  have F_parts_of:=g9 (P:=P) (w:=w) (base:=base) T
  refine bW T.f_knots_of lV (fun ds M Q h=>?_) fun f cdv A outer s H E hr=>⟨_,(aq (aE (i:=1) lV.nd ak)
 (aq (fM PassesOwn.never rfl (aH F_parts_of (hr.mono (by first|lia|omega)) (ag (af 0) ah)) (bE (i:=2) lV.nd) (ax (Bt (i:=1) lV.nd (aH F_knots_of (hr.mono (by first|lia|omega)) (ag (af 2) ah)))))
 (ax (aG (af 1))))),fun ds M Q h=>?_⟩
  ·obtain ⟨t,rfl,_⟩:=h;rfl
  ·obtain ⟨t,rfl,hd,q⟩:=h
   rw [nO] at hd
   rw [xW] at q
   refine ⟨t,rfl,?_⟩
   refine ⟨fun i τ M'=>(∃v:Option D,τ=[some t.d,some (.int ((Tree.knotss (t.parts.take i)+1:Nat):Int)),v])∧M'=M,⟨⟨none,rfl⟩,rfl⟩,fun _ _ _ _ _=>trivial,?_,?_⟩
   ·rintro i d τ M' ed ⟨⟨v,rfl⟩,rfl⟩
    rw [List.getElem?_map] at ed
    cases e:t.parts[i]? with
    |none=>rw [e] at ed;cases ed
    |some p =>
     rw [e] at ed
     cases ed
     have h1:=fB e
     have h2:=kU _ _ _ e
     refine ⟨p,rfl,by first|lia|omega,⟨some p.d,?_⟩,rfl⟩
     rw [h2]
     show [_,some (D.int (((Tree.knotss (t.parts.take i)+1:Nat):Int)+(p.knots:Int))),_]=_
     have e3:(((Tree.knotss (t.parts.take i)+1:Nat):Int)+(p.knots:Int))=((Tree.knotss (t.parts.take i)+p.knots+1:Nat):Int):=by (first|lia|omega)
     rw [e3]
   ·rintro τ M' ⟨⟨v,rfl⟩,rfl⟩
    rw [List.length_map,List.take_length]
    exact dc q
theorem uS (T:Txt K mg):∀n:Nat,bu P w K mg base (n+1) "depth_of" ["tree"] (AW n)
 |0=>(gu T.f_depth_of fun ds M Q ⟨t,_,h,_⟩=>by have:=gk t;(first|lia|omega)).mono (by first|lia|omega)
 |n+1=>by
  have m_max:=T.m_max
  have F_depth_of:=uS T n
  have F_parts_of:=g9 (P:=P) (w:=w) (base:=base) T
  refine bW T.f_depth_of mB (fun ds M Q h=>?_) fun f cdv A outer s H E hr=>⟨_,(aq (aE (i:=1) mB.nd ak)
 (aq (fM PassesOwn.never rfl (aH F_parts_of (hr.mono (by first|lia|omega)) (ag (af 0) ah)) (bE (i:=2) mB.nd) (ax (aE (i:=1) mB.nd (cG (FF rfl) rfl m_max AN (ag (af 1) (ag (aH F_depth_of (hr.mono (by first|lia|omega)) (ag (af 2) ah)) ah))))))
 (ax (aG (aL bD (af 1) ak))))),fun ds M Q h=>?_⟩
  ·obtain ⟨t,rfl,_⟩:=h;rfl
  ·obtain ⟨t,rfl,hd,q⟩:=h
   rw [nO] at hd q
   refine ⟨t,rfl,?_⟩
   refine ⟨fun i τ M'=>(∃v:Option D,τ=[some t.d,some (.int ((Tree.depths (t.parts.take i):Nat):Int)),v])∧M'=M,⟨⟨none,rfl⟩,rfl⟩,fun _ _ _ _ _=>trivial,?_,?_⟩
   ·rintro i d τ M' ed ⟨⟨v,rfl⟩,rfl⟩
    rw [List.getElem?_map] at ed
    cases e:t.parts[i]? with
    |none=>rw [e] at ed;cases ed
    |some p =>
     rw [e] at ed
     cases ed
     have h1:=fB e
     have h2:=qN _ _ _ e
     refine ⟨p,rfl,by first|lia|omega,⟨some p.d,?_⟩,rfl⟩
     rw [h2]
     show [_,some (D.int (if (p.depth:Int) > ((Tree.depths (t.parts.take i):Nat):Int) then (p.depth:Int) else ((Tree.depths (t.parts.take i):Nat):Int))),_]=_
     have e3:(if (p.depth:Int) > ((Tree.depths (t.parts.take i):Nat):Int) then (p.depth:Int) else ((Tree.depths (t.parts.take i):Nat):Int))=((max (Tree.depths (t.parts.take i)) p.depth:Nat):Int):=by split<;>(first|lia|omega)
     rw [e3]
   ·rintro τ M' ⟨⟨v,rfl⟩,rfl⟩
    rw [List.length_map,List.take_length]
    refine dc ?_
    have e3:((Tree.depths t.parts:Nat):Int)+1=((Tree.depths t.parts+1:Nat):Int):=by (first|lia|omega)
    rw [e3]
    exact q
mutual
noncomputable def nums:Tree→List Int
 |.block _ ps=>bX ps
 |.blank k=>[k]
noncomputable def bX:List Tree→List Int
 |[]=>[]
 |t::ts=>nums t++bX ts
end
noncomputable def ins (ks:List Int) (n:Int):List Int:=if n∈ks then ks else ks++[n]
noncomputable def aB (ks ns:List Int):List Int:=ns.foldl ins ks
theorem oX (ks a b:List Int):aB ks (a++b)=aB (aB ks a) b:=by simp [aB]
theorem BP (ks:List Int) (n:Int):(ins ks n).length≤ks.length+1:=by unfold ins;split<;>simp
theorem fW:∀(ns ks:List Int),(aB ks ns).length≤ks.length+ns.length
 |[],ks=>Nat.le_refl _
 |n::ns,ks=>by
  have h1:=fW ns (ins ks n)
  have h2:=BP ks n
  show (aB (ins ks n) ns).length≤_
  rw [List.length_cons];(first|lia|omega)
mutual
theorem ij:∀t:Tree,(nums t).length≤t.knots
 |.block _ ps=>by rw [nums,Tree.knots];have:=mP ps;(first|lia|omega)
 |.blank _=>Nat.le_refl _
theorem mP:∀ts:List Tree,(bX ts).length≤Tree.knotss ts
 |[]=>Nat.le_refl _
 |t::ts=>by rw [bX,List.length_append,Tree.knotss];have:=ij t;have:=mP ts;(first|lia|omega)
end
theorem pV:∀(ts:List Tree) (i:Nat) (t:Tree),ts[i]?=some t→bX (ts.take (i+1))=bX (ts.take i)++nums t
 |[],_,_,e=>by simp at e
 |t::ts,0,_,e=>by simp at e;subst e;simp [bX]
 |t::ts,i+1,_,e=>by
  have:=pV ts i _ (by simpa using e)
  simp only [List.take_succ_cons,bX] at this ⊢
  rw [this,List.append_assoc]
theorem uV (ks:List Int) (n:Int):putD (ks.map fun k=>((Sum.inl k:Key),D.bl true)) (.inl n) (.bl true)=(ins ks n).map fun k=>((Sum.inl k:Key),D.bl true):=by
 have hv:(ba (ks.map fun k=>((Sum.inl k:Key),D.bl true)) (.inl n)).isSome=decide (n∈ks):=by
  rw [←g8,List.any_map]
  induction ks with
  |nil=>rfl
  |cons k ks ih =>
   rw [List.any_cons,ih]
   by_cases e:k=n
   ·subst e;simp
   ·have e':¬n=k:=fun z=>e z.symm
    simp [e,e']
 unfold ins
 by_cases h:n∈ks
 ·rw [BB _ (by rw [hv];exact decide_eq_true h),if_pos h,List.map_map]
  refine List.map_congr_left fun k _=>?_
  simp only [Function.comp]
  split<;>rfl
 ·rw [if_neg h,m9 _ (by have:=hv;rw [decide_eq_false h] at this;exact Option.isNone_iff_eq_none.mp (by simpa using this)),List.map_append]
  rfl
noncomputable def dk (ks:List Int):List (Key×D):=ks.map fun k=>((Sum.inl k:Key),D.bl true)
noncomputable def CJ (n:Nat):aS:=fun ds M Q=>∃(t:Tree) (l:Addr) (ks:List Int),ds=[t.d,.ref l]∧t.depth≤n∧M l=some (.dic (dk ks))∧ks.length+t.knots≤1000∧Q .non (aj M l (.dic (dk (aB ks (nums t)))))
theorem sW (T:Txt K mg):∀n:Nat,bu P w K mg base (n+1) "gather_blanks" ["tree", "found"] (CJ n)
 |0=>(gu T.f_gather_blanks fun ds M Q ⟨t,_,_,_,h,_⟩=>by have:=gk t;(first|lia|omega)).mono (by first|lia|omega)
 |n+1=>by
  have F_gather_blanks:=sW T n
  have F_parts_of:=g9 (P:=P) (w:=w) (base:=base) T
  refine bW T.f_gather_blanks uq (fun ds M Q h=>?_) fun f cdv A outer s H E hr=>⟨_,(aq (bz (bg (cv hr) (av (af 0) ak) aQ (bj _)) (ax (dq eJ (eU hr (af 1) (av (af 0) ak)))) bF)
 (ax (fM PassesOwn.never rfl (aH F_parts_of (hr.mono (by first|lia|omega)) (ag (af 0) ah)) (bE (i:=2) uq.nd) (ax (eh (aH F_gather_blanks (hr.mono (by first|lia|omega)) (ag (af 2) (ag (af 1) ah)))))))),fun ds M Q h=>?_⟩
  ·obtain ⟨t,l,ks,rfl,_⟩:=h;rfl
  ·obtain ⟨t,l,ks,rfl,hd,hl,hk,q⟩:=h
   cases t with
   |blank k =>
    refine ⟨_,_,rfl,hl,by unfold dk;rw [List.length_map];exact cC (by have:(Tree.blank k).knots=1:=rfl;(first|lia|omega)),?_⟩
    refine ⟨.blank k,rfl,?_⟩
    have e:putD (dk ks) (.inl k) (.bl true)=dk (aB ks (nums (.blank k))):=uV ks k
    refine ⟨fun _ τ M'=>M'=aj M l (.dic (dk (aB ks (nums (.blank k))))),by rw [←e],fun _ _ _ _ _=>trivial,fun i d τ M' ed=>?_,fun τ M' hW=>?_⟩
    ·simp [Tree.parts] at ed
    ·subst hW
     exact ⟨_,Sub.refl _,q⟩
   |block z ps =>
    rw [Tree.depth] at hd
    rw [Tree.knots] at hk
    refine ⟨.block z ps,rfl,?_⟩
    refine ⟨fun i τ M'=>(∃v:Option D,τ=[some (Tree.block z ps).d,some (.ref l),v])∧M'=aj M l (.dic (dk (aB ks (bX (ps.take i))))),⟨⟨none,rfl⟩,(iC hl).symm⟩,fun _ _ _ _ _=>trivial,?_,?_⟩
    ·rintro i d τ M' ed ⟨⟨v,rfl⟩,rfl⟩
     rw [List.getElem?_map] at ed
     cases e:(Tree.block z ps).parts[i]? with
     |none=>rw [e] at ed;cases ed
     |some p =>
      rw [e] at ed
      cases ed
      have e':ps[i]?=some p:=e
      have h1:=fB e'
      have h2:=kU _ _ _ e'
      have h3:=kW ps (i+1)
      have h4:=fW (bX (ps.take i)) ks
      have h5:=mP (ps.take i)
      refine ⟨p,l,_,rfl,by first|lia|omega,ar,by first|lia|omega,?_⟩
      rw [gC,←oX,←pV _ _ _ e']
      exact ⟨⟨_,rfl⟩,rfl⟩
    ·rintro τ M' ⟨⟨v,rfl⟩,rfl⟩
     have e:(((Tree.block z ps).parts.map Tree.d).length:Nat)=ps.length:=by rw [List.length_map];rfl
     rw [e,List.take_length]
     exact ⟨_,Sub.refl _,q⟩
noncomputable def Ij (n:Nat):aS:=fun ds M Q=>∃t:Tree,ds=[t.d]∧t.depth≤n∧t.knots≤1000∧∀l,M l=none→Q (.ref l) (aj M l (.lst ((aB [] (nums t)).map .int)))
theorem mH (T:Txt K mg) (n:Nat):bu P w K mg base (n+2) "blanks_of" ["tree"] (Ij n):=by
 have m_list:=T.m_list
 have F_gather_blanks:=sW (P:=P) (w:=w) (base:=base) T n
 refine bW T.f_blanks_of vM (fun ds M Q h=>?_) fun f cdv A outer s H E hr=>⟨_,(aq (aE (i:=1) vM.nd fq)
 (aq (eh (aH F_gather_blanks (hr.mono (by first|lia|omega)) (ag (af 0) (ag (af 1) ah))))
 (ax (aG (dX (pJ rfl) rfl m_list qr (ag (af 1) ah)))))),fun ds M Q h=>?_⟩
 ·obtain ⟨t,rfl,_⟩:=h;rfl
 ·obtain ⟨t,rfl,hd,hk,q⟩:=h
  show ∀p,M p=none→_
  intro p hp
  refine ⟨t,p,[],rfl,hd,ar,by simpa using hk,_,.inl ar,fun l hl=>?_⟩
  rw [gC] at hl ⊢
  obtain ⟨l1,l2⟩:=dA hl
  refine ⟨aj M l (.lst ((aB [] (nums t)).map .int)),fun a o e=>?_,q l l2⟩
  have em:(dk (aB [] (nums t))).map (fun kv=>gP kv.1)=(aB [] (nums t)).map D.int:=by unfold dk;rw [List.map_map];rfl
  rw [em]
  by_cases ha:a=l
  ·subst ha;rw [ar] at e ⊢;exact e
  ·rw [ay ha] at e ⊢
   rw [ay (by intro z;subst z;rw [hp] at e;cases e)]
   exact e
mutual
noncomputable def bC (f:Int→Option Tree):Tree→Tree
 |.block n ps=>.block n (gq f ps)
 |.blank k=>(f k).getD (.blank k)
noncomputable def gq (f:Int→Option Tree):List Tree→List Tree
 |[]=>[]
 |t::ts=>bC f t::gq f ts
end
theorem lT (f:Int→Option Tree):∀ts:List Tree,gq f ts=ts.map (bC f)
 |[]=>rfl
 |t::ts=>by rw [gq,lT f ts];rfl
noncomputable def pos:List Int→Int→Option Nat
 |[],_=>none
 |j::ks,k=>if j=k then some 0 else (pos ks k).map (·+1)
noncomputable def nameOf (ks:List Int) (k:Int):Option Tree:=(pos ks k).map fun i=>.blank ((i:Int)+1)
theorem pos_none:∀{ks:List Int} {k:Int},k ∉ ks→pos ks k=none
 |[],_,_=>rfl
 |j::ks,k,h=>by
  have h1:¬j=k:=fun z=>h (z▸List.mem_cons_self)
  unfold pos
  rw [if_neg h1,pos_none fun z=>h (List.mem_cons_of_mem _ z)]
  rfl
theorem BU {ks:List Int} {n k:Int}:k∈ins ks n↔k∈ks∨k=n:=by
 unfold ins
 by_cases h:n∈ks
 ·rw [if_pos h]
  exact ⟨.inl,fun z=>z.elim id fun z=>z▸h⟩
 ·rw [if_neg h];simp
theorem d8:∀{ns ks:List Int} {k:Int},k∈aB ks ns↔k∈ks∨k∈ns
 |[],ks,k=>by simp [aB]
 |n::ns,ks,k=>by
  show k∈aB (ins ks n) ns↔_
  rw [d8,BU,List.mem_cons,or_assoc]
theorem uv {ks:List Int} (n:Int) (h:ks.Nodup):(ins ks n).Nodup:=by
 unfold ins
 by_cases hn:n∈ks
 ·rw [if_pos hn];exact h
 ·rw [if_neg hn]
  refine List.nodup_append.mpr ⟨h,by simp,fun a ha b hb e=>?_⟩
  simp at hb
  subst hb e
  exact hn ha
theorem gX:∀{ns ks:List Int},ks.Nodup→(aB ks ns).Nodup
 |[],_,h=>h
 |n::ns,ks,h=>by show (aB (ins ks n) ns).Nodup;exact gX (uv n h)
noncomputable def plainT (t:Tree):Tree:=bC (nameOf (aB [] (nums t))) t
noncomputable def look (f:List (Int×Tree)) (k:Int):Option Tree:=(f.find? fun p=>decide (p.1=k)).map (·.2)
noncomputable def bQ (f:List (Int×Tree)):List (Key×D):=f.map fun p=>((Sum.inl p.1:Key),p.2.d)
theorem o9 (k:Int):∀f:List (Int×Tree),ba (bQ f) (.inl k)=(look f k).map Tree.d
 |[]=>rfl
 |p::f=>by
  have ih:=o9 k f
  by_cases e:p.1=k
  ·have e1:ba (bQ (p::f)) (.inl k)=some p.2.d:=fP (p:=((Sum.inl p.1:Key),p.2.d)) (by rw [e])
   rw [e1]
   unfold look
   rw [List.find?_cons,decide_eq_true e]
   rfl
  ·have e1:ba (bQ (p::f)) (.inl k)=ba (bQ f) (.inl k):=fS (p:=((Sum.inl p.1:Key),p.2.d)) fun z=>e (Sum.inl.inj z)
   rw [e1,ih]
   unfold look
   rw [List.find?_cons,decide_eq_false e]
theorem kP {f:List (Int×Tree)} {k:Int} {t:Tree} (h:look f k=none):putD (bQ f) (.inl k) t.d=bQ (f++[(k,t)]):=by
 rw [m9 _ (by rw [o9,h];rfl)]
 unfold bQ
 rw [List.map_append]
 rfl
noncomputable def nf:Nat→List Int→List (Int×Tree)
 |_,[]=>[]
 |c,k::ks=>(k,.blank (c:Int))::nf (c+1) ks
theorem oZ:∀(ks:List Int) (c:Nat),(nf c ks).length=ks.length
 |[],_=>rfl
 |k::ks,c=>by rw [nf,List.length_cons,oZ ks (c+1),List.length_cons]
theorem pF:∀(ks:List Int) (c:Nat) (k:Int),nf c (ks++[k])=nf c ks++[(k,.blank ((c+ks.length:Nat):Int))]
 |[],c,k=>rfl
 |j::ks,c,k=>by
  rw [List.cons_append,nf,pF ks (c+1) k,nf,List.cons_append,List.length_cons,show c+1+ks.length=c+(ks.length+1) by first|lia|omega]
theorem mw (k:Int):∀(ks:List Int) (c:Nat),look (nf c ks) k=(pos ks k).map fun i=>.blank ((i+c:Nat):Int)
 |[],_=>rfl
 |j::ks,c=>by
  have ih:=mw k ks (c+1)
  unfold look at ih ⊢
  unfold pos
  rw [nf,List.find?_cons]
  by_cases e:j=k
  ·rw [if_pos e,decide_eq_true e]
   simp
  ·rw [if_neg e,decide_eq_false e]
   simp only []
   rw [ih]
   cases pos ks k with
   |none=>rfl
   |some i=>simp only [Option.map_some];rw [show i+(c+1)=i+1+c by first|lia|omega]
theorem uz (ks:List Int):look (nf 1 ks)=nameOf ks:=by
 funext k
 rw [mw]
 unfold nameOf
 cases pos ks k with
 |none=>rfl
 |some i=>simp only [Option.map_some];rfl
mutual
theorem pL:∀t u:Tree,t.d=u.d→t=u
 |.block n ps,.block m qs,e=>by
  simp only [Tree.d,D.tup.injEq,List.cons.injEq,D.str.injEq,and_true,true_and] at e
  obtain ⟨e1,e2⟩:=e
  subst e1
  rw [wG ps qs e2]
 |.blank k,.blank j,e=>by
  simp only [Tree.d,D.tup.injEq,List.cons.injEq,D.int.injEq,and_true,true_and] at e
  rw [e]
 |.block n ps,.blank j,e=>by simp [Tree.d] at e
 |.blank k,.block m qs,e=>by simp [Tree.d] at e
theorem wG:∀ts us:List Tree,Tree.ds ts=Tree.ds us→ts=us
 |[],[],_=>rfl
 |[],_::_,e=>by simp [Tree.ds] at e
 |_::_,[],e=>by simp [Tree.ds] at e
 |t::ts,u::us,e=>by
  simp only [Tree.ds,List.cons.injEq] at e
  rw [pL t u e.1,wG ts us e.2]
end
open Classical in
noncomputable def mO (g:Tree→Tree) (d:D):Option D:=if h:∃t:Tree,t.d=d then some (g h.choose).d else none
theorem tP (g:Tree→Tree) (t:Tree):mO g t.d=some (g t).d:=by
 have h:∃u:Tree,u.d=t.d:=⟨t,rfl⟩
 unfold mO
 rw [dif_pos h,pL _ _ h.choose_spec]
theorem rY (g:Tree→Tree):∀ts:List Tree,(ts.map Tree.d).filterMap (mO g)=(ts.map g).map Tree.d
 |[]=>rfl
 |t::ts=>by rw [List.map_cons,List.filterMap_cons,tP,rY g ts];rfl
theorem gB {a:Option D} {d:D}:jf [none,a] [some d,a]:=⟨rfl,fun i x e=>by
 match i,e with
 |0,e=>cases e
 |1,e=>exact e
 |i+2,e=>simp at e⟩
noncomputable def vk (n:Nat):aS:=fun ds M Q=>∃(t:Tree) (l:Addr) (f:List (Int×Tree)),ds=[t.d,.ref l]∧t.depth≤n∧t.knots≤1000∧dP M l (bQ f)∧Q (bC (look f) t).d M
theorem v8 (f:List (Int×Tree)) (k:Int):(ba (bQ f) (.inl k)).getD (Tree.blank k).d=(bC (look f) (.blank k)).d:=by
 rw [o9,bC]
 cases look f k with
 |none=>rfl
 |some t=>rfl
theorem vY {M M':DH} {l:Addr} {ae:List (Key×D)} (h:dP M l ae) (s:Sub M M'):dP M' l ae:=h.elim (fun h=>.inl (s _ _ h)) fun h=>.inr (s _ _ h)
theorem kY (T:Txt K mg):∀n:Nat,bu P w K mg base (n+1) "exchanged" ["tree", "filling"] (vk n)
 |0=>(gu T.f_exchanged fun ds M Q ⟨t,_,_,_,h,_⟩=>by have:=gk t;(first|lia|omega)).mono (by first|lia|omega)
 |n+1=>by
  have m_tuple:=T.m_tuple
  have F_exchanged:=kY T n
  have F_parts_of:=g9 (P:=P) (w:=w) (base:=base) T
  refine bW T.f_exchanged pb (fun ds M Q h=>?_) fun f cdv A outer s H E hr=>⟨_,(aq (bz (bg (cv hr) (av (af 0) ak) aQ (bj _)) (ax (aG (sX hr (af 1) (av (af 0) ak) (af 0)))) bF)
 (aq (aE (i:=2) pb.nd (cq ah))
 (aq (fM PassesOwn.never rfl (aH F_parts_of (hr.mono (by first|lia|omega)) (ag (af 0) ah)) (bE (i:=3) pb.nd) (ax (eh (eM PySem.F.plainAttrs_list PySem.F.slot_list_append PySem.F.type_list_append i5 (af 2) (ag (aH F_exchanged (hr.mono (by first|lia|omega)) (ag (af 3) (ag (af 1) ah))) ah)))))
 (ax (aG (aM (ag aQ (ag (av (af 0) ak) (ag (dX iq rfl m_tuple hV (ag (af 2) ah)) ah))))))))),fun ds M Q h=>?_⟩
  ·obtain ⟨t,l,f,rfl,_⟩:=h;rfl
  ·obtain ⟨t,l,f,rfl,hd,hk,hl,q⟩:=h
   cases t with
   |blank k =>
    rw [←v8] at q
    exact ⟨⟨_,hl⟩,_,_,rfl,hl,dc q⟩
   |block z ps =>
    rw [Tree.depth] at hd
    rw [Tree.knots] at hk
    rw [bC,lT] at q
    show ∀p,M p=none→_
    intro p hp
    refine ⟨.block z ps,rfl,?_⟩
    refine ⟨fun i τ M'=>(∃v:Option D,τ=[some (Tree.block z ps).d,some (.ref l),some (.ref p),v])∧M'=aj M p (.lst (((ps.take i).map (bC (look f))).map Tree.d)),⟨⟨none,rfl⟩,rfl⟩,fun _ _ _ _ _=>trivial,?_,?_⟩
    ·rintro i d τ M' ed ⟨⟨v,rfl⟩,rfl⟩
     rw [List.getElem?_map] at ed
     cases e:(Tree.block z ps).parts[i]? with
     |none=>rw [e] at ed;cases ed
     |some u =>
      rw [e] at ed
      cases ed
      have e':ps[i]?=some u:=e
      have h1:=fB e'
      have h2:=nr e'
      have h3:=lL ps
      refine ⟨⟨rfl,_,ar⟩,u,l,f,rfl,by first|lia|omega,by first|lia|omega,vY hl (Sub.new hp),_,ar,?_,?_⟩
      ·rw [List.length_map,List.length_map,List.length_take];exact cC (by first|lia|omega)
      ·rw [gC]
       refine ⟨⟨_,rfl⟩,?_⟩
       rw [List.take_add_one,e',List.map_append,List.map_append]
       rfl
    ·rintro τ M' ⟨⟨v,rfl⟩,rfl⟩
     have e:(((Tree.block z ps).parts.map Tree.d).length:Nat)=ps.length:=by rw [List.length_map];rfl
     rw [e,List.take_length]
     refine ⟨_,ar,M,Sub.new hp,?_⟩
     rw [Tree.d,cy] at q
     exact q
noncomputable def Am (n:Nat):aS:=fun ds M Q=>∃t:Tree,ds=[t.d]∧t.depth≤n∧t.knots≤1000∧Q (plainT t).d M
theorem y9 (T:Txt K mg) (n:Nat):bu P w K mg base (n+3) "plain" ["tree"] (Am n):=by
 have m_enumerate:=T.m_enumerate
 have F_blanks_of:=mH (P:=P) (w:=w) (base:=base) T n
 have F_exchanged:=kY (P:=P) (w:=w) (base:=base) T n
 refine bW T.f_plain mX (fun ds M Q h=>?_) fun f cdv A outer s H E hr=>⟨_,(aq (aE (i:=1) mX.nd fq)
 (aq (HL PassesOwn.never rfl m_enumerate (ag (aH F_blanks_of (hr.mono (by first|lia|omega)) (ag (af 0) ah)) ah) (j5 rfl (eN (bE (i:=2) mX.nd) (eN (bE (i:=3) mX.nd) kF)) mq) (ax (dq (aM (ag aQ (ag (af 2) ah))) (eU hr (af 1) (af 3)))))
 (ax (aG (aH F_exchanged (hr.mono (by first|lia|omega)) (ag (af 0) (ag (af 1) ah))))))),fun ds M Q h=>?_⟩
 ·obtain ⟨t,rfl,_⟩:=h;rfl
 ·obtain ⟨t,rfl,hd,hk,q⟩:=h
  have hnd:(aB [] (nums t)).Nodup:=gX List.nodup_nil
  have hlen:(aB [] (nums t)).length≤1000:=by
   have h1:=fW (nums t) []
   have h2:=ij t
   simp only [List.length_nil] at h1
   (first|lia|omega)
  unfold plainT at q
  show ∀p,M p=none→_
  intro p hp
  refine ⟨t,rfl,hd,hk,fun l hl=>?_⟩
  obtain ⟨l1,l2⟩:=dA hl
  refine ⟨_,ar,fun i τ M'=>(∃v2 v3:Option D,τ=[some t.d,some (.ref p),v2,v3])∧M' l=some (.lst ((aB [] (nums t)).map .int))∧M' p=some (.dic (bQ (nf 1 ((aB [] (nums t)).take i))))∧Sub M M',⟨⟨none,none,rfl⟩,ar,by rw [ay (Ne.symm l1),ar];rfl,(Sub.new hp).trans (Sub.new hl)⟩,fun i τ M' _ hW=>hW.2.1,?_,?_⟩
  ·rintro i d τ M' ed ⟨⟨v2,v3,rfl⟩,hl',hp',hs'⟩
   have hi:i < (aB [] (nums t)).length:=by
    rcases Nat.lt_or_ge i (aB [] (nums t)).length with h|h
    ·exact h
    ·rw [List.getElem?_eq_none (by rw [eZ,List.length_map];exact h)] at ed;cases ed
   have e:(aB [] (nums t))[i]?=some (aB [] (nums t))[i]:=List.getElem?_eq_getElem hi
   have hni:(aB [] (nums t))[i] ∉ (aB [] (nums t)).take i:=by
    intro z
    have e1:(aB [] (nums t)).take (i+1)=(aB [] (nums t)).take i++[(aB [] (nums t))[i]]:=by rw [List.take_add_one,e];rfl
    have h2:((aB [] (nums t)).take (i+1)).Nodup:=hnd.sublist (List.take_sublist _ _)
    rw [e1] at h2
    exact (List.nodup_append.mp h2).2.2 _ z _ (by simp) rfl
   generalize (aB [] (nums t))[i]=k at e hni
   rw [jB (d:=.int k) (by rw [List.getElem?_map,e];rfl)] at ed
   cases ed
   refine ⟨_,_,rfl,hp',?_,⟨_,_,rfl⟩,by rw [ay l1];exact hl',?_,fX hs' hp⟩
   ·unfold bQ;rw [List.length_map,oZ,List.length_take];exact cC (by first|lia|omega)
   ·rw [ar]
    have e2:D.tup [.str "blank",.int ((1+i:Nat):Int)]=(Tree.blank ((1+i:Nat):Int)).d:=rfl
    have e3:=kP (f:=nf 1 ((aB [] (nums t)).take i)) (k:=k) (t:=.blank ((1+i:Nat):Int)) (by rw [mw,pos_none hni];rfl)
    have e4:nf 1 ((aB [] (nums t)).take (i+1))=nf 1 ((aB [] (nums t)).take i)++[(k,.blank ((1+i:Nat):Int))]:=by
     rw [List.take_add_one,e]
     show nf 1 ((aB [] (nums t)).take i++[k])=_
     rw [pF,List.length_take,show min i (aB [] (nums t)).length=i by first|lia|omega]
    rw [e4,←e3]
    rfl
  ·rintro τ M' ⟨⟨v2,v3,rfl⟩,hl',hp',hs'⟩
   rw [eZ,List.length_map,List.take_length] at hp'
   refine ⟨t,p,_,rfl,hd,hk,.inl hp',M,hs',?_⟩
   rw [uz]
   exact q
theorem ni:∀{f:List (Int×Tree)} {k:Int},k ∉ f.map (·.1)→look f k=none
 |[],_,_=>rfl
 |x::f,k,h=>by
  have h1:¬x.1=k:=fun z=>h (z▸List.mem_cons_self)
  have ih:=ni (f:=f) (k:=k) fun z=>h (List.mem_cons_of_mem _ z)
  unfold look at ih ⊢
  rw [List.find?_cons,decide_eq_false h1]
  exact ih
noncomputable def behind (f g:List (Int×Tree)):List (Int×Tree):=f.map (fun q=>(q.1,bC (look g) q.2))++g.filter fun q=>(look f q.1).isNone
section
variable {big step:Int} {t:Tree}
end
theorem um {α:Type} (xs:List α) (k:Nat):DL.cutD xs (some (k:Int)) none=xs.drop k:=by
 unfold DL.cutD
 rw [HT.GG,HT.jT]
 by_cases h:k≤xs.length
 ·rw [Nat.min_eq_left h,List.take_of_length_le (by rw [List.length_drop];(first|lia|omega))]
 ·rw [Nat.min_eq_right (by first|lia|omega),List.drop_length,List.drop_eq_nil_of_le (by first|lia|omega)];simp
noncomputable def C5:aS:=fun ds M Q=>∃(c:Int) (m:Nat),ds=[.int c,.int m]∧m≤100∧∀l (xs:List Int),M l=none→xs.length=m→(∀x∈xs,0≤x)→Q (.ref l) (aj M l (.lst (xs.map .int)))
theorem BL {M:DH} {a p:Addr} {o u:MO} (ha:M a=none) (hp:aj M a o p=none):Sub (aj M p u) (aj (aj M a o) p u):=fun c v e=>by
 by_cases z:c=p
 ·subst z;rw [ar] at e ⊢;exact e
 ·rw [ay z] at e
  rw [ay z,ay (by intro y;subst y;rw [ha] at e;cases e)];exact e
theorem w8 (T:Txt K mg):bu P w K mg base 1 "_law_stream" ["cell", "many"] C5:=by
 have m_range:=T.m_range
 refine bW T.f__law_stream kS (fun ds M Q h=>?_) fun f cdv A outer s H E hr=>⟨_,(aq (aE (i:=2) kS.nd (cq ah))
 (aq (aE (i:=3) kS.nd (aL d3 (af 0) ak))
 (aq (qz PassesOwn.never rfl m_range (ag (aL bD (af 1) ak) ah) (bE (i:=4) kS.nd) (aq (aE (i:=3) kS.nd (aL d3 (aL bD (aL bD (aL bD (aL j6 (af 3) (af 3)) (aL j6 ak (af 3))) (aL j6 ak (af 4))) ak) ak))
 (ax (eh (eM PySem.F.plainAttrs_list PySem.F.slot_list_append PySem.F.type_list_append i5 (af 2) (ag (af 3) ah))))))
 (ax (aG (gg fZ (af 2) (fC ak) jR)))))),fun ds M Q h=>?_⟩
 ·obtain ⟨c,m,rfl,_⟩:=h;rfl
 ·obtain ⟨c,m,rfl,hm,q⟩:=h
  show ∀l,M l=none→_
  intro l hl
  refine ⟨by show (0:Int) < 2147483647;decide,?_⟩
  refine ⟨⟨by first|lia|omega,by first|lia|omega⟩,fun i τ M'=>∃(xs:List Int) (x:Int) (v4:Option D),xs.length=i∧(∀y∈xs,0≤y)∧(0≤x∧x < 2147483647)∧M'=aj M l (.lst (xs.map .int))∧τ=[some (.int c),some (.int m),some (.ref l),some (.int x),v4],
   ⟨[],c % 2147483647,none,rfl,(fun y h=>by cases h),⟨Int.emod_nonneg _ (by decide),Int.emod_lt_of_pos _ (by decide)⟩,rfl,rfl⟩,?_,?_⟩
  ·rintro i τ M' hi ⟨xs,x,v4,hxl,hx0,hx,rfl,rfl⟩
   have hi':i < ((m:Int)+1).toNat:=hi
   refine ⟨.inl ⟨by first|lia|omega,by first|lia|omega⟩,.inl ⟨by decide,by decide⟩,.inl ⟨by decide,by decide⟩,by show (0:Int) < 2147483647;decide,?_⟩
   have hx2:0≤(x*x+48271*x+7*(i:Int)+11) % 2147483647:=Int.emod_nonneg _ (by decide)
   have hx3:(x*x+48271*x+7*(i:Int)+11) % 2147483647 < 2147483647:=Int.emod_lt_of_pos _ (by decide)
   refine ⟨⟨rfl,_,ar⟩,_,ar,by rw [List.length_map];exact cC (by first|lia|omega),xs++[(x*x+48271*x+7*(i:Int)+11) % 2147483647],_,_,by rw [List.length_append,hxl];rfl,fun y hy=>?_,⟨hx2,hx3⟩,?_,rfl⟩
   ·rcases List.mem_append.mp hy with hy|hy
    ·exact hx0 y hy
    ·cases List.mem_singleton.mp hy;exact hx2
   ·rw [gC,List.map_append];rfl
  ·rintro τ M' ⟨xs,x,v4,hxl,hx0,hx,rfl,rfl⟩
   refine ⟨_,ar,fun p hp=>?_⟩
   have ec:DL.cutD (xs.map D.int) (some 1) none=(xs.drop 1).map D.int:=by
    rw [show (1:Int)=((1:Nat):Int) from rfl,um,List.map_drop]
   rw [ec]
   refine ⟨_,BL hl hp,q p (xs.drop 1) (dA hp).2 ?_ fun y hy=>hx0 y (List.mem_of_mem_drop hy)⟩
   rw [List.length_drop,hxl]
   show ((m:Int)+1).toNat-1=m
   (first|lia|omega)
theorem sj:∀ys:List Str,(Str.join "" ys).length=(ys.map (·.length)).sum
 |[]=>rfl
 |[x]=>by show x.length=x.length+0;(first|lia|omega)
 |x::y::r=>by
  show (x++ "" ++Str.join "" (y::r)).length=x.length+((y::r).map (·.length)).sum
  rw [mz,mz,sj (y::r)]
  have:(Str.ofString "").length=0:=rfl
  show x.length+(Str.ofString "").length+_=_
  rw [this,Nat.add_zero]
theorem wW (ys:List Str):(Txt.join "" ys).length=(ys.map (·.length)).sum:=by
 show (Builtin.Str.glued "" ys).length=_
 rw [PySem.StrLaws.glued_eq_join]
 exact sj ys
noncomputable def DQ (xs:List D):Prop:=∃a b c d e:Str,xs=[.str a,.str b,.str c,.str d,.str e]∧a≠c
noncomputable def Dx:aS:=fun ds M Q=>∃c:Int,ds=[.int c]∧∀l xs,M l=none→DQ xs→Q (.ref l) (aj M l (.lst xs))
theorem gT {xs:List Int} {m k:Nat} (hl:xs.length=m) (hk:k < m) (h:∀x∈xs,0≤x):∃x,bA (xs.map D.int) (k:Int)=some (.int x)∧0≤x:=by
 have hk':k < xs.length:=by (first|lia|omega)
 refine ⟨xs[k],jE ?_,h _ (List.getElem_mem hk')⟩
 rw [List.getElem?_map,List.getElem?_eq_getElem hk'];rfl
noncomputable def qh (SM:Str):D→Option D
 |.int x=>(bA SM.cps.toList (x % 36)).map fun c=>.str ⟨#[c]⟩
 |_=>none
theorem oJ {SM:Str} (h:SM.cps.toList.length=36) (x:Int):∃c,bA SM.cps.toList (x % 36)=some c :=
 kJ (Int.emod_nonneg _ (by decide)) (by rw [h];exact Int.emod_lt_of_pos _ (by decide))
theorem rF {SM:Str} (h:SM.cps.toList.length=36):∀ys:List Int,∃zs:List Str,(ys.map D.int).filterMap (qh SM)=zs.map D.str∧zs.length=ys.length∧(zs.map (·.length)).sum=ys.length
 |[]=>⟨[],rfl,rfl,rfl⟩
 |y::ys=>by
  obtain ⟨zs,e1,e2,e3⟩:=rF h ys
  obtain ⟨c,hc⟩:=oJ h y
  refine ⟨⟨#[c]⟩::zs,?_,by rw [List.length_cons,List.length_cons,e2],?_⟩
  ·have eo:qh SM (.int y)=some (.str ⟨#[c]⟩):=by
    show (bA SM.cps.toList (y % 36)).map _=_
    rw [hc];rfl
   rw [List.map_cons,List.filterMap_cons,eo,List.map_cons,e1]
  ·rw [List.map_cons,List.sum_cons,e3,List.length_cons]
   show 1+ys.length=_;(first|lia|omega)
theorem Bj {xs:List Int} (h:xs.length=15):(DL.cutD xs (some 1) (some 12)).length=11:=by
 unfold DL.cutD
 rw [show (1:Int)=((1:Nat):Int) from rfl,show (12:Int)=((12:Nat):Int) from rfl,HT.jT,HT.jT,h,List.length_take,List.length_drop,h]
 rfl
theorem Bd {α β:Type} (g:α→β) (xs:List α) (lo hi:Option Int):DL.cutD (xs.map g) lo hi=(DL.cutD xs lo hi).map g:=by
 unfold DL.cutD
 rw [List.length_map,List.map_take,List.map_drop]
theorem Bw {a:Option D} {d:D}:jf [none,a] [some d,a]:=gB
theorem y2 (T:Txt K mg):bu P w K mg base 2 "_law_names" ["cell"] Dx:=by
 have F__law_stream:=w8 (P:=P) (w:=w) (base:=base) T
 refine bW T.f__law_names gO (fun ds M Q h=>?_) fun f cdv A outer s H E hr=>⟨_,(aq (aE (i:=1) gO.nd aQ)
 (aq (aE (i:=2) gO.nd (aH F__law_stream (hr.mono (by first|lia|omega)) (ag (af 0) (ag ak ah))))
 (aq (aE (i:=3) gO.nd (aL bD (av (af 1) (aL d3 (av (af 2) ak) ak)) (eM PySem.F.plainAttrs_str PySem.F.slot_str_join PySem.F.type_str_join HE aQ (ag (jN (Nc:=["x", "some"]) (js:=[none,some 1]) (dN ["cell", "some", "xs", "base", "at", "sign", "other"] (au gU).names rfl rfl rfl rfl (by decide +kernel) (by decide +kernel) (by decide +kernel) rfl (by decide +kernel)) rfl (gg fZ (af 2) (fC ak) (fC ak)) (fun C s H fp=>(bE (i:=0) (by show List.Nodup (["x", "some"]:List Str);decide +kernel))) (fun C s H fp=>Or.inl ⟨rfl,rfl⟩) (fun C s H fp=>(av (af 1) (aL d3 (af 0) ak)))) ah))))
 (aq (aE (i:=4) gO.nd (aL bD ak (aL d3 (av (af 2) ak) ak)))
 (aq (aE (i:=5) gO.nd (av (af 1) (aL d3 (aL bD (aL bD (eM PySem.F.plainAttrs_str PySem.F.slot_str_find PySem.F.type_str_find AE (af 1) (ag (av (af 3) (af 4)) ah)) ak) (aL d3 (av (af 2) ak) ak)) ak)))
 (aq (aE (i:=6) gO.nd (aL bD (aL bD (gg fZ (af 3) jR (fC (af 4))) (af 5)) (gg fZ (af 3) (fC (aL bD (af 4) ak)) jR)))
 (ax (aG (cq (ag (av (af 3) ak) (ag (gg fZ (af 3) jR (fC ak)) (ag (af 3) (ag (af 6) (ag (gg fZ (af 3) jR (fC (aL bD ak (af 4)))) ah)))))))))))))),fun ds M Q h=>?_⟩
 ·obtain ⟨c,rfl,_⟩:=h;rfl
 ·obtain ⟨c,rfl,q⟩:=h
  have hs36:=Hy
  have hs37:(Str.ofString "abcdefghijklmnopqrstuvwxyz0123456789").length≤sizeLine:=by decide +kernel
  dsimp only [DL.jt,DL.eO,DL.hName,DL.eC]
  generalize Str.ofString "abcdefghijklmnopqrstuvwxyz0123456789" = SM at *
  refine ⟨c,15,rfl,by decide,fun l xs hl hxl hx0=>?_⟩
  obtain ⟨x0,e0,p0⟩:=gT (k:=0) hxl (by decide) hx0
  obtain ⟨x12,e12,p12⟩:=gT (k:=12) hxl (by decide) hx0
  obtain ⟨x13,e13,p13⟩:=gT (k:=13) hxl (by decide) hx0
  obtain ⟨c0,hc0⟩:=kJ (xs:=SM.cps.toList) (i:=x0 % 26) (Int.emod_nonneg _ (by decide)) (by have:=Int.emod_lt_of_pos x0 (b:=26) (by decide);rw [hs36];(first|lia|omega))
  refine ⟨_,_,ar,e0,by show (0:Int) < 26;decide,hs37,c0,hc0,?_⟩
  refine ⟨rfl,_,ar,fun p hp=>?_⟩
  have ec:=Bd D.int xs (some 1) (some 12)
  have eln:=Bj hxl
  obtain ⟨zs,z1,z2,z3⟩:=rF hs36 (DL.cutD xs (some 1) (some 12))
  refine ⟨_,ar,⟨by rw [ec,List.length_map,eln];decide,qh SM,fun d hd p2 acc hp2=>?_,fun p2 hp2=>?_⟩⟩
  ·rw [ec] at hd
   obtain ⟨y,_,rfl⟩:=List.mem_map.mp hd
   obtain ⟨c,hc⟩:=oJ hs36 y
   exact ⟨Bw,by show (0:Int) < 36;decide,hs37,c,hc,rfl,by show (bA SM.cps.toList (y % 36)).map _=_;rw [hc];rfl⟩
  ·rw [ec,z1]
   have hbl:((⟨#[c0]⟩:Str)++Txt.join "" zs).length=12:=by rw [mz,wW,z3,eln];rfl
   refine ⟨zs,ar,by rw [z3,eln,z2,eln];decide,by rw [wW,z3,eln];show 1+11≤sizeLine;exact cL (by decide),?_⟩
   have hL:aj (aj (aj M l (.lst (xs.map .int))) p (.lst ((DL.cutD xs (some 1) (some 12)).map D.int))) p2 (.lst (zs.map D.str)) l=some (.lst (xs.map .int)):=Sub.new (by rw [←ec];exact hp2) _ _ (Sub.new hp _ _ ar)
   have hS:Sub M (aj (aj (aj M l (.lst (xs.map .int))) p (.lst ((DL.cutD xs (some 1) (some 12)).map D.int))) p2 (.lst (zs.map D.str))):=((Sub.new hl).trans (Sub.new hp)).trans (Sub.new (by rw [←ec];exact hp2))
   generalize aj (aj (aj M l (.lst (xs.map .int))) p (.lst ((DL.cutD xs (some 1) (some 12)).map D.int))) p2 (.lst (zs.map D.str))=M3 at *
   generalize (⟨#[c0]⟩:Str)++Txt.join "" zs=b at *
   have ha:1≤1+x12 % 11∧1+x12 % 11≤11:=by
    have h1:=Int.emod_nonneg x12 (b:=11) (by decide)
    have h2:=Int.emod_lt_of_pos x12 (b:=11) (by decide)
    (first|lia|omega)
   have hbs:b.length≤sizeLine:=cL (by first|lia|omega)
   have hbc:b.cps.toList.length=12:=by rw [Array.length_toList];exact hbl
   obtain ⟨ca,hca⟩:=kJ (xs:=b.cps.toList) (i:=1+x12 % 11) (by first|lia|omega) (by rw [hbc];(first|lia|omega))
   obtain ⟨cb,hcb⟩:=kJ (xs:=b.cps.toList) (i:=0) (by first|lia|omega) (by rw [hbc];decide)
   refine ⟨_,_,hL,e12,by show (0:Int) < 11;decide,?_⟩
   refine ⟨rfl,hbs,ca,hca,fun fi=>?_⟩
   obtain ⟨cs,hcs⟩:=oJ hs36 (fi+1+x13 % 35)
   refine ⟨_,_,hL,e13,by show (0:Int) < 35;decide,by show (0:Int) < 36;decide,hs37,cs,hcs,?_⟩
   generalize 1+x12 % 11=a at *
   have l1:=Txt.slice_le b none (some a)
   have l2:=Txt.slice_le b (some (a+1)) none
   refine ⟨hbs,?_⟩
   refine ⟨by show (Txt.slice b none (some a)).length+1≤sizeLine;exact cL (by first|lia|omega),hbs,by show (Txt.slice b none (some a)++(⟨#[cs]⟩:Str)).length+(Txt.slice b (some (a+1)) none).length≤sizeLine;rw [mz];show (Txt.slice b none (some a)).length+1+_≤sizeLine;exact cL (by first|lia|omega),?_⟩
   refine ⟨hbs,cb,hcb,hbs,hbs,?_⟩
   show ∀p,M3 p=none→_
   intro p3 hp3
   refine ⟨_,?_,q p3 [.str ⟨#[cb]⟩,.str (Txt.slice b none (some 2)),.str b,.str (Txt.slice b none (some a)++⟨#[cs]⟩++Txt.slice b (some (a+1)) none),.str (Txt.slice b none (some (1+a)))] ?_ ⟨_,_,_,_,_,rfl,fun z=>?_⟩⟩
   ·intro c v e
    by_cases z:c=p3
    ·subst z;rw [ar] at e ⊢;exact e
    ·rw [ay z] at e ⊢;exact hS c v e
   ·cases e:M p3 with
    |none=>rfl
    |some o=>rw [hS p3 o e] at hp3;cases hp3
   ·have h1:=congrArg Str.length z
    rw [hbl] at h1
    exact absurd h1 (by show ¬(1:Nat)=12;decide)
theorem qX (ks:List Int):(ks.map D.int).all D.flat=true:=by
 rw [List.all_eq_true]
 intro d hd
 obtain ⟨k,_,rfl⟩:=List.mem_map.mp hd
 rfl
theorem nU (T:Txt K mg):∀n:Nat,bu P w K mg base (n+1) "_law_filled" ["tree", "filling"] (vk n)
 |0=>(gu T.f__law_filled fun ds M Q ⟨t,_,_,_,h,_⟩=>by have:=gk t;(first|lia|omega)).mono (by first|lia|omega)
 |n+1=>by
  have m_tuple:=T.m_tuple
  have F__law_filled:=nU T n
  refine bW T.f__law_filled Ee (fun ds M Q h=>?_) fun f cdv A outer s H E hr=>⟨_,(aq (bz (bg (cv hr) (av (af 0) ak) aQ (bj _)) (ax (aG (sX hr (af 1) (av (af 0) ak) (af 0)))) bF)
 (ax (aG (aM (ag aQ (ag (av (af 0) ak) (ag (dX iq rfl m_tuple hV (ag (jN (Nc:=["part", "filling"]) (js:=[none,some 1]) (dN ["tree", "filling"] (au il).names rfl rfl rfl rfl (by decide +kernel) (by decide +kernel) (by decide +kernel) rfl (by decide +kernel)) rfl (av (af 0) ak) (fun C s H fp=>(bE (i:=0) (by show List.Nodup (["part", "filling"]:List Str);decide +kernel))) (fun C s H fp=>Or.inl ⟨rfl,rfl⟩) (fun C s H fp=>(aH F__law_filled (hr.mono (by first|lia|omega)) (ag (af 0) (ag (af 1) ah))))) ah)) ah))))))),fun ds M Q h=>?_⟩
  ·obtain ⟨t,l,f,rfl,_⟩:=h;rfl
  ·obtain ⟨t,l,f,rfl,hd,hk,hl,q⟩:=h
   cases t with
   |blank k =>
    rw [←v8] at q
    exact ⟨⟨_,hl⟩,_,_,rfl,hl,dc q⟩
   |block z ps =>
    rw [Tree.depth] at hd
    rw [Tree.knots] at hk
    rw [bC,lT] at q
    have h3:=lL ps
    refine ⟨by rw [cy,List.length_map];(first|lia|omega),mO (bC (look f)),?_,fun p hp=>?_⟩
    ·intro d hdm p acc hp
     rw [cy] at hdm
     obtain ⟨u,hu,rfl⟩:=List.mem_map.mp hdm
     obtain ⟨i,hi,e⟩:=List.getElem_of_mem hu
     have e':ps[i]?=some u:=by rw [List.getElem?_eq_getElem hi,e]
     have h1:=fB e'
     have h2:=nr e'
     exact ⟨gB,u,l,f,rfl,by first|lia|omega,by first|lia|omega,vY hl (Sub.new hp),rfl,tP _ u⟩
    ·rw [cy,rY]
     refine ⟨_,ar,M,Sub.new hp,?_⟩
     rw [Tree.d,cy] at q
     exact q
theorem kO {M M':DH} {p:Addr} (h:Sub M M') (hp:M' p=none):M p=none:=by
 cases e:M p with
 |none=>rfl
 |some o=>rw [h p o e] at hp;cases hp
theorem Ie (ks acc:List Int) (n:Int):ins (ks++acc.filter fun k=>decide (k ∉ ks)) n=ks++(ins acc n).filter fun k=>decide (k ∉ ks):=by
 unfold ins
 by_cases h1:n∈ks
 ·rw [if_pos (List.mem_append.mpr (.inl h1))]
  by_cases h2:n∈acc
  ·rw [if_pos h2]
  ·rw [if_neg h2,List.filter_append]
   have:[n].filter (fun k=>decide (k ∉ ks))=[]:=by simp [h1]
   rw [this,List.append_nil]
 ·by_cases h2:n∈acc
  ·rw [if_pos h2,if_pos (List.mem_append.mpr (.inr (List.mem_filter.mpr ⟨h2,by simpa using h1⟩)))]
  ·rw [if_neg h2,if_neg (fun z=>by
    rcases List.mem_append.mp z with z|z
    ·exact h1 z
    ·exact h2 (List.mem_filter.mp z).1),List.filter_append]
   have:[n].filter (fun k=>decide (k ∉ ks))=[n]:=by simp [h1]
   rw [this,List.append_assoc]
theorem qZ (ks:List Int):∀(ns acc:List Int),aB (ks++acc.filter fun k=>decide (k ∉ ks)) ns=ks++(aB acc ns).filter fun k=>decide (k ∉ ks)
 |[],acc=>rfl
 |n::ns,acc=>by
  show aB (ins (ks++acc.filter fun k=>decide (k ∉ ks)) n) ns=ks++(aB (ins acc n) ns).filter fun k=>decide (k ∉ ks)
  rw [Ie,qZ ks ns (ins acc n)]
theorem Ej (ks ns:List Int):ks++(aB [] ns).filter (fun k=>decide (k ∉ ks))=aB ks ns:=by
 have:=qZ ks ns []
 rw [List.filter_nil,List.append_nil] at this
 exact this.symm
noncomputable def lB (ks:List Int):D→Option D
 |.int k=>if k∈ks then none else some (.int k)
 |_=>none
theorem lS (ks:List Int):∀ns:List Int,(ns.map D.int).filterMap (lB ks)=(ns.filter fun k=>decide (k ∉ ks)).map D.int
 |[]=>rfl
 |n::ns=>by
  rw [List.map_cons,List.filterMap_cons]
  have e:lB ks (.int n)=if n∈ks then none else some (.int n):=rfl
  rw [e]
  by_cases h:n∈ks
  ·rw [if_pos h,lS ks ns,List.filter_cons_of_neg (by simpa using h)]
  ·rw [if_neg h,lS ks ns,List.filter_cons_of_pos (by simpa using h)];rfl
theorem any_ints (ks:List Int) (n:Int):((ks.map D.int).any fun y=>D.eq y (.int n))=decide (n∈ks):=by
 induction ks with
 |nil=>rfl
 |cons k ks ih =>
  rw [List.map_cons,List.any_cons,ih]
  have:D.eq (.int k) (.int n)=decide (k=n):=rfl
  rw [this]
  by_cases e:k=n
  ·subst e;simp
  ·have e':¬n=k:=fun z=>e z.symm
   simp [e,e']
noncomputable def CO (n:Nat):aS:=fun ds M Q=>∃t:Tree,ds=[t.d]∧t.depth≤n∧t.knots≤1000∧∀l,M l=none→Q (.ref l) (aj M l (.lst ((aB [] (nums t)).map .int)))
theorem xi (T:Txt K mg):∀n:Nat,bu P w K mg base (n+1) "_law_blanks" ["tree"] (CO n)
 |0=>(gu T.f__law_blanks fun ds M Q ⟨t,_,h,_⟩=>by have:=gk t;(first|lia|omega)).mono (by first|lia|omega)
 |n+1=>by
  have F__law_blanks:=xi T n
  refine bW T.f__law_blanks mv (fun ds M Q h=>?_) fun f cdv A outer s H E hr=>⟨_,(aq (bz (bg (cv hr) (av (af 0) ak) aQ (bj _)) (ax (aG (cq (ag (av (af 0) ak) ah)))) bF)
 (aq (aE (i:=1) mv.nd (cq ah))
 (aq (fM PassesOwn.never rfl (av (af 0) ak) (bE (i:=2) mv.nd) (ax (aE (i:=1) mv.nd (aL bD (af 1) (jN (Nc:=["k", "found"]) (js:=[none,some 1]) (dN ["tree", "found", "part"] (au hJ).names rfl rfl rfl rfl (by decide +kernel) (by decide +kernel) (by decide +kernel) rfl (by decide +kernel)) rfl (aH F__law_blanks (hr.mono (by first|lia|omega)) (ag (af 2) ah)) (fun C s H fp=>(bE (i:=0) (by show List.Nodup (["k", "found"]:List Str);decide +kernel))) (fun C s H fp=>Or.inr ⟨_,rfl,(bg (ou hr) (af 0) (af 1) (rfl))⟩) (fun C s H fp=>(af 0)))))))
 (ax (aG (af 1)))))),fun ds M Q h=>?_⟩
  ·obtain ⟨t,rfl,_⟩:=h;rfl
  ·obtain ⟨t,rfl,hd,hk,q⟩:=h
   cases t with
   |blank k =>
    show ∀p,M p=none→_
    intro p hp
    exact ⟨_,Sub.refl _,q p hp⟩
   |block z ps =>
    rw [Tree.depth] at hd
    rw [Tree.knots] at hk
    have h3:=lL ps
    show ∀p,M p=none→_
    intro p0 hp0
    refine ⟨fun i τ M'=>∃(a:Addr) (v2:Option D),M a=none∧M' a=some (.lst ((aB [] (bX (ps.take i))).map .int))∧Sub M M'∧τ=[some (Tree.block z ps).d,some (.ref a),v2],⟨p0,none,hp0,ar,Sub.new hp0,rfl⟩,fun _ _ _ _ _=>trivial,?_,?_⟩
    ·rintro i d τ M' ed ⟨a,v2,ha0,ha,hS,rfl⟩
     rw [cy,List.getElem?_map] at ed
     cases e:ps[i]? with
     |none=>rw [e] at ed;cases ed
     |some u =>
      rw [e] at ed
      cases ed
      have h1:=fB e
      have h2:=nr e
      have hl1:=fW (nums u) []
      have hl2:=ij u
      have hl3:=fW (bX (ps.take i)) []
      have hl4:=mP (ps.take i)
      have hl5:=kW ps i
      have hl6:=kU ps i u e
      have hl7:=kW ps (i+1)
      simp only [List.length_nil] at hl1 hl3
      refine ⟨u,rfl,by first|lia|omega,by first|lia|omega,fun lb hlb=>?_⟩
      have e4:aB [] (bX (ps.take (i+1)))=aB [] (bX (ps.take i))++(aB [] (nums u)).filter (fun k=>decide (k ∉ aB [] (bX (ps.take i)))):=by
       rw [pV ps i u e,oX,Ej]
      generalize aB [] (bX (ps.take i))=KS at *
      have hab:aj M' lb (.lst ((aB [] (nums u)).map .int)) a=some (.lst (KS.map .int)):=Sub.new hlb _ _ ha
      have hSb:Sub M (aj M' lb (.lst ((aB [] (nums u)).map .int))):=hS.trans (Sub.new hlb)
      refine ⟨_,ar,⟨by rw [List.length_map];(first|lia|omega),lB KS,fun d hd p acc hp=>?_,fun p hp=>?_⟩⟩
      ·obtain ⟨k,_,rfl⟩:=List.mem_map.mp hd
       refine ⟨gB,Or.inr ⟨_,Sub.new hp _ _ hab,rfl,qX _,?_⟩⟩
       rw [any_ints]
       show if (!decide (k∈KS))=true then _ else _
       by_cases c:k∈KS
       ·rw [decide_eq_true c];exact ⟨rfl,if_pos c⟩
       ·rw [decide_eq_false c];exact ⟨rfl,if_neg c⟩
      ·rw [lS]
       have hf:=List.length_filter_le (fun k=>decide (k ∉ KS)) (aB [] (nums u))
       refine ⟨_,_,Sub.new hp _ _ hab,ar,by rw [List.length_map,List.length_map];exact cL (by first|lia|omega),fun p2 hp2=>?_⟩
       have hSp:=hSb.trans (Sub.new (o:=.lst ((((aB [] (nums u)).filter fun k=>decide (k ∉ KS))).map D.int)) hp)
       refine ⟨p2,_,kO hSp hp2,?_,hSp.trans (Sub.new hp2),rfl⟩
       rw [ar,e4,List.map_append]
    ·rintro τ M' ⟨a,v2,ha0,ha,hS,rfl⟩
     have e:(Tree.ds ps).length=ps.length:=by rw [cy,List.length_map]
     rw [e,List.take_length] at ha
     exact ⟨aj M a (.lst ((aB [] (bX ps)).map .int)),fun c o ec=>by
      by_cases z:c=a
      ·subst z;rw [ar] at ec;rw [←ec];exact ha
      ·rw [ay z] at ec;exact hS c o ec,q a ha0⟩
noncomputable def kj (g:Int) (ks:List Int):Prop:=(ks=[]∧g=0)∨(g∈ks∧∀k∈ks,k≤g)
noncomputable def d6 (g:Int) (ks:List Int):List (Int×Tree):=ks.map fun k=>(k,.blank (k+g))
theorem D7 (g:Int) (ks:List Int):(d6 g ks).map (·.1)=ks:=by
 unfold d6;rw [List.map_map]
 exact List.map_id' ks
theorem uC {g:Int}:∀{ks:List Int} {k:Int},k∈ks→look (d6 g ks) k=some (.blank (k+g))
 |[],_,h=>nomatch h
 |a::ks,k,h=>by
  by_cases e:a=k
  ·subst e;simp [d6,look]
  ·have h':k∈ks:=by
    rcases List.mem_cons.mp h with h|h
    ·exact absurd h.symm e
    ·exact h
   have:=uC (g:=g) h'
   unfold look d6 at this ⊢
   rw [List.map_cons,List.find?_cons_of_neg (by simpa using e)]
   exact this
theorem Fn {g:Int} {ks:List Int} {i:Nat} {k:Int} (hn:ks.Nodup) (e:ks[i]?=some k):putD (bQ (d6 g (ks.take i))) (.inl k) (Tree.blank (k+g)).d=bQ (d6 g (ks.take (i+1))):=by
 have h1:k ∉ ks.take i:=by
  have h2:(ks.take (i+1)).Nodup:=hn.sublist (List.take_sublist _ _)
  rw [List.take_add_one,e] at h2
  intro z
  exact (List.nodup_append.mp h2).2.2 _ z _ (by simp) rfl
 rw [kP (ni (by rw [D7];exact h1)),List.take_add_one,e]
 unfold d6
 rw [List.map_append];rfl
theorem Ct {P:Int→Prop} {ns:List Int} (h:∀g,kj g ns→P g):(∀m,m∈ns→(∀k∈ns,k≤m)→P m)∧(ns=[]→P 0) :=
 ⟨fun m hm hb=>h m (.inr ⟨hm,hb⟩),fun e=>h 0 (.inl ⟨e,rfl⟩)⟩
noncomputable def Cr (n:Nat):aS:=fun ds M Q=>∃one other:Tree,ds=[one.d,other.d]∧(one.depth≤n∧one.knots≤900)∧(other.depth≤n∧other.knots≤900)∧∀g:Int,kj g (aB [] (nums one))→Q (bC (look (d6 g (aB [] (nums other)))) other).d M
theorem Hc (T:Txt K mg) (n:Nat):bu P w K mg base (n+4) "apart" ["one", "other"] (Cr n):=by
 have m_max:=T.m_max
 have F_blanks_of:=mH (P:=P) (w:=w) (base:=base) T n
 have F_exchanged:=kY (P:=P) (w:=w) (base:=base) T n
 refine bW T.f_apart mQ (fun ds M Q h=>?_) fun f cdv A outer s H E hr=>⟨_,(aq (aE (i:=2) mQ.nd (zB rfl m_max (ag (aH F_blanks_of (hr.mono (by first|lia|omega)) (ag (af 0) ah)) ah)))
 (aq (aE (i:=3) mQ.nd fq)
 (aq (fM PassesOwn.never rfl (aH F_blanks_of (hr.mono (by first|lia|omega)) (ag (af 1) ah)) (bE (i:=4) mQ.nd) (ax (dq (aM (ag aQ (ag (aL bD (af 4) (af 2)) ah))) (eU hr (af 3) (af 4)))))
 (ax (aG (aH F_exchanged (hr.mono (by first|lia|omega)) (ag (af 1) (ag (af 3) ah)))))))),fun ds M Q h=>?_⟩
 ·obtain ⟨one,other,rfl,_⟩:=h;rfl
 ·obtain ⟨one,other,rfl,⟨d1,k1⟩,⟨d2,k2⟩,q⟩:=h
  refine ⟨one,rfl,d1,by first|lia|omega,fun l1 hl1=>?_⟩
  refine ⟨_,ar,And.symm (Ct fun g hg=>?_)⟩
  have hS1:Sub M (aj M l1 (.lst ((aB [] (nums one)).map .int))):=Sub.new hl1
  generalize aj M l1 (.lst ((aB [] (nums one)).map .int))=M1 at *
  show ∀p,M1 p=none→_
  intro p hp
  refine ⟨other,rfl,d2,by first|lia|omega,fun lb hlb=>?_⟩
  have hn:(aB [] (nums other)).Nodup:=gX List.nodup_nil
  have hln:(aB [] (nums other)).length≤900:=by
   have h1:=fW (nums other) []
   have h2:=ij other
   simp only [List.length_nil] at h1
   (first|lia|omega)
  have hq:=q g hg
  generalize aB [] (nums other)=ks at *
  obtain ⟨pl,hlb1⟩:=dA hlb
  have hSb:Sub M (aj (aj M1 p (.dic [])) lb (.lst (ks.map .int))):=(hS1.trans (Sub.new hp)).trans (Sub.new hlb)
  refine ⟨_,ar,fun i τ M'=>∃v4:Option D,M' lb=some (.lst (ks.map .int))∧M' p=some (.dic (bQ (d6 g (ks.take i))))∧Sub M M'∧τ=[some one.d,some other.d,some (.int g),some (.ref p),v4],
   ⟨none,ar,by rw [ay (Ne.symm pl),ar];rfl,hSb,rfl⟩,fun i τ M' _ ⟨v4,h1,_⟩=>h1,?_,?_⟩
  ·rintro i d τ M' ed ⟨v4,h1,h2,h3,rfl⟩
   rw [List.getElem?_map] at ed
   cases e:ks[i]? with
   |none=>rw [e] at ed;cases ed
   |some k =>
    rw [e] at ed
    cases ed
    have hi:i < ks.length:=(List.getElem?_eq_some_iff.mp e).1
    refine ⟨_,_,rfl,h2,?_,?_⟩
    ·unfold bQ d6
     rw [List.length_map,List.length_map,List.length_take];exact cC (by first|lia|omega)
    ·refine ⟨_,by rw [ay pl];exact h1,?_,fX h3 (kO hS1 hp),rfl⟩
     rw [ar]
     exact congrArg (fun x=>some (MO.dic x)) (Fn hn e)
  ·rintro τ M' ⟨v4,h1,h2,h3,rfl⟩
   rw [List.length_map,List.take_length] at h2
   exact ⟨other,p,_,rfl,d2,by first|lia|omega,.inl h2,M,h3,hq⟩
noncomputable def great (t:Tree):Prop:=400 < t.knots∨60 < t.depth
noncomputable def sJ (mg:Str→Option Value) (t:Tree) (Q:Prop) (EX:Prop):Prop:=(great t→EX)∧(¬great t→Q)
noncomputable def C0 (mg:Str→Option Value):cZ:=fun ds M Q EX=>∃t:Tree,ds=[t.d]∧t.depth≤100∧sJ mg t (Q .non M) (EX (.ref (cl mg "TooLong")) M)
theorem A8 (T:Txt K mg):fz P w K mg base 102 "refuse_too_great" ["tree"] (C0 mg):=by
 obtain ⟨t_MOST_TOLD_DEPTH,g_MOST_TOLD_DEPTH⟩:=T.g_MOST_TOLD_DEPTH
 obtain ⟨t_MOST_TOLD_KNOTS,g_MOST_TOLD_KNOTS⟩:=T.g_MOST_TOLD_KNOTS
 have F_knots_of:=wB (P:=P) (w:=w) (base:=base) T 100
 have F_depth_of:=uS (P:=P) (w:=w) (base:=base) T 100
 refine oG T.f_refuse_too_great xD (fun ds M Q E h=>?_) fun f cdv A outer s H E EX hr hx hp=>⟨_,(aq (bz (bg jH (aH F_knots_of (hr.mono (by first|lia|omega)) (ag (af 0) ah)) (sF rfl g_MOST_TOLD_KNOTS ⟨_,rfl⟩) (bj _)) (ax (wx hx rfl (mi T) (ag aQ ah))) bF)
 (ax (bz (bg jH (aH F_depth_of (hr.mono (by first|lia|omega)) (ag (af 0) ah)) (sF rfl g_MOST_TOLD_DEPTH ⟨_,rfl⟩) (bj _)) (ax (wx hx rfl (mi T) (ag aQ ah))) bF))),fun ds M Q h=>?_⟩
 ·obtain ⟨t,rfl,_⟩:=h;rfl
 ·obtain ⟨t,rfl,hd,q1,q2⟩:=h
  refine ⟨t,rfl,hd,?_⟩
  show if decide ((400:Int) < (t.knots:Int))=true then _ else _
  by_cases c:400 < t.knots
  ·first|refine fO (show (400:Int) < (t.knots:Int) by first|lia|omega) ?_|rw [decide_eq_true (show (400:Int) < (t.knots:Int) by first|lia|omega),if_pos rfl]
   exact ⟨by show 1≤1000;decide,q1 (.inl c)⟩
  ·first|refine gD (show ¬(400:Int) < (t.knots:Int) by first|lia|omega) ?_|rw [decide_eq_false (show ¬(400:Int) < (t.knots:Int) by first|lia|omega),if_neg Bool.false_ne_true]
   refine ⟨t,rfl,hd,?_⟩
   show if decide ((60:Int) < (t.depth:Int))=true then _ else _
   by_cases c2:60 < t.depth
   ·first|refine fO (show (60:Int) < (t.depth:Int) by first|lia|omega) ?_|rw [decide_eq_true (show (60:Int) < (t.depth:Int) by first|lia|omega),if_pos rfl]
    exact ⟨by show 1≤1000;decide,q1 (.inr c2)⟩
   ·first|refine gD (show ¬(60:Int) < (t.depth:Int) by first|lia|omega) ?_|rw [decide_eq_false (show ¬(60:Int) < (t.depth:Int) by first|lia|omega),if_neg Bool.false_ne_true]
    exact ⟨M,Sub.refl M,q2 fun z=>by rcases z with z|z<;>(first|lia|omega)⟩
noncomputable def DS (mg:Str→Option Value):cZ:=fun ds M Q EX=>∃(t:Tree) (l:Addr) (f:List (Int×Tree)),ds=[t.d,.ref l]∧t.depth≤60∧t.knots≤1000∧dP M l (bQ f)∧(bC (look f) t).depth≤100∧sJ mg (bC (look f) t) (Q (bC (look f) t).d M) (EX (.ref (cl mg "TooLong")) M)
theorem Bf (T:Txt K mg):fz P w K mg base 103 "filled" ["tree", "filling"] (DS mg):=by
 have F_exchanged:=kY (P:=P) (w:=w) (base:=base) T 60
 have E_refuse_too_great:=A8 (P:=P) (w:=w) (base:=base) T
 refine oG T.f_filled rS (fun ds M Q E h=>?_) fun f cdv A outer s H E EX hr hx hp=>⟨_,(aq (aE (i:=2) rS.nd (aH F_exchanged (hr.mono (by first|lia|omega)) (ag (af 0) (ag (af 1) ah))))
 (aq (eh (p9 E_refuse_too_great hx.toXCame (hr.mono (by first|lia|omega)) (ag (af 2) ah)))
 (ax (aG (af 2))))),fun ds M Q h=>?_⟩
 ·obtain ⟨t,l,f,rfl,_⟩:=h;rfl
 ·obtain ⟨t,l,f,rfl,hd,hk,hl,h1,q1,q2⟩:=h
  exact ⟨t,l,f,rfl,hd,hk,hl,bC (look f) t,rfl,h1,fun c=>⟨M,Sub.refl M,q1 c⟩,fun c=>⟨M,Sub.refl M,q2 c⟩⟩
mutual
noncomputable def aN (φ:Int→Tree):Tree→Tree
 |.block n ps=>.block n (bN φ ps)
 |.blank k=>φ k
noncomputable def bN (φ:Int→Tree):List Tree→List Tree
 |[]=>[]
 |t::ts=>aN φ t::bN φ ts
end
theorem fU (φ:Int→Tree):∀ts:List Tree,bN φ ts=ts.map (aN φ)
 |[]=>rfl
 |t::ts=>by rw [bN,fU φ ts];rfl
mutual
theorem jl (f:Int→Option Tree):∀t:Tree,bC f t=aN (fun k=>(f k).getD (.blank k)) t
 |.block n ps=>by rw [bC,aN,v9 f ps]
 |.blank k=>by rw [bC,aN]
theorem v9 (f:Int→Option Tree):∀ts:List Tree,gq f ts=bN (fun k=>(f k).getD (.blank k)) ts
 |[]=>rfl
 |t::ts=>by rw [gq,bN,jl f t,v9 f ts]
end
noncomputable abbrev bo:=List (Int×List Int×Tree)
inductive Cl where
 |unlike (p:List Int)|twice (p q:List Int)
noncomputable def bT (sd:bo) (k:Int):Option (List Int×Tree):=(sd.find? fun q=>decide (q.1=k)).map (·.2)
open Classical in
noncomputable def du (t u:Tree):Bool:=decide (t=u)
theorem iT (t:Tree):du t t=true:=by unfold du;simp
theorem uM {t u:Tree} (h:t≠u):du t u=false:=by unfold du;simp [h]
theorem rg {t u:Tree} (h:du t u=true):t=u:=by unfold du at h;simpa using h
noncomputable def eD (p:List Int) (sd:bo) (k:Int) (u:Tree):Option Cl×bo:=match bT sd k with
 |none=>(none,sd++[(k,p,u)])
 |some q=>if du q.2 u then (none,sd) else (some (.twice q.1 p),sd)
mutual
noncomputable def bf (p:List Int) (sd:bo):Tree→Tree→Option Cl×bo
 |.blank k,u=>eD p sd k u
 |.block _ _,.blank _=>(some (.unlike p),sd)
 |.block n ps,.block m qs=>if n=m∧ps.length=qs.length then bK p 0 sd ps qs else (some (.unlike p),sd)
noncomputable def bK (p:List Int) (i:Nat) (sd:bo):List Tree→List Tree→Option Cl×bo
 |t::ts,u::us=>match bf (p++[(i:Int)]) sd t u with
  |(some c,s)=>(some c,s)
  |(none,s)=>bK p (i+1) s ts us
 |_,_=>(none,sd)
end
theorem qR (a b:bo) (k:Int):bT (a++b) k=(bT a k).or (bT b k):=by
 unfold bT
 rw [List.find?_append]
 cases List.find? (fun q=>decide (q.1=k)) a<;>simp
theorem yw (j:Int) (q:List Int×Tree) (k:Int):bT [(j,q)] k=if j=k then some q else none:=by
 unfold bT
 by_cases h:j=k<;>simp [h]
noncomputable def da (a b:bo):Prop:=∀k q,bT a k=some q→bT b k=some q
theorem da.refl (a:bo):da a a:=fun _ _ h=>h
theorem da.trans {a b c:bo} (h:da a b) (h':da b c):da a c:=fun k q e=>h' k q (h k q e)
theorem zo {p:List Int} {sd sd':bo} {k:Int} {u:Tree} (h:eD p sd k u=(none,sd')):da sd sd'∧∃q,bT sd' k=some (q,u):=by
 unfold eD at h
 cases e:bT sd k with
 |none =>
  rw [e] at h
  cases h
  refine ⟨fun j q ej=>?_,p,?_⟩
  ·rw [qR,ej];rfl
  ·rw [qR,e,yw,if_pos rfl];rfl
 |some q =>
  rw [e] at h
  simp only at h
  cases b:du q.2 u with
  |true =>
   rw [b,if_pos rfl] at h
   cases h
   exact ⟨da.refl _,q.1,by rw [e,←rg b]⟩
  |false=>rw [b,if_neg Bool.false_ne_true] at h;cases h
noncomputable def ir (sd:bo) (k:Int):Tree:=((bT sd k).map (·.2)).getD (.blank k)
theorem DI {sd:bo} {k:Int} {q:List Int} {u:Tree} (h:bT sd k=some (q,u)):ir sd k=u:=by unfold ir;rw [h];rfl
mutual
theorem oM:∀(t u:Tree) (p:List Int) (sd sd':bo),bf p sd t u=(none,sd')→da sd sd'∧∀s2,da sd' s2→aN (ir s2) t=u
 |.blank k,u,p,sd,sd',h=>by
  rw [bf] at h
  obtain ⟨h1,q,h2⟩:=zo h
  exact ⟨h1,fun s2 hs=>by rw [aN];exact DI (hs _ _ h2)⟩
 |.block n ps,.blank j,p,sd,sd',h=>by rw [bf] at h;cases h
 |.block n ps,.block m qs,p,sd,sd',h=>by
  rw [bf] at h
  by_cases e:n=m∧ps.length=qs.length
  ·rw [if_pos e] at h
   obtain ⟨h1,h2⟩:=wm ps qs p 0 sd sd' e.2 h
   exact ⟨h1,fun s2 hs=>by rw [aN,h2 s2 hs,e.1]⟩
  ·rw [if_neg e] at h;cases h
theorem wm:∀(ts us:List Tree) (p:List Int) (i:Nat) (sd sd':bo),ts.length=us.length→bK p i sd ts us=(none,sd')→da sd sd'∧∀s2,da sd' s2→bN (ir s2) ts=us
 |[],[],p,i,sd,sd',_,h=>by
  have e:bK p i sd [] []=(none,sd):=by rw [bK];simp
  rw [e] at h;cases h;exact ⟨da.refl _,fun _ _=>rfl⟩
 |[],_::_,_,_,_,_,e,_=>by cases e
 |_::_,[],_,_,_,_,e,_=>by cases e
 |t::ts,u::us,p,i,sd,sd',e,h=>by
  rw [bK] at h
  cases c:bf (p++[(i:Int)]) sd t u with
  |mk o s =>
   rw [c] at h
   cases o with
   |some x=>cases h
   |none =>
    obtain ⟨h1,h2⟩:=oM t u _ _ _ c
    obtain ⟨h3,h4⟩:=wm ts us p (i+1) s sd' (by simpa using e) h
    exact ⟨h1.trans h3,fun s2 hs=>by rw [bN,h2 s2 (h3.trans hs),h4 s2 hs]⟩
end
noncomputable def iY (φ:Int→Tree) (sd:bo):Prop:=∀q∈sd,q.2.2=φ q.1
theorem nV {sd:bo} {k:Int} {q:List Int×Tree} (h:bT sd k=some q):(k,q)∈sd:=by
 unfold bT at h
 cases e:sd.find? fun q=>decide (q.1=k) with
 |none=>rw [e] at h;cases h
 |some x =>
  rw [e] at h
  have h1:x.2=q:=Option.some.inj h
  have h2:x.1=k:=by simpa using List.find?_some e
  have h3:=List.mem_of_find?_eq_some e
  rw [←h1,←h2]
  exact h3
theorem rf {sd:bo} {k:Int}:bT sd k=none↔k ∉ sd.map (·.1):=by
 unfold bT
 rw [Option.map_eq_none_iff,List.find?_eq_none]
 simp only [decide_eq_true_eq,List.mem_map,not_exists,not_and]
noncomputable def cP (sd:bo):List Int:=sd.map (·.1)
theorem Ax {φ:Int→Tree} {p:List Int} {sd:bo} {k:Int} (h:iY φ sd):∃sd',eD p sd k (φ k)=(none,sd')∧iY φ sd'∧cP sd'=ins (cP sd) k:=by
 unfold eD
 cases e:bT sd k with
 |none =>
  refine ⟨_,rfl,fun q hq=>?_,?_⟩
  ·rcases List.mem_append.mp hq with hq|hq
   ·exact h q hq
   ·simp at hq;subst hq;rfl
  ·unfold cP ins
   rw [if_neg (rf.mp e),List.map_append];rfl
 |some q =>
  have h1:=h _ (nV e)
  simp only at h1 ⊢
  rw [h1,iT,if_pos rfl]
  refine ⟨_,rfl,h,?_⟩
  unfold cP ins
  rw [if_pos (List.mem_map_of_mem (f:=(·.1)) (nV e))]
mutual
theorem sU (φ:Int→Tree):∀(t:Tree) (p:List Int) (sd:bo),iY φ sd→∃sd',bf p sd t (aN φ t)=(none,sd')∧iY φ sd'∧cP sd'=aB (cP sd) (nums t)
 |.blank k,p,sd,h=>by rw [aN,bf];exact Ax h
 |.block n ps,p,sd,h=>by
  obtain ⟨s,h1,h2,h3⟩:=uQ φ ps p 0 sd h
  rw [aN,bf,if_pos ⟨rfl,(rj φ ps).symm⟩,h1]
  exact ⟨s,rfl,h2,h3⟩
theorem uQ (φ:Int→Tree):∀(ts:List Tree) (p:List Int) (i:Nat) (sd:bo),iY φ sd→∃sd',bK p i sd ts (bN φ ts)=(none,sd')∧iY φ sd'∧cP sd'=aB (cP sd) (bX ts)
 |[],p,i,sd,h=>⟨sd,by rw [bN,bK];simp,h,rfl⟩
 |t::ts,p,i,sd,h=>by
  obtain ⟨s,h1,h2,h3⟩:=sU φ t (p++[(i:Int)]) sd h
  obtain ⟨s',h4,h5,h6⟩:=uQ φ ts p (i+1) s h2
  refine ⟨s',?_,h5,by rw [h6,h3,bX,oX]⟩
  rw [bN,bK,h1]
  exact h4
theorem rj (φ:Int→Tree):∀ts:List Tree,(bN φ ts).length=ts.length
 |[]=>rfl
 |t::ts=>by rw [bN,List.length_cons,rj φ ts,List.length_cons]
end
theorem FV (t u:Tree):(bf [] [] t u).1=none↔∃φ,aN φ t=u:=by
 constructor
 ·intro h
  cases c:bf [] [] t u with
  |mk o s =>
   rw [c] at h
   have h':o=none:=h
   subst h'
   exact ⟨ir s,(oM t u _ _ _ c).2 s (da.refl s)⟩
 ·rintro ⟨φ,rfl⟩
  obtain ⟨s,h1,_⟩:=sU φ t [] [] (fun q hq=>by cases hq)
  rw [h1]
mutual
theorem rq:∀(t u:Tree) (p:List Int) (sd:bo),(bf p sd t u).2.length≤sd.length+t.knots
 |.blank k,u,p,sd=>by
  rw [bf]
  unfold eD
  cases bT sd k with
  |none=>simp [Tree.knots]
  |some q=>simp only;split<;>simp
 |.block n ps,.blank j,p,sd=>by rw [bf];simp
 |.block n ps,.block m qs,p,sd=>by
  rw [bf]
  split
  ·have:=oF ps qs p 0 sd
   rw [Tree.knots];(first|lia|omega)
  ·simp
theorem oF:∀(ts us:List Tree) (p:List Int) (i:Nat) (sd:bo),(bK p i sd ts us).2.length≤sd.length+Tree.knotss ts
 |[],us,p,i,sd=>by rw [bK]<;>simp
 |t::ts,[],p,i,sd=>by rw [bK]<;>simp
 |t::ts,u::us,p,i,sd=>by
  have h1:=rq t u (p++[(i:Int)]) sd
  rw [bK,Tree.knotss]
  cases c:bf (p++[(i:Int)]) sd t u with
  |mk o s =>
   rw [c] at h1
   cases o with
   |some x=>simp only at h1 ⊢;(first|lia|omega)
   |none =>
    have h2:=oF ts us p (i+1) s
    simp only at h1 ⊢
    (first|lia|omega)
end
theorem ka (p:List Int) (i:Nat) (sd:bo) (us:List Tree):bK p i sd [] us=(none,sd):=by rw [bK]<;>simp
theorem nK (p:List Int):∀(i:Nat) (ts us:List Tree) (j:Nat) (sd s:bo) (t u:Tree),bK p j sd (ts.take i) (us.take i)=(none,s)→ts[i]?=some t→us[i]?=some u →
  bK p j sd ts us=match bf (p++[((j+i:Nat):Int)]) s t u with
   |(some c,s')=>(some c,s')
   |(none,s')=>bK p (j+i+1) s' (ts.drop (i+1)) (us.drop (i+1))
 |0,t0::ts,u0::us,j,sd,s,t,u,h,e1,e2=>by
  rw [List.take_zero,ka] at h
  cases h
  simp at e1 e2
  subst e1 e2
  rw [bK]
  rfl
 |i+1,t0::ts,u0::us,j,sd,s,t,u,h,e1,e2=>by
  rw [List.take_succ_cons,List.take_succ_cons,bK] at h
  rw [bK]
  cases c:bf (p++[(j:Int)]) sd t0 u0 with
  |mk o s0 =>
   rw [c] at h
   cases o with
   |some x=>cases h
   |none =>
    have:=nK p i ts us (j+1) s0 s t u h (by simpa using e1) (by simpa using e2)
    simp only
    rw [this,show j+1+i=j+(i+1) by first|lia|omega]
    rfl
 |_,[],_,_,_,_,_,_,_,e1,_=>by simp at e1
 |_,_::_,[],_,_,_,_,_,_,_,e2=>by simp at e2
theorem Ed {p:List Int} {i:Nat} {ts us:List Tree} {sd s s':bo} {t u:Tree} (h:bK p 0 sd (ts.take i) (us.take i)=(none,s)) (e1:ts[i]?=some t) (e2:us[i]?=some u)
  (c:bf (p++[(i:Int)]) s t u=(none,s')):bK p 0 sd (ts.take (i+1)) (us.take (i+1))=(none,s'):=by
 have h1:((ts.take (i+1)).take i)=ts.take i:=by rw [List.take_take];congr 1;(first|lia|omega)
 have h2:((us.take (i+1)).take i)=us.take i:=by rw [List.take_take];congr 1;(first|lia|omega)
 rw [nK p i (ts.take (i+1)) (us.take (i+1)) 0 sd s t u (by rw [h1,h2];exact h) (by rw [List.getElem?_take,if_pos (Nat.lt_succ_self i)];exact e1) (by rw [List.getElem?_take,if_pos (Nat.lt_succ_self i)];exact e2),Nat.zero_add,c]
 simp only
 rw [List.drop_eq_nil_of_le (by rw [List.length_take];(first|lia|omega)),ka]
theorem AD {p:List Int} {i:Nat} {ts us:List Tree} {sd s s':bo} {t u:Tree} {x:Cl} (h:bK p 0 sd (ts.take i) (us.take i)=(none,s)) (e1:ts[i]?=some t) (e2:us[i]?=some u)
  (c:bf (p++[(i:Int)]) s t u=(some x,s')):bK p 0 sd ts us=(some x,s'):=by
 rw [nK p i ts us 0 sd s t u h e1 e2,Nat.zero_add,c]
mutual
theorem CZ (n:Nat):∀(t u:Tree) (p:List Int) (sd:bo),(∀q∈sd,q.2.2.depth≤n)→u.depth≤n→∀q∈(bf p sd t u).2,q.2.2.depth≤n
 |.blank k,u,p,sd,h,hu=>by
  rw [bf]
  unfold eD
  cases bT sd k with
  |none =>
   intro q hq
   rcases List.mem_append.mp hq with hq|hq
   ·exact h q hq
   ·simp at hq;subst hq;exact hu
  |some q=>simp only;split<;>exact h
 |.block m ps,.blank j,p,sd,h,hu=>by rw [bf];exact h
 |.block m ps,.block m' qs,p,sd,h,hu=>by
  rw [bf]
  split
  ·rw [Tree.depth] at hu
   exact oC n ps qs p 0 sd h (by first|lia|omega)
  ·exact h
theorem oC (n:Nat):∀(ts us:List Tree) (p:List Int) (i:Nat) (sd:bo),(∀q∈sd,q.2.2.depth≤n)→Tree.depths us≤n→∀q∈(bK p i sd ts us).2,q.2.2.depth≤n
 |[],us,p,i,sd,h,hu=>by rw [ka];exact h
 |t::ts,[],p,i,sd,h,hu=>by
  have e:bK p i sd (t::ts) []=(none,sd):=by rw [bK]<;>simp
  rw [e];exact h
 |t::ts,u::us,p,i,sd,h,hu=>by
  rw [Tree.depths] at hu
  have h1:=CZ n t u (p++[(i:Int)]) sd h (by first|lia|omega)
  rw [bK]
  cases c:bf (p++[(i:Int)]) sd t u with
  |mk o s =>
   rw [c] at h1
   cases o with
   |some x=>exact h1
   |none=>exact oC n ts us p (i+1) s h1 (by first|lia|omega)
end
mutual
theorem wD:∀t u:Tree,D.eqOk t.d u.d=true
 |.block n ps,.block m qs=>by simp only [Tree.d,D.eqOk,D.plain,D.eqOks,Bool.and_true,Bool.true_and];exact rT ps qs
 |.block n ps,.blank k=>by simp [Tree.d,D.eqOk,D.eqOks]
 |.blank k,.block n ps=>by simp [Tree.d,D.eqOk,D.eqOks]
 |.blank k,.blank j=>by simp [Tree.d,D.eqOk,D.eqOks]
theorem rT:∀ts us:List Tree,D.eqOks (Tree.ds ts) (Tree.ds us)=true
 |[],us=>by simp [Tree.ds,D.eqOks]
 |t::ts,[]=>by simp [Tree.ds,D.eqOks]
 |t::ts,u::us=>by simp only [Tree.ds,D.eqOks,wD t u,rT ts us,Bool.and_true]
end
mutual
theorem pR:∀t u:Tree,D.eq t.d u.d=true↔t=u
 |.block n ps,.block m qs=>by
  simp only [Tree.d,D.eq,D.eqs,Bool.and_true,Bool.and_eq_true,beq_iff_eq,Tree.block.injEq,xm ps qs]
  simp
 |.block n ps,.blank k=>by simp [Tree.d,D.eq,D.eqs]
 |.blank k,.block n ps=>by simp [Tree.d,D.eq,D.eqs]
 |.blank k,.blank j=>by simp [Tree.d,D.eq,D.eqs]
theorem xm:∀ts us:List Tree,D.eqs (Tree.ds ts) (Tree.ds us)=true↔ts=us
 |[],[]=>by simp [Tree.ds,D.eqs]
 |[],u::us=>by simp [Tree.ds,D.eqs]
 |t::ts,[]=>by simp [Tree.ds,D.eqs]
 |t::ts,u::us=>by simp only [Tree.ds,D.eqs,Bool.and_eq_true,pR t u,xm ts us,List.cons.injEq]
end
theorem Fd (t u:Tree):D.eq t.d u.d=du t u:=by
 cases h:du t u with
 |true=>exact (pR t u).mpr (rg h)
 |false =>
  cases e:D.eq t.d u.d with
  |false=>rfl
  |true=>rw [(pR t u).mp e,iT] at h;cases h
mutual
theorem oV:∀t:Tree,D.dep t.d≤2*t.depth
 |.block n ps=>by
  have:=vJ ps
  simp only [Tree.d,D.dep,D.deps,Tree.depth];(first|lia|omega)
 |.blank k=>by simp [Tree.d,D.dep,D.deps,Tree.depth]
theorem vJ:∀ts:List Tree,D.deps (Tree.ds ts)≤2*Tree.depths ts
 |[]=>by simp [Tree.ds,D.deps]
 |t::ts=>by
  have h1:=oV t
  have h2:=vJ ts
  simp only [Tree.ds,D.deps,Tree.depths];(first|lia|omega)
end
theorem rm (t u:Tree):∃xs ys:List D,t.d=.tup xs∧u.d=.tup ys∧D.eqOks xs ys=true∧D.deps xs≤2*t.depth∧D.eqs xs ys=du t u:=by
 have h1:=wD t u
 have h2:=Fd t u
 have h3:=oV t
 have h4:∃xs,t.d=.tup xs:=by cases t<;>exact ⟨_,rfl⟩
 have h5:∃xs,u.d=.tup xs:=by cases u<;>exact ⟨_,rfl⟩
 obtain ⟨xs,ex⟩:=h4
 obtain ⟨ys,ey⟩:=h5
 rw [ex,ey] at h1 h2
 rw [ex,D.dep] at h3
 exact ⟨xs,ys,ex,ey,by simpa [D.eqOk] using h1,by first|lia|omega,by simpa [D.eq] using h2⟩
theorem xj:∀{sd:bo} {i:Nat} {x:Int×List Int×Tree},(cP sd).Nodup→sd[i]?=some x→bT sd x.1=some x.2
 |[],_,_,_,e=>by simp at e
 |y::sd,0,x,_,e=>by simp at e;subst e;unfold bT;rw [List.find?_cons,decide_eq_true rfl];rfl
 |y::sd,i+1,x,h,e=>by
  unfold cP at h
  rw [List.map_cons,List.nodup_cons] at h
  have e':sd[i]?=some x:=by simpa using e
  have hne:¬y.1=x.1:=fun z=>h.1 (z▸List.mem_map_of_mem (f:=(·.1)) (List.mem_of_getElem? e'))
  have ih:=xj h.2 e'
  unfold bT at ih ⊢
  rw [List.find?_cons,decide_eq_false hne]
  exact ih
theorem qT:∀(ts:List Tree) (i:Nat),Tree.depths (ts.take i)≤Tree.depths ts
 |[],i=>by simp
 |t::ts,0=>by simp [Tree.depths]
 |t::ts,i+1=>by have:=qT ts i;simp only [List.take_succ_cons,Tree.depths];(first|lia|omega)
noncomputable def tupI (p:List Int):D:=.tup (p.map .int)
noncomputable def cE (sd:bo):List (Key×D):=sd.map fun q=>((Sum.inl q.1:Key),D.tup [tupI q.2.1,q.2.2.d])
theorem ph (sd:bo):(cE sd).length=sd.length:=by unfold cE;rw [List.length_map]
theorem kg (k:Int):∀sd:bo,ba (cE sd) (.inl k)=(bT sd k).map fun q=>D.tup [tupI q.1,q.2.d]
 |[]=>rfl
 |q::sd=>by
  have ih:=kg k sd
  by_cases e:q.1=k
  ·have e1:ba (cE (q::sd)) (.inl k)=some (.tup [tupI q.2.1,q.2.2.d]):=fP (p:=((Sum.inl q.1:Key),D.tup [tupI q.2.1,q.2.2.d])) (by rw [e])
   rw [e1]
   unfold bT
   rw [List.find?_cons,decide_eq_true e]
   rfl
  ·have e1:ba (cE (q::sd)) (.inl k)=ba (cE sd) (.inl k):=fS (p:=((Sum.inl q.1:Key),D.tup [tupI q.2.1,q.2.2.d])) fun z=>e (Sum.inl.inj z)
   rw [e1,ih]
   unfold bT
   rw [List.find?_cons,decide_eq_false e]
noncomputable def sC:Option Cl→D
 |none=>.non
 |some (.unlike p)=>.tup [.str "unlike",tupI p]
 |some (.twice p q)=>.tup [.str "twice",tupI p,tupI q]
noncomputable def A5:aS:=fun ds M Q=>∃(k:Int) (u:Tree) (p:List Int) (l:Addr) (sd:bo),ds=[.int k,u.d,tupI p,.ref l]∧M l=some (.dic (cE sd))∧sd.length≤900∧(∀q∈sd,q.2.2.depth≤70)∧Q (sC (eD p sd k u).1) (aj M l (.dic (cE (eD p sd k u).2)))
theorem As (T:Txt K mg):bu P w K mg base 1 "blank_clash" ["number", "tree", "place", "stood"] A5:=by
 refine bW T.f_blank_clash tE (fun ds M Q h=>?_) fun f cdv A outer s H E hr=>⟨_,(aq (bz (bg (ou hr) (af 0) (af 3) (rfl)) (aq (dq (aM (ag (af 2) (ag (af 1) ah))) (eU hr (af 3) (af 0)))
 (ax (aG cF))) bF)
 (aq (aE (i:=4) tE.nd (iJ hr (af 3) (af 0)))
 (aq (bz (bg (cv hr) (av (af 4) ak) (af 1) (bj _)) (ax (aG cF)) bF)
 (ax (aG (aM (ag aQ (ag (av (af 4) ak) (ag (af 2) ah))))))))),fun ds M Q h=>?_⟩
 ·obtain ⟨k,u,p,l,sd,rfl,_⟩:=h;rfl
 ·obtain ⟨k,u,p,l,sd,rfl,hl,hlen,hd,q⟩:=h
  refine Or.inl ⟨_,_,rfl,.inl hl,?_⟩
  unfold eD at q
  rw [kg]
  cases e:bT sd k with
  |some q0 =>
   rw [e] at q
   simp only at q
   refine ⟨_,_,_,rfl,.inl hl,by rw [kg,e];rfl,?_⟩
   obtain ⟨xs,ys,hx,hy,a1,a2,a3⟩:=rm q0.2 u
   have hd0:=hd _ (nV e)
   show xk q0.2.d u.d M _
   rw [hx,hy]
   refine ⟨a1,by simp only at hd0;(first|lia|omega),?_⟩
   rw [a3]
   cases b:du q0.2 u with
   |true =>
    rw [b,if_pos rfl,iC hl] at q
    exact ⟨M,Sub.refl M,q⟩
   |false =>
    rw [b,if_neg Bool.false_ne_true,iC hl] at q
    exact ⟨M,Sub.refl M,q⟩
  |none =>
   rw [e] at q
   simp only at q
   refine ⟨_,_,rfl,hl,by rw [ph];exact cC (by first|lia|omega),?_⟩
   have e2:putD (cE sd) (.inl k) (.tup [tupI p,u.d])=cE (sd++[(k,p,u)]):=by
    rw [m9 _ (by rw [kg,e];rfl)];unfold cE;rw [List.map_append];rfl
   rw [←e2] at q
   exact ⟨_,Sub.refl _,q⟩
noncomputable def eS:Tree→Tree→Bool
 |.block n ps,.block m qs=>decide (n=m) && decide (ps.length=qs.length)
 |_,_=>false
theorem mj (n m:Str) (ps qs:List Tree):eS (.block n ps) (.block m qs)=(decide (n=m) && decide (ps.length=qs.length)):=rfl
noncomputable def AH:aS:=fun ds M Q=>∃t u:Tree,ds=[t.d,u.d]∧Q (.bl (eS t u)) M
theorem qK (T:Txt K mg):bu P w K mg base 2 "same_head" ["one", "other"] AH:=by
 have m_len:=T.m_len
 have F_parts_of:=g9 (P:=P) (w:=w) (base:=base) T
 refine bW T.f_same_head Hm (fun ds M Q h=>?_) fun f cdv A outer s H E hr=>⟨_,(aq (bz (PW.pt (lq (bg (cv hr) (av (af 0) ak) aQ (bj _)) (lK (bg (cv hr) (av (af 1) ak) aQ (bj _))))) (ax (aG eJ)) bF)
 (ax (aG (we (jY (cv hr) (av (af 0) ak) (av (af 1) ak) (bj _)) (tY (jY (cv hr) (cG dn rfl m_len df (ag (aH F_parts_of (hr.mono (by first|lia|omega)) (ag (af 0) ah)) ah)) (cG dn rfl m_len df (ag (aH F_parts_of (hr.mono (by first|lia|omega)) (ag (af 1) ah)) ah)) (bj _))))))),fun ds M Q h=>?_⟩
 ·obtain ⟨t,u,rfl,_⟩:=h;rfl
 ·obtain ⟨t,u,rfl,q⟩:=h
  cases t with
  |blank k=>exact dc q
  |block n ps=>cases u with
   |blank k=>exact dc q
   |block m qs =>
    show if decide (n=m)=true then _ else _
    by_cases e:n=m
    ·first|refine fO e ?_|rw [decide_eq_true e,if_pos rfl]
     refine ⟨.block n ps,rfl,.block m qs,rfl,?_⟩
     have e1:(fo Q).rt (.bl (decide ((((ps.map Tree.d).length:Nat):Int)=(((qs.map Tree.d).length:Nat):Int)))) M:=by
      rw [List.length_map,List.length_map]
      have e2:decide (((ps.length:Nat):Int)=((qs.length:Nat):Int))=eS (.block n ps) (.block m qs):=by
       rw [mj,decide_eq_true e,Bool.true_and]
       by_cases e3:ps.length=qs.length
       ·rw [decide_eq_true e3,decide_eq_true (by rw [e3])]
       ·rw [decide_eq_false e3,decide_eq_false (by first|lia|omega)]
      rw [e2];exact dc q
     exact e1
    ·first|refine gD e ?_|rw [decide_eq_false e,if_neg Bool.false_ne_true]
     have e2:eS (.block n ps) (.block m qs)=false:=by rw [mj,decide_eq_false e,Bool.false_and]
     rw [e2] at q
     exact dc q
noncomputable def A4 (n:Nat):aS:=fun ds M Q=>∃(t u:Tree) (p:List Int) (l:Addr) (sd:bo),ds=[t.d,u.d,tupI p,.ref l]∧t.depth≤n∧t.knots+sd.length≤900∧p.length+t.depth≤900∧u.depth≤70∧(∀q∈sd,q.2.2.depth≤70)∧M l=some (.dic (cE sd))∧Q (sC (bf p sd t u).1) (aj M l (.dic (cE (bf p sd t u).2)))
theorem tL (T:Txt K mg):∀n:Nat,bu P w K mg base (n+2) "clash_from" ["form", "tree", "place", "stood"] (A4 n)
 |0=>(gu T.f_clash_from fun ds M Q ⟨t,_,_,_,_,_,h,_⟩=>by have:=gk t;(first|lia|omega)).mono (by first|lia|omega)
 |n+1=>by
  have m_enumerate:=T.m_enumerate
  have F_clash_from:=tL T n
  have F_parts_of:=g9 (P:=P) (w:=w) (base:=base) T
  have F_blank_clash:=As (P:=P) (w:=w) (base:=base) T
  have F_same_head:=qK (P:=P) (w:=w) (base:=base) T
  refine bW T.f_clash_from kh (fun ds M Q h=>?_) fun f cdv A outer s H E hr=>⟨_,(aq (bz (bg (cv hr) (av (af 0) ak) aQ (bj _)) (ax (aG (aH F_blank_clash (hr.mono (by first|lia|omega)) (ag (av (af 0) ak) (ag (af 1) (ag (af 2) (ag (af 3) ah))))))) bF)
 (aq (bz (zL (mJ (aH F_same_head (hr.mono (by first|lia|omega)) (ag (af 0) (ag (af 1) ah))))) (ax (aG (aM (ag aQ (ag (af 2) ah))))) bF)
 (aq (aE (i:=4) kh.nd (aH F_parts_of (hr.mono (by first|lia|omega)) (ag (af 1) ah)))
 (aq (BV PassesOwn.never rfl m_enumerate (ag (aH F_parts_of (hr.mono (by first|lia|omega)) (ag (af 0) ah)) ah) (j5 rfl (eN (bE (i:=5) kh.nd) (eN (bE (i:=6) kh.nd) kF)) mq) (aq (aE (i:=7) kh.nd (aH F_clash_from (hr.mono (by first|lia|omega)) (ag (af 6) (ag (av (af 4) (af 5)) (ag (aL bD (af 2) (aM (ag (af 5) ah))) (ag (af 3) ah))))))
 (ax (bz (bg iK (af 7) cF (bj _)) (ax (aG (af 7))) bF))))
 (ax (aG cF)))))),fun ds M Q h=>?_⟩
  ·obtain ⟨t,u,p,l,sd,rfl,_⟩:=h;rfl
  ·obtain ⟨t,u,p,l,sd,rfl,hd,hk,hp,hu,hsd,hl,q⟩:=h
   cases t with
   |blank k =>
    have hk':1+sd.length≤900:=hk
    rw [bf] at q
    exact ⟨k,u,p,l,sd,rfl,hl,by first|lia|omega,hsd,_,Sub.refl _,q⟩
   |block z ps =>
    rw [Tree.depth] at hd hp
    rw [Tree.knots] at hk
    refine ⟨.block z ps,u,rfl,?_⟩
    cases u with
    |blank j =>
     rw [bf,iC hl] at q
     exact ⟨M,Sub.refl M,q⟩
    |block z' qs =>
     rw [Tree.depth] at hu
     rw [bf] at q
     by_cases hh:z=z'∧ps.length=qs.length
     ·have hb:eS (.block z ps) (.block z' qs)=true:=by rw [mj,decide_eq_true hh.1,decide_eq_true hh.2];rfl
      rw [hb]
      rw [if_pos hh] at q
      refine ⟨.block z' qs,rfl,.block z ps,rfl,?_⟩
      refine ⟨fun i τ M'=>∃(sd':bo) (v5 v6 v7:Option D),bK p 0 sd (ps.take i) (qs.take i)=(none,sd')∧τ=[some (Tree.block z ps).d,some (Tree.block z' qs).d,some (tupI p),some (.ref l),some (.tup (qs.map Tree.d)),v5,v6,v7]∧M'=aj M l (.dic (cE sd')),⟨sd,none,none,none,by rw [List.take_zero,ka],rfl,(iC hl).symm⟩,fun _ _ _ _ _=>trivial,?_,?_⟩
      ·rintro i d τ M' ed ⟨sd',v5,v6,v7,hc,rfl,rfl⟩
       have hi:i < ps.length:=by
        rcases Nat.lt_or_ge i ps.length with h|h
        ·exact h
        ·rw [List.getElem?_eq_none (by rw [eZ,List.length_map];exact h)] at ed;cases ed
       have e:ps[i]?=some ps[i]:=List.getElem?_eq_getElem hi
       generalize ps[i]=t at e
       have e':qs[i]?=some (qs[i]'(by first|lia|omega)):=List.getElem?_eq_getElem _
       generalize qs[i]'(by first|lia|omega)=u at e'
       rw [jB (d:=t.d) (by rw [List.getElem?_map];show Option.map Tree.d ps[i]?=_;rw [e];rfl)] at ed
       cases ed
       have h1:=fB e
       have h1':=fB e'
       have h2:=kU _ _ _ e
       have h3:=kW ps (i+1)
       have h4:=oF (ps.take i) (qs.take i) p 0 sd
       have h5:=oC 70 (ps.take i) (qs.take i) p 0 sd hsd (Nat.le_trans (qT qs i) (by first|lia|omega))
       rw [hc] at h4 h5
       simp only at h4 h5
       show fK (bA (qs.map Tree.d) ((0+i:Nat):Int)) _
       rw [jE (v:=u.d) (by rw [Nat.zero_add,List.getElem?_map,e'];rfl)]
       have ep:D.tup (p.map D.int++[D.int ((0+i:Nat):Int)])=tupI (p++[(i:Int)]):=by unfold tupI;rw [List.map_append,Nat.zero_add];rfl
       show (p.map D.int).length+1≤sizeLine∧_
       refine ⟨by rw [List.length_map];exact cL (by first|lia|omega),t,u,_,l,sd',by rw [←ep],by first|lia|omega,by first|lia|omega,by rw [List.length_append];simp;(first|lia|omega),by first|lia|omega,h5,ar,?_⟩
       rw [gC]
       cases c:bf (p++[(i:Int)]) sd' t u with
       |mk o s' =>
        cases o with
        |none=>exact ⟨s',_,_,_,Ed hc e e' c,rfl,rfl⟩
        |some x =>
         rw [AD hc e e' c] at q
         cases x<;>exact ⟨_,Sub.refl _,q⟩
      ·rintro τ M' ⟨sd',v5,v6,v7,hc,rfl,rfl⟩
       have e:(((Tree.block z ps).parts.map Tree.d).length:Nat)=ps.length:=by rw [List.length_map];rfl
       rw [eZ,e,List.take_length,hh.2,List.take_length] at hc
       rw [hc] at q
       exact ⟨_,Sub.refl _,q⟩
     ·have hb:eS (.block z ps) (.block z' qs)=false:=by
       rw [mj]
       by_cases h1:z=z'
       ·rw [decide_eq_true h1,decide_eq_false fun h2=>hh ⟨h1,h2⟩];rfl
       ·rw [decide_eq_false h1];rfl
      rw [hb]
      rw [if_neg hh,iC hl] at q
      exact ⟨M,Sub.refl M,q⟩
noncomputable def dW (sd:bo):List (Int×Tree):=sd.map fun q=>(q.1,q.2.2)
mutual
theorem vn:∀(t u:Tree) (p:List Int) (sd:bo),(cP sd).Nodup→(cP (bf p sd t u).2).Nodup
 |.blank k,u,p,sd,h=>by
  rw [bf]
  unfold eD
  cases e:bT sd k with
  |none =>
   show (cP (sd++[(k,p,u)])).Nodup
   unfold cP at h ⊢
   rw [List.map_append]
   refine List.nodup_append.mpr ⟨h,by simp,fun a ha b hb e'=>?_⟩
   simp at hb
   subst hb e'
   exact rf.mp e ha
  |some q=>simp only;split<;>exact h
 |.block m ps,.blank j,p,sd,h=>by rw [bf];exact h
 |.block m ps,.block m' qs,p,sd,h=>by
  rw [bf]
  split
  ·exact tM ps qs p 0 sd h
  ·exact h
theorem tM:∀(ts us:List Tree) (p:List Int) (i:Nat) (sd:bo),(cP sd).Nodup→(cP (bK p i sd ts us).2).Nodup
 |[],us,p,i,sd,h=>by rw [ka];exact h
 |t::ts,[],p,i,sd,h=>by
  have e:bK p i sd (t::ts) []=(none,sd):=by rw [bK]<;>simp
  rw [e];exact h
 |t::ts,u::us,p,i,sd,h=>by
  have h1:=vn t u (p++[(i:Int)]) sd h
  rw [bK]
  cases c:bf (p++[(i:Int)]) sd t u with
  |mk o s =>
   rw [c] at h1
   cases o with
   |some x=>exact h1
   |none=>exact tM ts us p (i+1) s h1
end
noncomputable def yo (n:Nat):aS:=fun ds M Q=>∃t u:Tree,ds=[t.d,u.d]∧t.depth≤n∧t.knots≤800∧u.depth≤70 ∧
 (∀x s,bf [] [] t u=(some x,s)→Q .non M)∧∀s,bf [] [] t u=(none,s)→∀l,M l=none→Q (.ref l) (aj M l (.dic (bQ (dW s))))
theorem GH (T:Txt K mg) (n:Nat):bu P w K mg base (n+3) "fitting" ["form", "tree"] (yo n):=by
 have F_clash_from:=tL (P:=P) (w:=w) (base:=base) T n
 refine bW T.f_fitting lI (fun ds M Q h=>?_) fun f cdv A outer s H E hr=>⟨_,(aq (aE (i:=2) lI.nd fq)
 (aq (bz (bg iK (aH F_clash_from (hr.mono (by first|lia|omega)) (ag (af 0) (ag (af 1) (ag (aM ah) (ag (af 2) ah))))) cF (bj _)) (ax (aG cF)) bF)
 (aq (aE (i:=3) lI.nd fq)
 (aq (rK PassesOwn.never rfl (af 2) (bE (i:=4) lI.nd) (ax (dq (av (iJ hr (af 2) (af 4)) ak) (eU hr (af 3) (af 4)))))
 (ax (aG (af 3))))))),fun ds M Q h=>?_⟩
 ·obtain ⟨t,u,rfl,_⟩:=h;rfl
 ·obtain ⟨t,u,rfl,hd,hk,hu,q1,q2⟩:=h
  have h1:=pI t
  show ∀p,M p=none→_
  intro l hl
  refine ⟨t,u,[],l,[],rfl,hd,by simp;(first|lia|omega),by simp;(first|lia|omega),hu,fun q hq=>(nomatch hq),ar,?_⟩
  rw [gC]
  have hlen:=rq t u [] []
  have hnd:=vn t u [] [] (by simp [cP])
  cases c:bf [] [] t u with
  |mk o sd =>
   rw [c] at hlen hnd
   simp only [List.length_nil] at hlen
   cases o with
   |some x =>
    have hq:=q1 x sd c
    cases x<;>exact ⟨M,Sub.new hl,hq⟩
   |none =>
    have q:=q2 sd c
    show ∀p,aj M l (.dic (cE sd)) p=none→_
    intro lf hlf
    obtain ⟨f1,f2⟩:=dA hlf
    refine ⟨cE sd,by rw [ay (Ne.symm f1),ar],fun i τ M'=>(∃v:Option D,τ=[some t.d,some u.d,some (.ref l),some (.ref lf),v])∧M' l=some (.fdc (cE sd))∧M' lf=some (.dic (bQ (dW (sd.take i))))∧Sub M M',⟨⟨none,rfl⟩,ar,by rw [ay f1,ar];rfl,?_⟩,fun i τ M' _ hW=>hW.2.1,?_,?_⟩
    ·exact fX ((Sub.new hl).trans (Sub.new hlf)) hl
    ·rintro i k d τ M' ek ⟨⟨v,rfl⟩,hl',hf',hs'⟩
     have hi:i < sd.length:=by
      rcases Nat.lt_or_ge i sd.length with h|h
      ·exact h
      ·rw [List.getElem?_eq_none (by rw [ph];exact h)] at ek;cases ek
     have e:sd[i]?=some sd[i]:=List.getElem?_eq_getElem hi
     generalize sd[i]=x at e
     have ek':(cE sd)[i]?=some ((Sum.inl x.1:Key),D.tup [tupI x.2.1,x.2.2.d]):=by unfold cE;rw [List.getElem?_map,e];rfl
     rw [ek'] at ek
     cases ek
     have hv:ba (cE sd) (.inl x.1)=some (.tup [tupI x.2.1,x.2.2.d]):=by rw [kg,xj hnd e];rfl
     have hni:x.1 ∉ (sd.take i).map (·.1):=by
      have h2:((sd.take (i+1)).map (·.1)).Nodup:=List.Nodup.sublist ((List.take_sublist _ _).map _) hnd
      rw [List.take_add_one,e,List.map_append] at h2
      intro z
      exact (List.nodup_append.mp h2).2.2 _ z _ (by simp) rfl
     have hkk:(dW (sd.take i)).map (·.1)=(sd.take i).map (·.1):=by unfold dW;rw [List.map_map];rfl
     refine ⟨_,_,_,rfl,.inr hl',hv,?_⟩
     refine ⟨_,_,rfl,hf',by unfold bQ dW;rw [List.length_map,List.length_map,List.length_take];exact cC (by first|lia|omega),⟨_,rfl⟩,by rw [ay (Ne.symm f1)];exact hl',?_,fX hs' f2⟩
     rw [ar]
     have e4:dW (sd.take (i+1))=dW (sd.take i)++[(x.1,x.2.2)]:=by unfold dW;rw [List.take_add_one,e,List.map_append];rfl
     rw [e4,←kP (ni (by rw [hkk];exact hni))]
    ·rintro τ M' ⟨⟨v,rfl⟩,hl',hf',hs'⟩
     rw [ph,List.take_length] at hf'
     refine ⟨aj M lf (.dic (bQ (dW sd))),fun c o e=>?_,q lf f2⟩
     by_cases hcf:c=lf
     ·subst hcf;rw [ar] at e;rw [ay f1,hf'];exact e
     ·rw [ay hcf] at e
      rw [ay (by intro z;subst z;rw [hl] at e;cases e)]
      exact hs' c o e
noncomputable def tf (ls ll:Addr):List (Str×D):=[(Str.ofString "steps",.ref ls),(Str.ofString "links",.ref ll)]
theorem Fg:¬(("steps" : Str)=("links" : Str)):=by decide +kernel
theorem lU (ls ll:Addr):(tf ls ll).lookup ("steps" : Str)=some (.ref ls):=by
 unfold tf
 rw [List.lookup_cons,show (("steps" : Str) ==("steps" : Str))=true by decide +kernel]
theorem iZ (ls ll:Addr):(tf ls ll).lookup ("links" : Str)=some (.ref ll):=by
 unfold tf
 rw [List.lookup_cons,show (("links" : Str) ==("steps" : Str))=false by decide +kernel,List.lookup_cons,show (("links" : Str) ==("links" : Str))=true by decide +kernel]
theorem dM (ls ll:Addr) {m:Str} (h1:(m ==("steps" : Str))=false) (h2:(m ==("links" : Str))=false):(tf ls ll).lookup m=none:=by
 unfold tf
 rw [List.lookup_cons,h1,List.lookup_cons,h2,List.lookup_nil]
noncomputable instance decT:DecidableEq Tree:=fun a b=>Classical.propDecidable (a=b)
noncomputable abbrev bh:=Tree→Option Tree
noncomputable def tk (t:Tree):Prop:=bO t.d
noncomputable def Lk (ae:List (D×D)) (L:bh):Prop:=∀t,(L t=none→bJ ae t.d=none)∧∀r,L t=some r→∃n:Int,bJ ae t.d=some (.tup [r.d,.int n])
noncomputable def d0 (L:bh) (t r:Tree):bh:=fun u=>if u=t then some r else L u
theorem BG {ae:List (D×D)} {L:bh} (h:Lk ae L) (t r:Tree) (n:Int):Lk (cB ae t.d (.tup [r.d,.int n])) (d0 L t r):=by
 intro u
 unfold d0
 rw [B0]
 by_cases e:u=t
 ·subst e
  rw [if_pos rfl,if_pos rfl]
  exact ⟨fun z=>(nomatch z),fun r' z=>by cases z;exact ⟨n,rfl⟩⟩
 ·rw [if_neg e,if_neg (fun z=>e (pL _ _ z))]
  exact h u
noncomputable def bb (P:Program) (w:World) (mg:Str→Option Value) (M:DH) (a dx ls ll:Addr) (B:Nat) (L:bh):Prop:=M a=some (.ins (cl mg "Ties") dx (tf ls ll))∧(∃st,M ls=some (.lst st)∧st.length≤B)∧∃ae,M ll=some (.ndc (D.hsh P w) bO ae)∧ae.length≤B∧Lk ae L
noncomputable def Fx (ls ll:Addr) (M M':DH):Prop:=∀c o,c≠ls→c≠ll→M c=some o→M' c=some o
theorem Fx.refl {ls ll:Addr} (M:DH):Fx ls ll M M:=fun _ _ _ _ h=>h
theorem Fx.trans {ls ll:Addr} {M M1 M2:DH} (h:Fx ls ll M M1) (h':Fx ls ll M1 M2):Fx ls ll M M2:=fun c o h1 h2 e=>h' c o h1 h2 (h c o h1 h2 e)
theorem Fx.sub {ls ll:Addr} {M M1:DH} (h:Sub M M1):Fx ls ll M M1:=fun c o _ _ e=>h c o e
theorem Fx.upd {ls ll c:Addr} {M:DH} {o:MO} (h:c=ls∨c=ll):Fx ls ll M (aj M c o):=fun b u h1 h2 e=>by
 rw [ay (by rcases h with rfl|rfl<;>assumption)];exact e
section
variable {a dx ls ll:Addr} {B:Nat} {L:bh} {M M':DH}
theorem bb.als (h:bb P w mg M a dx ls ll B L):a≠ls:=fun z=>by
 obtain ⟨h1,⟨st,h2,_⟩,_⟩:=h
 subst z;rw [h1] at h2;cases h2
theorem bb.all (h:bb P w mg M a dx ls ll B L):a≠ll:=fun z=>by
 obtain ⟨h1,_,ae,h2,_⟩:=h
 subst z;rw [h1] at h2;cases h2
theorem bb.lsll (h:bb P w mg M a dx ls ll B L):ls≠ll:=fun z=>by
 obtain ⟨_,⟨st,h1,_⟩,ae,h2,_⟩:=h
 subst z;rw [h1] at h2;cases h2
theorem bb.sub (h:bb P w mg M a dx ls ll B L) (s:Sub M M'):bb P w mg M' a dx ls ll B L:=by
 obtain ⟨h1,⟨st,h2,h3⟩,ae,h4,h5⟩:=h
 exact ⟨s _ _ h1,⟨st,s _ _ h2,h3⟩,ae,s _ _ h4,h5⟩
theorem bb.more (h:bb P w mg M a dx ls ll B L) {C:Nat} (hc:B≤C):bb P w mg M a dx ls ll C L:=by
 obtain ⟨h1,⟨st,h2,h3⟩,ae,h4,h5,h6⟩:=h
 exact ⟨h1,⟨st,h2,by first|lia|omega⟩,ae,h4,by first|lia|omega,h6⟩
theorem bb.note {st:List D} (h:bb P w mg M a dx ls ll B L) (e:M ls=some (.lst st)) (d:D):bb P w mg (aj M ls (.lst (st++[d]))) a dx ls ll (B+1) L:=by
 have n1:=h.als
 have n2:=h.lsll
 obtain ⟨h1,⟨st',h2,h3⟩,ae,h4,h5,h6⟩:=h
 rw [e] at h2
 cases h2
 exact ⟨by rw [ay n1];exact h1,⟨_,ar,by rw [List.length_append];simp;(first|lia|omega)⟩,ae,by rw [ay (Ne.symm n2)];exact h4,by first|lia|omega,h6⟩
theorem bb.link {ae:List (D×D)} (h:bb P w mg M a dx ls ll B L) (e:M ll=some (.ndc (D.hsh P w) bO ae)) (t r:Tree) (n:Int):bb P w mg (aj M ll (.ndc (D.hsh P w) bO (cB ae t.d (.tup [r.d,.int n])))) a dx ls ll (B+1) (d0 L t r):=by
 have n1:=h.all
 have n2:=h.lsll
 obtain ⟨h1,⟨st,h2,h3⟩,kvs',h4,h5,h6⟩:=h
 rw [e] at h4
 cases h4
 have:=rL ae t.d (.tup [r.d,.int n])
 exact ⟨by rw [ay n1];exact h1,⟨st,by rw [ay n2];exact h2,by first|lia|omega⟩,_,ar,by first|lia|omega,BG h6 t r n⟩
end
noncomputable def nD:Option Int→D
 |none=>.non
 |some n=>.int n
noncomputable def Ff (P:Program) (w:World) (mg:Str→Option Value):aS:=fun ds M Q=>∃a dx:Addr,ds=[.ref a]∧M a=some (.ins (cl mg "Ties") dx [])∧∀ls ll M',M ls=none→M ll=none→bb P w mg M' a dx ls ll 0 (fun _=>none)→(∀c o,c≠a→M c=some o→M' c=some o)→Q .non M'
theorem Es (T:Txt K mg):nJ P w K mg base (cl mg "Ties") 1 ["self"] (Ff P w mg):=by
 refine zX T.f_Ties___init__ yJ (fun ds M Q h=>?_) fun f cdv A outer s H E hr=>⟨_,(aq (rQ T.c_Ties T.a_Ties_steps (af 0) (cq ah))
 (ax (rQ T.c_Ties T.a_Ties_links (af 0) yA))),fun ds M Q h=>?_⟩
 ·obtain ⟨a,dx,rfl,_⟩:=h;rfl
 ·obtain ⟨a,dx,rfl,ha,q⟩:=h
  show ∀p,_→_
  intro ls hls
  have hal:a≠ls:=fun z=>by subst z;rw [ha] at hls;cases hls
  refine ⟨a,dx,_,rfl,by rw [ay hal];exact ha,by decide,?_⟩
  show ∀p,_→_
  intro ll hll
  obtain ⟨la,hll1⟩:=dA hll
  obtain ⟨lls,hll2⟩:=dA hll1
  refine ⟨a,dx,_,rfl,by rw [ay (Ne.symm la),ar],by show 1 < 1000;decide,?_⟩
  refine ⟨_,Sub.refl _,?_⟩
  have ef:hG "links" (.ref ll) (hG "steps" (.ref ls) [])=tf ls ll:=by
   show (if ("steps" : Str)= "links" then _ else (("steps" : Str),D.ref ls)::[(("links" : Str),D.ref ll)])=_
   rw [if_neg Fg];rfl
  rw [ef]
  refine q ls ll _ hls hll2 ⟨ar,⟨[],by rw [ay (Ne.symm hal),ay (Ne.symm lls),ay (Ne.symm hal),ar],Nat.zero_le _⟩,[],by rw [ay la,ar];rfl,Nat.zero_le _,fun t=>⟨fun _=>rfl,fun r z=>(nomatch z)⟩⟩ fun c o hc e=>?_
  have h1:c≠ls:=fun z=>by subst z;rw [hls] at e;cases e
  have h2:c≠ll:=fun z=>by subst z;rw [hll2] at e;cases e
  rw [ay hc,ay h2,ay hc,ay h1]
  exact e
noncomputable def tH (P:Program) (w:World) (mg:Str→Option Value):aS:=fun ds M Q=>∃(a dx ls ll:Addr) (B:Nat) (L:bh) (d:D),ds=[.ref a,d]∧bb P w mg M a dx ls ll B L∧B < 900∧∀(n:Int) M',bb P w mg M' a dx ls ll (B+1) L→Fx ls ll M M'→Q (.int n) M'
theorem oq (T:Txt K mg):eE P w K mg base (cl mg "Ties") 1 "noted" ["self", "step"] (tH P w mg):=by
 have m_len:=T.m_len
 refine jh T.f_Ties_noted Hb (fun ds M Q h=>?_) fun f cdv A outer s H E hr=>⟨_,(aq (eh (eM PySem.F.plainAttrs_list PySem.F.slot_list_append PySem.F.type_list_append i5 (eW T.c_Ties T.a_Ties_steps (af 0)) (ag (af 1) ah)))
 (ax (aG (cG dn rfl m_len df (ag (eW T.c_Ties T.a_Ties_steps (af 0)) ah))))),fun ds M Q h=>?_⟩
 ·obtain ⟨a,dx,ls,ll,B,L,d,rfl,_⟩:=h;rfl
 ·obtain ⟨a,dx,ls,ll,B,L,d,rfl,ht,hB,q⟩:=h
  have ht0:=ht
  obtain ⟨h1,⟨st,h2,h3⟩,_⟩:=ht
  refine ⟨a,dx,_,_,rfl,h1,lU ls ll,?_⟩
  refine ⟨⟨rfl,_,h2⟩,st,h2,cC (by first|lia|omega),?_⟩
  have h1':aj M ls (.lst (st++[d])) a=some (.ins (cl mg "Ties") dx (tf ls ll)):=by rw [ay ht0.als];exact h1
  refine ⟨a,dx,_,_,rfl,h1',lU ls ll,?_⟩
  refine ⟨_,ar,?_⟩
  exact ⟨_,Sub.refl _,q _ _ (ht0.note h2 d) (Fx.upd (.inl rfl))⟩
noncomputable def HD (P:Program) (w:World) (mg:Str→Option Value):aS:=fun ds M Q=>∃(a dx ls ll:Addr) (B:Nat) (L:bh) (o:Option Int),ds=[.ref a,nD o]∧bb P w mg M a dx ls ll B L∧B < 900∧∀(o':Option Int) M',o'.isSome=o.isSome→bb P w mg M' a dx ls ll (B+1) L→Fx ls ll M M'→Q (nD o') M'
theorem vI (T:Txt K mg):eE P w K mg base (cl mg "Ties") 2 "turned" ["self", "number"] (HD P w mg):=by
 have F_Ties_noted:=oq (P:=P) (w:=w) (base:=base) T
 refine jh T.f_Ties_turned BX (fun ds M Q h=>?_) fun f cdv A outer s H E hr=>⟨_,(aq (bz (bg p8 (af 1) cF (bj _)) (ax (aG cF)) bF)
 (ax (aG (dG T.c_Ties F_Ties_noted (hr.mono (by first|lia|omega)) (af 0) (ag (aM (ag aQ (ag (af 1) ah))) ah))))),fun ds M Q h=>?_⟩
 ·obtain ⟨a,dx,ls,ll,B,L,o,rfl,_⟩:=h;rfl
 ·obtain ⟨a,dx,ls,ll,B,L,o,rfl,ht,hB,q⟩:=h
  cases o with
  |none=>exact ⟨_,Sub.refl _,q none M rfl (ht.more (Nat.le_succ _)) (Fx.refl M)⟩
  |some n =>
   refine ⟨a,dx,_,rfl,ht.1,dM ls ll (by decide +kernel) (by decide +kernel),?_⟩
   refine ⟨a,dx,ls,ll,B,L,_,rfl,ht,hB,fun m M' h1 h2=>?_⟩
   exact ⟨_,Sub.refl _,q (some m) M' rfl h1 h2⟩
noncomputable def B2 (P:Program) (w:World) (mg:Str→Option Value):aS:=fun ds M Q=>∃(a dx ls ll:Addr) (B:Nat) (L:bh) (o p:Option Int),ds=[.ref a,nD o,nD p]∧bb P w mg M a dx ls ll B L∧B < 900∧∀(o':Option Int) M',o'.isSome=(o.isSome ||p.isSome)→bb P w mg M' a dx ls ll (B+1) L→Fx ls ll M M'→Q (nD o') M'
theorem ug (T:Txt K mg):eE P w K mg base (cl mg "Ties") 2 "linked" ["self", "first", "second"] (B2 P w mg):=by
 have F_Ties_noted:=oq (P:=P) (w:=w) (base:=base) T
 refine jh T.f_Ties_linked yi (fun ds M Q h=>?_) fun f cdv A outer s H E hr=>⟨_,(aq (bz (bg p8 (af 1) cF (bj _)) (ax (aG (af 2))) bF)
 (aq (bz (bg p8 (af 2) cF (bj _)) (ax (aG (af 1))) bF)
 (ax (aG (dG T.c_Ties F_Ties_noted (hr.mono (by first|lia|omega)) (af 0) (ag (aM (ag aQ (ag (af 1) (ag (af 2) ah)))) ah)))))),fun ds M Q h=>?_⟩
 ·obtain ⟨a,dx,ls,ll,B,L,o,p,rfl,_⟩:=h;rfl
 ·obtain ⟨a,dx,ls,ll,B,L,o,p,rfl,ht,hB,q⟩:=h
  cases o with
  |none=>exact ⟨_,Sub.refl _,q p M (by simp) (ht.more (Nat.le_succ _)) (Fx.refl M)⟩
  |some n=>cases p with
   |none=>exact ⟨_,Sub.refl _,q (some n) M rfl (ht.more (Nat.le_succ _)) (Fx.refl M)⟩
   |some m =>
    refine ⟨a,dx,_,rfl,ht.1,dM ls ll (by decide +kernel) (by decide +kernel),?_⟩
    refine ⟨a,dx,ls,ll,B,L,_,rfl,ht,hB,fun m M' h1 h2=>?_⟩
    exact ⟨_,Sub.refl _,q (some m) M' rfl h1 h2⟩
noncomputable def Ch (L:bh):Tree→List Tree→Tree→Prop
 |t,[],r=>t=r∧L r=none
 |t,u::p,r=>t=u∧∃v,L t=some v∧Ch L v p r
noncomputable def bI (L:bh) (p:List Tree) (r:Tree):bh:=fun u=>if u∈p then some r else L u
theorem mS {L:bh}:∀{p:List Tree} {t r u:Tree},Ch L t p r→u∈p→∃v,L u=some v
 |[],_,_,_,_,h=>nomatch h
 |x::p,t,r,u,⟨e,v,h1,h2⟩,h=>by
  rcases List.mem_cons.mp h with h|h
  ·rw [h,←e];exact ⟨v,h1⟩
  ·exact mS h2 h
theorem qx {L:bh}:∀{p:List Tree} {t r:Tree},Ch L t p r→L r=none
 |[],_,_,h=>h.2
 |_::_,_,_,⟨_,_,_,h⟩=>qx h
theorem tJ {L:bh}:∀{p q:List Tree} {t r s:Tree},Ch L t p r→Ch L t q s→p=q∧r=s
 |[],[],_,_,_,⟨a,_⟩,⟨b,_⟩=>⟨rfl,a.symm.trans b⟩
 |[],_::_,_,_,_,⟨a,n⟩,⟨_,v,b,_⟩=>by rw [a,n] at b;cases b
 |_::_,[],_,_,_,⟨_,v,b,_⟩,⟨a,n⟩=>by rw [a,n] at b;cases b
 |x::p,y::q,t,r,s,⟨a,v,h1,h2⟩,⟨b,w,g1,g2⟩=>by
  rw [h1] at g1
  cases g1
  obtain ⟨e1,e2⟩:=tJ h2 g2
  exact ⟨by rw [←a,←b,e1],e2⟩
theorem tW {L:bh}:∀{p:List Tree} {t r u:Tree},Ch L t p r→u∈p→∃q,Ch L u q r∧q.length≤p.length
 |[],_,_,_,_,h=>nomatch h
 |x::p,t,r,u,⟨e,v,h1,h2⟩,h=>by
  rcases List.mem_cons.mp h with h|h
  ·rw [h,←e];exact ⟨x::p,⟨e,v,h1,h2⟩,Nat.le_refl _⟩
  ·obtain ⟨q,h3,h4⟩:=tW h2 h
   exact ⟨q,h3,Nat.le_succ_of_le h4⟩
theorem yF {hf:D→Int} {x:D} {l:Addr} {M:DH} {Q:KD} (h:∃ae,bO x∧M l=some (.ndc hf bO ae)∧Q (.bl (bJ ae x).isSome) M):lX hf x (.ref l) M Q:=by
 cases x<;>exact h
theorem CG (L:bh) (p:List Tree) (u r:Tree):d0 (bI L p r) u r=bI L (p++[u]) r:=by
 funext x
 unfold d0 bI
 by_cases e:x=u
 ·rw [if_pos e,if_pos (by rw [e];simp)]
 ·rw [if_neg e]
  by_cases h:x∈p
  ·rw [if_pos h,if_pos (List.mem_append_left _ h)]
  ·rw [if_neg h,if_neg (by rw [List.mem_append,List.mem_singleton];exact fun z=>z.elim h e)]
theorem DX (L:bh) (p:List Tree) (r:Tree):bI L p.reverse r=bI L p r:=by
 funext x
 unfold bI
 by_cases h:x∈p
 ·rw [if_pos h,if_pos (List.mem_reverse.mpr h)]
 ·rw [if_neg h,if_neg (fun z=>h (List.mem_reverse.mp z))]
theorem lj (L:bh) (r:Tree):bI L [] r=L:=by
 funext x
 unfold bI
 rw [if_neg (by simp)]
noncomputable def FU (P:Program) (w:World) (mg:Str→Option Value):aS:=fun ds M Q=>∃(a dx ls ll:Addr) (B:Nat) (L:bh) (t r:Tree) (p:List Tree),ds=[.ref a,t.d]∧bb P w mg M a dx ls ll B L∧B+p.length+p.length < 890∧Ch L t p r∧(∀u∈p,tk u)∧tk r∧p.Nodup ∧
 ∀(o:Option Int) M',o.isSome=!p.isEmpty→bb P w mg M' a dx ls ll (B+p.length+p.length) (bI L p r)→Fx ls ll M M'→Q (.tup [r.d,nD o]) M'
theorem wF (T:Txt K mg):eE P w K mg base (cl mg "Ties") 3 "root_of" ["self", "tree"] (FU P w mg):=by
 have m_reversed:=T.m_reversed
 have F_Ties_linked:=ug (P:=P) (w:=w) (base:=base) T
 refine jh T.f_Ties_root_of gM (fun ds M Q h=>?_) fun f cdv A outer s H E hr=>⟨_,(aq (aE (i:=2) gM.nd (cq ah))
 (aq (aE (i:=3) gM.nd (af 1))
 (aq (nP PassesOwn.never (bg (FW hr) (af 3) (eW T.c_Ties T.a_Ties_links (af 0)) (rfl)) (aq (eh (eM PySem.F.plainAttrs_list PySem.F.slot_list_append PySem.F.type_list_append i5 (af 2) (ag (af 3) ah)))
 (ax (aE (i:=3) gM.nd (av (qD hr (eW T.c_Ties T.a_Ties_links (af 0)) (af 3)) ak)))))
 (aq (aE (i:=4) gM.nd cF)
 (aq (Di PassesOwn.never rfl m_reversed (ag (af 2) ah) (bE (i:=5) gM.nd) (aq (aE (i:=4) gM.nd (dG T.c_Ties F_Ties_linked (hr.mono (by first|lia|omega)) (af 0) (ag (av (qD hr (eW T.c_Ties T.a_Ties_links (af 0)) (af 5)) ak) (ag (af 4) ah))))
 (ax (dq (aM (ag (af 3) (ag (af 4) ah))) (pX hr (eW T.c_Ties T.a_Ties_links (af 0)) (af 5))))))
 (ax (aG (aM (ag (af 3) (ag (af 4) ah)))))))))),fun ds M Q h=>?_⟩
 ·obtain ⟨a,dx,ls,ll,B,L,t,r,p,rfl,_⟩:=h;rfl
 ·obtain ⟨a,dx,ls,ll,B,L,t,r,p,rfl,ht,hB,hch,hk,hkr,hnd,q⟩:=h
  show ∀lp,M lp=none→_
  intro lp hlp
  have ht0:=ht
  have hals:=ht.als
  have hsub:∀{M':DH} {B':Nat} {L':bh},bb P w mg M' a dx ls ll B' L'→∀o,M' lp≠none→lp≠ls→lp≠ll→lp≠a→bb P w mg (aj M' lp o) a dx ls ll B' L':=fun h o _ h1 h2 h3=>by
   obtain ⟨g1,⟨st,g2,g3⟩,ae,g4,g5⟩:=h
   exact ⟨by rw [ay (Ne.symm h3)];exact g1,⟨st,by rw [ay (Ne.symm h1)];exact g2,g3⟩,ae,by rw [ay (Ne.symm h2)];exact g4,g5⟩
  have nls:lp≠ls:=fun z=>by obtain ⟨_,⟨st,g,_⟩,_⟩:=ht;rw [z,g] at hlp;cases hlp
  have nll:lp≠ll:=fun z=>by obtain ⟨_,_,ae,g,_⟩:=ht;rw [z,g] at hlp;cases hlp
  have na:lp≠a:=fun z=>by rw [z,ht.1] at hlp;cases hlp
  refine ⟨fun m τ M'=>∃(done rest:List Tree) (cur:Tree),p=done++rest∧m=rest.length∧Ch L cur rest r∧M'=aj M lp (.lst (done.map Tree.d))∧τ=[some (.ref a),some t.d,some (.ref lp),some cur.d,none,none],⟨_,[],p,t,rfl,rfl,hch,rfl,rfl⟩,?_⟩
  rintro m τ M' ⟨done,rest,cur,hp,rfl,hc,rfl,rfl⟩
  have hT:bb P w mg (aj M lp (.lst (done.map Tree.d))) a dx ls ll B L:=ht.sub (Sub.new hlp)
  obtain ⟨g1,_,ae,g4,g5,g6⟩:=id hT
  refine ⟨a,dx,_,_,rfl,g1,iZ ls ll,?_⟩
  refine yF ⟨ae,?_,g4,?_⟩
  ·cases rest with
   |nil=>rw [hc.1];exact hkr
   |cons x rest=>rw [hc.1];exact hk x (by rw [hp];simp)
  cases rest with
  |cons x rest =>
   obtain ⟨e,v,hv,hc'⟩:=hc
   subst e
   obtain ⟨n,hn⟩:=(g6 cur).2 v hv
   rw [hn]
   refine ⟨⟨rfl,_,ar⟩,_,ar,cC (by rw [List.length_map];have:=congrArg List.length hp;rw [List.length_append,List.length_cons] at this;(first|lia|omega)),?_⟩
   rw [gC]
   have hT2:bb P w mg (aj M lp (.lst (done.map Tree.d++[cur.d]))) a dx ls ll B L:=ht.sub (Sub.new hlp)
   have g4':aj M lp (.lst (done.map Tree.d++[cur.d])) ll=some (.ndc (D.hsh P w) bO ae):=by rw [ay (Ne.symm nll)] at g4 ⊢;exact g4
   refine ⟨a,dx,_,_,rfl,hT2.1,iZ ls ll,?_⟩
   refine ⟨ae,_,hk cur (by rw [hp];simp),g4',hn,?_⟩
   refine ⟨rest.length,by simp,done++[cur],rest,v,by rw [hp];simp,rfl,hc',?_,rfl⟩
   rw [List.map_append];rfl
  |nil =>
   obtain ⟨e,hr0⟩:=hc
   subst e
   rw [(g6 cur).1 hr0]
   rw [List.append_nil] at hp
   subst hp
   clear g1 g4 g5 g6 ae
   refine ⟨_,ar,fun i τ M'=>(∃(o:Option Int) (v:Option D),o.isSome=decide (0 < i)∧τ=[some (.ref a),some t.d,some (.ref lp),some cur.d,some (nD o),v])∧M' lp=some (.lst (p.map Tree.d))∧bb P w mg M' a dx ls ll (B+i+i) (bI L (p.reverse.take i) cur)∧Fx ls ll M M',⟨⟨none,none,rfl,rfl⟩,ar,by rw [List.take_zero,lj];exact hT,Fx.sub (Sub.new hlp)⟩,fun i τ M' _ hW=>hW.2.1,?_,?_⟩
   ·rintro i d τ M' ed ⟨⟨o,v,ho,rfl⟩,hl',hT',hF'⟩
    rw [←List.map_reverse,List.getElem?_map] at ed
    cases eu:p.reverse[i]? with
    |none=>rw [eu] at ed;cases ed
    |some u =>
     rw [eu] at ed
     cases ed
     have hmem:u∈p:=List.mem_reverse.mp (List.mem_of_getElem? eu)
     have hil:i < p.length:=by have:=(List.getElem?_eq_some_iff.mp eu).1;rwa [List.length_reverse] at this
     have hni:u ∉ p.reverse.take i:=fun z=>by
      have h1:(p.reverse.take (i+1)).Nodup:=((List.reverse_perm p).nodup_iff.mpr hnd).sublist (List.take_sublist _ _)
      rw [List.take_add_one,eu] at h1
      exact (List.nodup_append.mp h1).2.2 _ z _ (by simp) rfl
     obtain ⟨x,hx⟩:=mS hch hmem
     have hx':bI L (p.reverse.take i) cur u=some x:=by unfold bI;rw [if_neg hni];exact hx
     obtain ⟨g1,_,ae,g4,g5,g6⟩:=id hT'
     obtain ⟨n,hn⟩:=(g6 u).2 x hx'
     refine ⟨a,dx,_,rfl,g1,dM ls ll (by decide +kernel) (by decide +kernel),?_⟩
     refine ⟨a,dx,_,_,rfl,g1,iZ ls ll,?_⟩
     refine ⟨ae,_,hk u hmem,g4,hn,?_⟩
     refine ⟨a,dx,ls,ll,B+i+i,_,some n,o,rfl,hT',by first|lia|omega,fun o' M2 ho' hT2 hF2=>?_⟩
     obtain ⟨m,rfl⟩:∃m,o'=some m:=by cases o' with|none=>cases ho'|some m=>exact ⟨m,rfl⟩
     obtain ⟨f1,_,kvs2,f4,f5,f6⟩:=id hT2
     refine ⟨a,dx,_,_,rfl,f1,iZ ls ll,?_⟩
     refine ⟨kvs2,hk u hmem,f4,cC (by first|lia|omega),?_⟩
     refine ⟨⟨some m,_,by simp,rfl⟩,?_,?_,hF'.trans (hF2.trans (Fx.upd (.inr rfl)))⟩
     ·rw [ay nll]
      exact hF2 lp _ nls nll hl'
     ·rw [List.take_add_one,eu]
      show bb P w mg _ a dx ls ll _ (bI L (p.reverse.take i++[u]) cur)
      rw [←CG]
      exact (hT2.link f4 u cur m).more (by first|lia|omega)
   ·rintro τ M' ⟨⟨o,v,ho,rfl⟩,hl',hT',hF'⟩
    have hlen:(p.map Tree.d).reverse.length=p.length:=by rw [List.length_reverse,List.length_map]
    rw [hlen] at ho hT'
    rw [List.take_of_length_le (by rw [List.length_reverse];exact Nat.le_refl _),DX] at hT'
    refine ⟨_,Sub.refl _,q o M' ?_ hT' hF'⟩
    rw [ho]
    cases p<;>simp
noncomputable def cf:Tree→Bool
 |.block _ _=>true
 |.blank _=>false
noncomputable def d9 (t u:Tree):Bool:=cf t && cf u && !eS t u
noncomputable def CC:aS:=fun ds M Q=>∃t u:Tree,ds=[t.d,u.d]∧Q (.bl (d9 t u)) M
theorem CV (T:Txt K mg):bu P w K mg base 3 "unlike_blocks" ["one", "other"] CC:=by
 have F_same_head:=qK (P:=P) (w:=w) (base:=base) T
 refine bW T.f_unlike_blocks Fb (fun ds M Q h=>?_) fun f cdv A outer s H E hr=>⟨_,(aq (bz (PW.pt (lq (bg (cv hr) (av (af 0) ak) aQ (bj _)) (lK (bg (cv hr) (av (af 1) ak) aQ (bj _))))) (ax (aG eJ)) bF)
 (ax (aG (Ae (aH F_same_head (hr.mono (by first|lia|omega)) (ag (af 0) (ag (af 1) ah))))))),fun ds M Q h=>?_⟩
 ·obtain ⟨t,u,rfl,_⟩:=h;rfl
 ·obtain ⟨t,u,rfl,q⟩:=h
  cases t with
  |blank k=>exact dc q
  |block n ps=>cases u with
   |blank k=>exact dc q
   |block m qs=>exact ⟨.block n ps,.block m qs,rfl,dc q⟩
noncomputable def cO (L:bh) (l r:Tree):bh:=if (cf l && !cf r)=true then d0 L r l else d0 L l r
noncomputable def cH (l r:Tree):List (Tree×Tree):=if (cf l && !cf r)=true then [] else (l.parts.zip r.parts).filter fun p=>decide (p.1≠p.2)
noncomputable abbrev kT:=Tree×Tree×Int
noncomputable def fR (q:kT):D:=.tup [q.1.d,q.2.1.d,.int q.2.2]
noncomputable def tw (q:kT):Tree×Tree:=(q.1,q.2.1)
theorem jW {x y:Tree} {M:DH} {Q:KD} (hd:x.depth≤70) (q:Q (.bl (!du x y)) M):qd x.d y.d M Q:=by
 obtain ⟨xs,ys,e1,e2,ok,dp,eq⟩:=rm x y
 rw [e1,e2]
 exact ⟨ok,by first|lia|omega,by rw [eq];exact q⟩
theorem wy {l:List (Tree×Tree)} {i:Nat} {p:Tree×Tree} (e:l[i]?=some p):(l.take (i+1)).filter (fun p=>decide (p.1≠p.2))=(l.take i).filter (fun p=>decide (p.1≠p.2))++(if p.1=p.2 then [] else [p]):=by
 rw [List.take_add_one,e,List.filter_append]
 congr 1
 show [p].filter _=_
 by_cases h:p.1=p.2
 ·rw [if_pos h,List.filter_cons,decide_eq_false (fun z=>z h)];rfl
 ·rw [if_neg h,List.filter_cons,decide_eq_true h];rfl
noncomputable def Ac (P:Program) (w:World) (mg:Str→Option Value):aS:=fun ds M Q=>∃(a dx ls ll:Addr) (B:Nat) (L:bh) (l r:Tree) (n:Int),ds=[.ref a,l.d,r.d,.int n]∧bb P w mg M a dx ls ll B L∧B < 870∧tk l∧tk r∧l.depth≤40∧l.parts.length≤12 ∧
 ∀lf (ps:List kT) M',M lf=none→M' lf=some (.lst (ps.map fR))→ps.map tw=cH l r→bb P w mg M' a dx ls ll (B+14) (cO L l r)→Fx ls ll M M'→Q (.ref lf) M'
theorem Gy (T:Txt K mg):eE P w K mg base (cl mg "Ties") 3 "tie_roots" ["self", "left", "right", "number"] (Ac P w mg):=by
 have m_enumerate:=T.m_enumerate
 have m_zip:=T.m_zip
 have F_Ties_noted:=(oq (P:=P) (w:=w) (base:=base) T).mono (show 1≤2 by first|lia|omega)
 have F_Ties_turned:=vI (P:=P) (w:=w) (base:=base) T
 have F_parts_of:=(g9 (P:=P) (w:=w) (base:=base) T).mono (show 1≤2 by first|lia|omega)
 refine jh T.f_Ties_tie_roots mT (fun ds M Q h=>?_) fun f cdv A outer s H E hr=>⟨_,(aq (bz (PW.pt (AU (bg (cv hr) (av (af 1) ak) aQ (bj _)) (Hs (bg (cv hr) (av (af 2) ak) aQ (bj _))))) (aq (dq (aM (ag (af 1) (ag (dG T.c_Ties F_Ties_turned (hr.mono (by first|lia|omega)) (af 0) (ag (af 3) ah)) ah))) (pX hr (eW T.c_Ties T.a_Ties_links (af 0)) (af 2)))
 (ax (aG (cq ah)))) bF)
 (aq (dq (aM (ag (af 2) (ag (af 3) ah))) (pX hr (eW T.c_Ties T.a_Ties_links (af 0)) (af 1)))
 (aq (aE (i:=4) mT.nd (cq ah))
 (aq (Hj PassesOwn.never rfl m_enumerate m_zip (ag (aH F_parts_of (hr.mono (by first|lia|omega)) (ag (af 1) ah)) (ag (aH F_parts_of (hr.mono (by first|lia|omega)) (ag (af 2) ah)) ah)) (j5 rfl (eN (bE (i:=5) mT.nd) (eN (bE (i:=6) mT.nd) kF)) mq) (ax (bz (bg (gJ hr) (av (af 6) ak) (av (af 6) ak) (bj _)) (ax (eh (eM PySem.F.plainAttrs_list PySem.F.slot_list_append PySem.F.type_list_append i5 (af 4) (ag (aM (ag (av (af 6) ak) (ag (av (af 6) ak) (ag (dG T.c_Ties F_Ties_noted (hr.mono (by first|lia|omega)) (af 0) (ag (aM (ag aQ (ag (af 3) (ag (af 5) ah)))) ah)) ah)))) ah)))) bF)))
 (ax (aG (af 4))))))),fun ds M Q h=>?_⟩
 ·obtain ⟨a,dx,ls,ll,B,L,l,r,n,rfl,_⟩:=h;rfl
 ·obtain ⟨a,dx,ls,ll,B,L,l,r,n,rfl,ht,hB,kl,kr,hd,hpl,q⟩:=h
  have go:¬(cf l && !cf r)=true→jt (eO (lN (de (cQ 2) (de (cQ 3) fm))) (wa P w (wt (cl mg (Str.ofString "Ties")) (Str.ofString "links") (cQ 0)) (cQ 1))) (jt (eO (sP fm) (hName 4)) (jt (xn (de (oP nM (de (cQ 1) fm)) (de (oP nM (de (cQ 2) fm)) fm)) (wC (gj (hName 5) (gj (hName 6) lJ))) (uP (rH (dF qd (dF gw (cQ 6) (eC (D.int 0))) (dF gw (cQ 6) (eC (D.int 1))))) (xf (xa "list" sk (cQ 4) (de (lN (de (dF gw (cQ 6) (eC (D.int 0))) (de (dF gw (cQ 6) (eC (D.int 1))) (de (sh (cl mg (Str.ofString "Ties")) (Str.ofString "noted") (tH P w mg) (cQ 0) (de (lN (de (eC (D.str (Str.ofString "part"))) (de (cQ 3) (de (cQ 5) fm)))) fm)) fm)))) fm))) rh)) (uH (cQ 4)))) (fo Q) [some (.ref a),some l.d,some r.d,some (.int n),none,none,none] M:=by
   intro hb
   have eL:cO L l r=d0 L l r:=by unfold cO;rw [if_neg hb]
   have eP:cH l r=(l.parts.zip r.parts).filter fun p=>decide (p.1≠p.2):=by unfold cH;rw [if_neg hb]
   rw [eL,eP] at q
   obtain ⟨g1,_,ae,g4,g5,g6⟩:=id ht
   refine ⟨a,dx,_,_,rfl,g1,iZ ls ll,?_⟩
   refine ⟨ae,kl,g4,cC (by first|lia|omega),?_⟩
   have hT1:=ht.link g4 l r n
   have hF1:Fx ls ll M (aj M ll (.ndc (D.hsh P w) bO (cB ae l.d (.tup [r.d,.int n])))):=Fx.upd (.inr rfl)
   have hnn:∀c,aj M ll (.ndc (D.hsh P w) bO (cB ae l.d (.tup [r.d,.int n]))) c=none→M c=none∧c≠ll:=fun c hc=>by obtain ⟨h1,h2⟩:=dA hc;exact ⟨h2,h1⟩
   generalize aj M ll (.ndc (D.hsh P w) bO (cB ae l.d (.tup [r.d,.int n])))=M1 at *
   show ∀lf,M1 lf=none→_
   intro lf hlf
   obtain ⟨hlf0,nll⟩:=hnn lf hlf
   have nls:lf≠ls:=fun z=>by obtain ⟨_,⟨st,g,_⟩,_⟩:=hT1;rw [z,g] at hlf;cases hlf
   have na:lf≠a:=fun z=>by rw [z,hT1.1] at hlf;cases hlf
   refine ⟨l,rfl,r,rfl,?_⟩
   have zl:dz (l.parts.map Tree.d) (r.parts.map Tree.d)=(l.parts.zip r.parts).map fun p=>.tup [p.1.d,p.2.d]:=by
    unfold dz
    rw [List.zip_map,List.map_map]
    rfl
   have zn:(l.parts.zip r.parts).length≤12:=by rw [List.length_zip];(first|lia|omega)
   have zd:∀p∈l.parts.zip r.parts,p.1.depth≤70:=fun p hp=>by
    have h1:p.1∈l.parts:=(List.of_mem_zip hp).1
    cases l with
    |blank k=>cases h1
    |block z ps =>
     obtain ⟨i,hi⟩:=List.mem_iff_getElem?.mp (show p.1∈ps from h1)
     have:=fB hi
     rw [Tree.depth] at hd
     (first|lia|omega)
   show dE (dY 0 (dz (l.parts.map Tree.d) (r.parts.map Tree.d))) _ _ _ _ _ _
   rw [zl]
   generalize l.parts.zip r.parts=zs at *
   refine ⟨fun i τ M'=>(∃v w:Option D,τ=[some (.ref a),some l.d,some r.d,some (.int n),some (.ref lf),v,w])∧(∃ps:List kT,M' lf=some (.lst (ps.map fR))∧ps.map tw=(zs.take i).filter fun p=>decide (p.1≠p.2))∧bb P w mg M' a dx ls ll (B+1+i) (d0 L l r)∧Fx ls ll M M',⟨⟨none,none,rfl⟩,⟨[],ar,rfl⟩,hT1.sub (Sub.new hlf),hF1.trans (Fx.sub (Sub.new hlf))⟩,fun _ _ _ _ _=>trivial,?_,?_⟩
   ·rintro i d τ M' ed ⟨⟨v,w',rfl⟩,⟨ps,hps,hpt⟩,hT',hF'⟩
    cases ez:zs[i]? with
    |none =>
     rw [List.getElem?_eq_none (by rw [eZ,List.length_map];exact List.getElem?_eq_none_iff.mp ez)] at ed
     cases ed
    |some xy =>
     rw [jB (c:=0) (d:=.tup [xy.1.d,xy.2.d]) (by rw [List.getElem?_map,ez];rfl)] at ed
     cases ed
     have hlt:i < zs.length:=(List.getElem?_eq_some_iff.mp ez).1
     have hpl2:ps.length≤i:=by
      have:=congrArg List.length hpt
      rw [List.length_map] at this
      have h2:=List.length_filter_le (fun p:Tree×Tree=>decide (p.1≠p.2)) (zs.take i)
      rw [List.length_take] at h2
      (first|lia|omega)
     refine jW (zd xy (List.mem_of_getElem? ez)) ?_
     by_cases h:xy.1=xy.2
     ·have e1:du xy.1 xy.2=true:=by rw [h];exact iT _
      rw [e1]
      refine ⟨⟨_,_,rfl⟩,⟨ps,hps,?_⟩,hT'.more (by first|lia|omega),hF'⟩
      rw [wy ez,if_pos h,List.append_nil]
      exact hpt
     ·rw [uM h]
      refine ⟨⟨rfl,_,hps⟩,?_⟩
      refine ⟨a,dx,_,rfl,hT'.1,dM ls ll (by decide +kernel) (by decide +kernel),?_⟩
      refine ⟨a,dx,ls,ll,_,_,_,rfl,hT',by first|lia|omega,fun m M2 hT2 hF2=>?_⟩
      have hps2:=hF2 lf _ nls nll hps
      refine ⟨_,hps2,cC (by rw [List.length_map];(first|lia|omega)),?_⟩
      refine ⟨⟨_,_,rfl⟩,⟨ps++[(xy.1,xy.2,m)],?_,?_⟩,?_,?_⟩
      ·rw [ar,List.map_append];rfl
      ·rw [wy ez,if_neg h,List.map_append,hpt];rfl
      ·obtain ⟨f1,⟨st,f2,f3⟩,kvs2,f4,f5⟩:=hT2
       exact ⟨by rw [ay (Ne.symm na)];exact f1,⟨st,by rw [ay (Ne.symm nls)];exact f2,by first|lia|omega⟩,kvs2,by rw [ay (Ne.symm nll)];exact f4,by first|lia|omega,f5.2⟩
      ·intro c o h1 h2 e
       have hc:c≠lf:=fun z=>by rw [z,hlf0] at e;cases e
       rw [ay hc]
       exact hF2 c o h1 h2 (hF' c o h1 h2 e)
   ·rintro τ M' ⟨⟨v,w',rfl⟩,⟨ps,hps,hpt⟩,hT',hF'⟩
    rw [eZ,List.length_map] at hpt hT'
    rw [List.take_length] at hpt
    exact ⟨_,Sub.refl _,q lf ps M' hlf0 hps hpt (hT'.more (by first|lia|omega)) hF'⟩
  cases l with
  |blank k=>exact go (by simp [cf])
  |block z ps=>cases r with
   |block y qs=>exact go (by simp [cf])
   |blank k =>
    have eL:cO L (.block z ps) (.blank k)=d0 L (.blank k) (.block z ps):=rfl
    rw [eL] at q
    refine ⟨a,dx,_,rfl,ht.1,dM ls ll (by decide +kernel) (by decide +kernel),?_⟩
    refine ⟨a,dx,ls,ll,B,L,some n,rfl,ht,by first|lia|omega,fun o' M2 ho' hT2 hF2=>?_⟩
    obtain ⟨m,rfl⟩:∃m,o'=some m:=by cases o' with|none=>cases ho'|some m=>exact ⟨m,rfl⟩
    obtain ⟨g1,_,ae,g4,g5,g6⟩:=id hT2
    refine ⟨a,dx,_,_,rfl,g1,iZ ls ll,?_⟩
    refine ⟨ae,kr,g4,cC (by first|lia|omega),?_⟩
    have hT3:=hT2.link g4 (.blank k) (.block z ps) m
    have hF3:Fx ls ll M2 (aj M2 ll (.ndc (D.hsh P w) bO (cB ae (Tree.blank k).d (.tup [(Tree.block z ps).d,.int m])))):=Fx.upd (.inr rfl)
    have hnn:∀c,aj M2 ll (.ndc (D.hsh P w) bO (cB ae (Tree.blank k).d (.tup [(Tree.block z ps).d,.int m]))) c=none→M2 c=none:=fun c hc=>(dA hc).2
    show ∀lf,aj M2 ll (.ndc (D.hsh P w) bO (cB ae (Tree.blank k).d (.tup [(Tree.block z ps).d,.int m]))) lf=none→_
    intro lf hlf
    have hlf0:M lf=none:=by
     cases e:M lf with
     |none=>rfl
     |some o =>
      have nls:lf≠ls:=fun z=>by obtain ⟨_,⟨st,g,_⟩,_⟩:=hT3;rw [z,g] at hlf;cases hlf
      have nll:lf≠ll:=fun z=>by obtain ⟨_,_,ae,g,_⟩:=hT3;rw [z,g] at hlf;cases hlf
      rw [hF3 lf o nls nll (hF2 lf o nls nll e)] at hlf
      cases hlf
    exact ⟨_,Sub.refl _,q lf [] _ hlf0 ar rfl ((hT3.sub (Sub.new hlf)).more (by first|lia|omega)) (hF2.trans (hF3.trans (Fx.sub (Sub.new hlf))))⟩
noncomputable def Way (L:bh) (t:Tree) (p:List Tree) (r:Tree):Prop:=Ch L t p r∧(∀u∈p,tk u)∧tk r∧p.Nodup∧p.length≤2
inductive Run:Nat→bh→List (Tree×Tree)→Bool→bh→Prop
 |done {L:bh}:Run 0 L [] false L
 |tie {n:Nat} {L L':bh} {l r rl rr:Tree} {pl pr:List Tree} {ps:List (Tree×Tree)} {b:Bool}:Way L l pl rl→Way (bI L pl rl) r pr rr→rl≠rr→d9 rl rr=false→rl.depth≤40→rl.parts.length≤12 →
   Run n (cO (bI (bI L pl rl) pr rr) rl rr) (ps++cH rl rr) b L'→Run (n+1) L ((l,r)::ps) b L'
 |bf {n:Nat} {L:bh} {l r rl rr:Tree} {pl pr:List Tree} {ps:List (Tree×Tree)}:Way L l pl rl→Way (bI L pl rl) r pr rr→rl≠rr→d9 rl rr=true→rl.depth≤40→Run (n+1) L ((l,r)::ps) true (bI (bI L pl rl) pr rr)
theorem zJ (l r:Tree) (h:l.parts.length≤12):(cH l r).length≤12:=by
 unfold cH
 split
 ·simp
 ·refine Nat.le_trans (List.length_filter_le _ _) ?_
  rw [List.length_zip]
  (first|lia|omega)
theorem Ic {m:Nat} {L L':bh} {l r:Tree} {ps:List (Tree×Tree)} {b:Bool} (h:Run m L ((l,r)::ps) b L'):∃(k:Nat) (rl rr:Tree) (pl pr:List Tree),m=k+1∧Way L l pl rl∧Way (bI L pl rl) r pr rr∧rl≠rr∧rl.depth≤40 ∧
  ((d9 rl rr=false∧rl.parts.length≤12∧Run k (cO (bI (bI L pl rl) pr rr) rl rr) (ps++cH rl rr) b L')∨(d9 rl rr=true∧b=true∧L'=bI (bI L pl rl) pr rr)):=by
 cases h with
 |tie h1 h2 h3 h4 h5 h6 h7=>exact ⟨_,_,_,_,_,rfl,h1,h2,h3,h5,.inl ⟨h4,h6,h7⟩⟩
 |bf h1 h2 h3 h4 h5=>exact ⟨_,_,_,_,_,rfl,h1,h2,h3,h5,.inr ⟨h4,rfl,rfl⟩⟩
noncomputable def Co (P:Program) (w:World) (mg:Str→Option Value):aS:=fun ds M Q=>∃(a dx ls ll:Addr) (L L':bh) (one other:Tree) (n:Nat) (b:Bool),ds=[.ref a,one.d,other.d]∧bb P w mg M a dx ls ll 0 L∧n≤34∧Run n L [(one,other)] b L' ∧
 ∀(o:Option Int) M',o.isSome=b→bb P w mg M' a dx ls ll (25*n) L'→Fx ls ll M M'→Q (nD o) M'
theorem Ew (T:Txt K mg):eE P w K mg base (cl mg "Ties") 4 "tie" ["self", "one", "other"] (Co P w mg):=by
 have m_len:=T.m_len
 have F_Ties_root_of:=wF (P:=P) (w:=w) (base:=base) T
 have F_Ties_linked:=(ug (P:=P) (w:=w) (base:=base) T).mono (show 2≤3 by first|lia|omega)
 have F_Ties_turned:=(vI (P:=P) (w:=w) (base:=base) T).mono (show 2≤3 by first|lia|omega)
 have F_Ties_tie_roots:=Gy (P:=P) (w:=w) (base:=base) T
 have F_unlike_blocks:=CV (P:=P) (w:=w) (base:=base) T
 refine jh T.f_Ties_tie jI (fun ds M Q h=>?_) fun f cdv A outer s H E hr=>⟨_,(aq (aE (i:=3) jI.nd (cq (ag (aM (ag (af 1) (ag (af 2) (ag ak ah)))) ah)))
 (aq (nP PassesOwn.never (bg jH (cG dn rfl m_len df (ag (af 3) ah)) ak (bj _)) (aq (aE (i:=4) jI.nd (eM PySem.F.plainAttrs_list PySem.F.slot_list_pop PySem.F.type_list_pop Gv (af 3) (ag ak ah)))
 (aq (aE (i:=5) jI.nd (dG T.c_Ties F_Ties_root_of (hr.mono (by first|lia|omega)) (af 0) (ag (av (af 4) ak) ah)))
 (aq (aE (i:=6) jI.nd (dG T.c_Ties F_Ties_root_of (hr.mono (by first|lia|omega)) (af 0) (ag (av (af 4) ak) ah)))
 (ax (bz (bg (gJ hr) (av (af 5) ak) (av (af 6) ak) (bj _)) (aq (aE (i:=7) jI.nd (dG T.c_Ties F_Ties_linked (hr.mono (by first|lia|omega)) (af 0) (ag (dG T.c_Ties F_Ties_turned (hr.mono (by first|lia|omega)) (af 0) (ag (av (af 5) ak) ah)) (ag (dG T.c_Ties F_Ties_linked (hr.mono (by first|lia|omega)) (af 0) (ag (av (af 4) ak) (ag (av (af 6) ak) ah))) ah))))
 (aq (bz (mJ (aH F_unlike_blocks (hr.mono (by first|lia|omega)) (ag (av (af 5) ak) (ag (av (af 6) ak) ah)))) (ax (aG (af 7))) bF)
 (ax (eh (eM PySem.F.plainAttrs_list PySem.F.slot_list_extend PySem.F.type_list_extend BA (af 3) (ag (dG T.c_Ties F_Ties_tie_roots (hr.mono (by first|lia|omega)) (af 0) (ag (av (af 5) ak) (ag (av (af 6) ak) (ag (af 7) ah)))) ah)))))) bF))))))
 (ax (aG cF)))),fun ds M Q h=>?_⟩
 ·obtain ⟨a,dx,ls,ll,L,L',one,other,n,b,rfl,_⟩:=h;rfl
 ·obtain ⟨a,dx,ls,ll,L,L',one,other,n,b,rfl,ht,hn,hrun,q⟩:=h
  show ∀lp,M lp=none→_
  intro lp hlp
  have nls:lp≠ls:=fun z=>by obtain ⟨_,⟨st,g,_⟩,_⟩:=ht;rw [z,g] at hlp;cases hlp
  have nll:lp≠ll:=fun z=>by obtain ⟨_,_,ae,g,_⟩:=ht;rw [z,g] at hlp;cases hlp
  have na:lp≠a:=fun z=>by rw [z,ht.1] at hlp;cases hlp
  have hup:∀{M':DH} {B':Nat} {L':bh},bb P w mg M' a dx ls ll B' L'→∀o,bb P w mg (aj M' lp o) a dx ls ll B' L':=fun h o=>by
   obtain ⟨g1,⟨st,g2,g3⟩,ae,g4,g5⟩:=h
   exact ⟨by rw [ay (Ne.symm na)];exact g1,⟨st,by rw [ay (Ne.symm nls)];exact g2,g3⟩,ae,by rw [ay (Ne.symm nll)];exact g4,g5⟩
  have hfx:∀{M':DH},Fx ls ll M M'→∀o,Fx ls ll M (aj M' lp o):=fun h o c u h1 h2 e=>by
   have hc:c≠lp:=fun z=>by rw [z,hlp] at e;cases e
   rw [ay hc]
   exact h c u h1 h2 e
  refine ⟨fun m τ M'=>∃(ps:List kT) (L1:bh) (v4 v5 v6 v7:Option D),Run m L1 (ps.map tw) b L'∧m≤n∧M' lp=some (.lst (ps.map fR))∧bb P w mg M' a dx ls ll (25*(n-m)) L1∧ps.length≤1+12*(n-m)∧Fx ls ll M M'∧τ=[some (.ref a),some one.d,some other.d,some (.ref lp),v4,v5,v6,v7],
   ⟨n,[(one,other,0)],L,none,none,none,none,hrun,Nat.le_refl _,ar,by rw [Nat.sub_self];exact ht.sub (Sub.new hlp),by simp,Fx.sub (Sub.new hlp),rfl⟩,?_⟩
  rintro m τ M' ⟨ps,L1,v4,v5,v6,v7,hR,hm,hl,hT,hln,hF,rfl⟩
  refine ⟨_,hl,?_⟩
  rw [List.length_map]
  show if decide ((0:Int) < (ps.length:Int))=true then _ else _
  cases ps with
  |nil =>
   refine gD (by simp) ?_
   cases hR
   exact ⟨_,Sub.refl _,q none M' rfl (hT.more (by first|lia|omega)) hF⟩
  |cons x ps =>
   refine fO (by simp) ?_
   obtain ⟨l,r,num⟩:=x
   obtain ⟨k,rl,rr,pl,pr,rfl,⟨c1,k1,t1,d1,e1⟩,⟨c2,k2,t2,d2,e2⟩,hne,hdep,hcase⟩:=Ic (show Run m L1 ((l,r)::ps.map tw) b L' from hR)
   have hps:ps.length≤12*(n-(k+1)):=by rw [List.length_cons] at hln;(first|lia|omega)
   refine ⟨⟨rfl,_,hl⟩,_,0,_,hl,rfl,by decide,rfl,?_⟩
   have hT1:=hup hT (.lst (ps.map fR))
   have hF1:=hfx hF (.lst (ps.map fR))
   have hl1:aj M' lp (.lst (ps.map fR)) lp=some (.lst (ps.map fR)):=ar
   show (fun M3:DH=>_) (aj M' lp (.lst (ps.map fR)))
   generalize aj M' lp (.lst (ps.map fR))=M1 at *
   refine ⟨a,dx,_,rfl,hT1.1,dM ls ll (by decide +kernel) (by decide +kernel),?_⟩
   refine ⟨a,dx,ls,ll,_,L1,l,rl,pl,rfl,hT1,by first|lia|omega,c1,k1,t1,d1,fun o1 M2 ho1 hT2 hF2=>?_⟩
   refine ⟨a,dx,_,rfl,hT2.1,dM ls ll (by decide +kernel) (by decide +kernel),?_⟩
   refine ⟨a,dx,ls,ll,_,_,r,rr,pr,rfl,hT2,by first|lia|omega,c2,k2,t2,d2,fun o2 M3 ho2 hT3 hF3=>?_⟩
   refine jW (by first|lia|omega) ?_
   rw [uM hne]
   refine ⟨a,dx,_,rfl,hT3.1,dM ls ll (by decide +kernel) (by decide +kernel),?_⟩
   refine ⟨a,dx,_,rfl,hT3.1,dM ls ll (by decide +kernel) (by decide +kernel),?_⟩
   refine ⟨a,dx,ls,ll,_,_,o1,rfl,hT3,by first|lia|omega,fun o4 M4 ho4 hT4 hF4=>?_⟩
   refine ⟨a,dx,_,rfl,hT4.1,dM ls ll (by decide +kernel) (by decide +kernel),?_⟩
   refine ⟨a,dx,ls,ll,_,_,some num,o2,rfl,hT4,by first|lia|omega,fun o5 M5 ho5 hT5 hF5=>?_⟩
   refine ⟨a,dx,ls,ll,_,_,o4,o5,rfl,hT5,by first|lia|omega,fun o6 M6 ho6 hT6 hF6=>?_⟩
   obtain ⟨n5,rfl⟩:∃m,o5=some m:=by cases o5 with|none=>cases ho5|some m=>exact ⟨m,rfl⟩
   obtain ⟨n6,rfl⟩:∃m,o6=some m:=by
    cases o6 with
    |none=>rw [Option.isSome_some,Bool.or_true] at ho6;cases ho6
    |some m=>exact ⟨m,rfl⟩
   have hF16:Fx ls ll M1 M6:=hF2.trans (hF3.trans (hF4.trans (hF5.trans hF6)))
   have hl6:=hF16 lp _ nls nll hl1
   refine ⟨rl,rr,rfl,?_⟩
   rcases hcase with ⟨hu,hpl,hrun'⟩|⟨hu,rfl,rfl⟩
   ·rw [hu]
    refine ⟨⟨rfl,_,hl6⟩,?_⟩
    refine ⟨a,dx,_,rfl,hT6.1,dM ls ll (by decide +kernel) (by decide +kernel),?_⟩
    refine ⟨a,dx,ls,ll,_,_,rl,rr,n6,rfl,hT6,by first|lia|omega,t1,t2,hdep,hpl,fun lf qs M7 hlf hqs hqt hT7 hF7=>?_⟩
    have hl7:=hF7 lp _ nls nll hl6
    have hql:qs.length≤12:=by
     have h1:=congrArg List.length hqt
     rw [List.length_map] at h1
     have h2:=zJ rl rr hpl
     (first|lia|omega)
    refine ⟨_,_,hl7,hqs,by rw [List.length_map,List.length_map];exact cL (by first|lia|omega),?_⟩
    refine ⟨k,Nat.lt_succ_self k,ps++qs,_,_,_,_,_,?_,by first|lia|omega,?_,(hup hT7 _).more (by first|lia|omega),by rw [List.length_append];(first|lia|omega),hfx (hF1.trans (hF16.trans hF7)) _,rfl⟩
    ·rw [List.map_append,hqt];exact hrun'
    ·rw [ar,List.map_append]
   ·rw [hu]
    exact ⟨_,Sub.refl _,q (some n6) M6 rfl (hT6.more (by first|lia|omega)) (hF1.trans hF16)⟩
noncomputable def within:Tree→List Int
 |.blank _=>[]
 |.block z ps=>aB [] (nums (.block z ps))
noncomputable def A1 (n:Nat):aS:=fun ds M Q=>∃t:Tree,ds=[t.d]∧t.depth≤n∧t.knots≤1000∧∀l,M l=none→Q (.ref l) (aj M l (.lst ((within t).map .int)))
theorem HP (T:Txt K mg) (n:Nat):bu P w K mg base (n+3) "blanks_within" ["root"] (A1 n):=by
 have F_blanks_of:=mH (P:=P) (w:=w) (base:=base) T n
 refine bW T.f_blanks_within Bb (fun ds M Q h=>?_) fun f cdv A outer s H E hr=>⟨_,(aq (bz (bg (cv hr) (av (af 0) ak) aQ (bj _)) (ax (aG (cq ah))) bF)
 (ax (aG (aH F_blanks_of (hr.mono (by first|lia|omega)) (ag (af 0) ah))))),fun ds M Q h=>?_⟩
 ·obtain ⟨t,rfl,_⟩:=h;rfl
 ·obtain ⟨t,rfl,hd,hk,q⟩:=h
  cases t with
  |blank k =>
   show ∀p,M p=none→_
   intro p hp
   exact ⟨_,Sub.refl _,q p hp⟩
  |block z ps=>exact ⟨.block z ps,rfl,hd,hk,fun l hl=>⟨_,Sub.refl _,q l hl⟩⟩
theorem GO (ord:List Int) (x:Int):(ba (dk ord) (.inl x)).isSome=decide (x∈ord):=by
 unfold dk
 rw [←g8,List.any_map]
 induction ord with
 |nil=>rfl
 |cons k ks ih =>
  rw [List.any_cons,ih]
  by_cases e:k=x
  ·subst e;simp
  ·have e':¬x=k:=fun z=>e z.symm
   simp [e,e']
theorem GP {ks:List Int} {n k:Int}:k∈ins ks n↔k∈ks∨k=n:=by
 unfold ins
 split
 ·next hn=>exact ⟨.inl,fun z=>z.elim id fun e=>by rw [e];exact hn⟩
 ·rw [List.mem_append,List.mem_singleton]
theorem Be {ks:List Int} {n:Int} (h:n ∉ ks):(ins ks n).length=ks.length+1:=by
 unfold ins
 rw [if_neg h,List.length_append]
 rfl
theorem GB (pre:List Int) (h:Int):bA ((pre++[h]).map D.int) (-1)=some (.int h):=by
 rw [List.map_append]
 exact HU (pre.map D.int) (.int h)
theorem sub_len {α:Type} [DecidableEq α]:∀{a b:List α},a.Nodup→(∀x∈a,x∈b)→a.length≤b.length
 |[],_,_,_=>Nat.zero_le _
 |x::a,b,hn,h=>by
  obtain ⟨h1,h2⟩:=List.nodup_cons.mp hn
  have hx:x∈b:=h x List.mem_cons_self
  have ih:=sub_len (b:=b.erase x) h2 fun y hy=>(List.mem_erase_of_ne (fun z=>h1 (by rw [←z];exact hy))).mpr (h y (List.mem_cons_of_mem _ hy))
  rw [List.length_erase_of_mem hx] at ih
  have:=List.length_pos_of_mem hx
  rw [List.length_cons]
  (first|lia|omega)
noncomputable abbrev Nx:=Int→Option Int
noncomputable def Good (nx:Nx) (ord:List Int):Prop:=∀(i:Nat) (k j:Int),ord[i]?=some k→nx k=some j→j∈ord.take i
noncomputable def ma (nx:Nx) (rank:Int→Nat):Prop:=∀k j,nx k=some j→rank j < rank k
noncomputable def kb (nx:Nx) (C:Int→Prop):Prop:=∀c,C c→∃j,C j∧nx c=some j
noncomputable def uf (M:DH) (li:Addr) (ae:List (Key×D)) (ks:List Int) (nx:Nx):Prop:=ae.map (·.1)=ks.map (fun k=>(Sum.inl k:Key))∧∀k∈ks,∃l,l≠li∧ba ae (.inl k)=some (.ref l)∧M l=some (.lst ((nx k).toList.map .int))
noncomputable def CA:aS:=fun ds M Q=>∃(li:Addr) (ae:List (Key×D)) (ks:List Int) (nx:Nx),ds=[.ref li]∧M li=some (.dic ae)∧uf M li ae ks nx∧ks.Nodup∧ks.length≤40∧(∀k j,k∈ks→nx k=some j→j∈ks) ∧
 (∀l1 l2 ord M',Sub M M'→M' l1=some (.lst (ord.map .int))→M' l2=some (.lst [])→ord.Nodup→(∀k,k∈ord↔k∈ks)→Good nx ord→(∀C,kb nx C→∀c,C c→c ∉ ord)→Q (.tup [.ref l1,.ref l2]) M') ∧
 ∀l1 l2 cyc M',Sub M M'→M' l2=some (.lst (cyc.map .int))→cyc≠[]→cyc.length≤100→(∀k∈cyc,k∈ks)→(∀rank,¬ma nx rank)→Q (.tup [.ref l1,.ref l2]) M'
noncomputable def ig (nx:Nx):List Int→Prop
 |a::b::r=>nx a=some b∧ig nx (b::r)
 |_=>True
theorem uW {nx:Nx}:∀{pre:List Int} {h:Int},ig nx (pre++[h])→ig nx pre
 |[],_,_=>trivial
 |[_],_,_=>trivial
 |a::b::r,h,⟨h1,h2⟩=>⟨h1,uW (pre:=b::r) h2⟩
theorem su {nx:Nx} {j:Int}:∀{pre:List Int} {h:Int},ig nx (pre++[h])→nx h=some j→ig nx (pre++[h]++[j])
 |[],_,_,e=>⟨e,trivial⟩
 |[_],_,⟨h1,_⟩,e=>⟨h1,e,trivial⟩
 |a::b::r,h,⟨h1,h2⟩,e=>⟨h1,su (pre:=b::r) h2 e⟩
theorem uT {nx:Nx} {rank:Int→Nat} (hf:ma nx rank):∀{pre:List Int} {h:Int},ig nx (pre++[h])→∀k∈pre++[h],rank h≤rank k
 |[],h,_,k,hk=>by rw [List.mem_singleton.mp hk];exact Nat.le_refl _
 |[a],h,⟨h1,_⟩,k,hk=>by
  have:=hf a h h1
  rcases List.mem_cons.mp hk with e|e
  ·rw [e];(first|lia|omega)
  ·rw [List.mem_singleton.mp e];exact Nat.le_refl _
 |a::b::r,h,⟨h1,h2⟩,k,hk=>by
  have ih:=uT hf (pre:=b::r) h2
  have:=hf a b h1
  have h3:=ih b List.mem_cons_self
  rcases List.mem_cons.mp hk with e|e
  ·rw [e];(first|lia|omega)
  ·exact ih k e
theorem EY {nx:Nx} {ord:List Int} {h:Int} (g:Good nx ord) (hn:∀j,nx h=some j→j∈ord):Good nx (ins ord h):=by
 unfold ins
 split
 ·exact g
 ·intro i k j e1 e2
  rcases Nat.lt_or_ge i ord.length with hi|hi
  ·rw [List.getElem?_append_left hi] at e1
   rw [List.take_append_of_le_length (Nat.le_of_lt hi)]
   exact g i k j e1 e2
  ·rw [List.getElem?_append_right hi] at e1
   have h0:i-ord.length=0:=by
    rcases Nat.eq_zero_or_pos (i-ord.length) with z|z
    ·exact z
    ·rw [List.getElem?_eq_none (by simp;(first|lia|omega))] at e1;cases e1
   rw [h0,List.getElem?_cons_zero] at e1
   cases e1
   have hie:i=ord.length:=by (first|lia|omega)
   rw [hie,List.take_left']
   ·exact hn j e2
   ·rfl
theorem AG (T:Txt K mg):bu P w K mg base 1 "arranged" ["inner"] CA:=by
  have m_len:=T.m_len
  have m_list:=T.m_list
  refine bW T.f_arranged jF (fun ds M Q h=>?_) fun f cdv A outer s H E hr=>⟨_,(aq (aE (i:=1) jF.nd fq)
 (aq (rK PassesOwn.never rfl (af 0) (bE (i:=2) jF.nd) (aq (aE (i:=3) jF.nd (cq (ag (af 2) ah)))
 (ax (nP PassesOwn.never (bg jH (cG dn rfl m_len df (ag (af 3) ah)) ak (bj _)) (aq (aE (i:=4) jF.nd (av (af 3) (FA ak)))
 (aq (Fl (i:=5) jF.nd (Nc:=["number", "order"]) (js:=[none,some 1]) (dN ["inner", "order", "start", "path", "here", "ahead"] (au gI).names rfl rfl rfl rfl (by decide +kernel) (by decide +kernel) (by decide +kernel) rfl (by decide +kernel)) rfl (iJ hr (af 0) (af 4)) (fun C s H fp=>(bE (i:=0) (by show List.Nodup (["number", "order"]:List Str);decide +kernel))) (fun C s H fp=>Or.inr ⟨_,rfl,(bg (ou hr) (af 0) (af 1) (rfl))⟩) (fun C s H fp=>(af 0)))
 (ax (bz (bg (cv hr) (cG dn rfl m_len df (ag (af 5) ah)) ak (bj _)) (aq (dq eJ (eU hr (af 1) (af 4)))
 (ax (eh (C7 PySem.F.plainAttrs_list PySem.F.slot_list_pop PySem.F.type_list_pop Al (af 3))))) (ax (bz (bg (Dj hr) (av (af 5) ak) (af 3) (rfl)) (ax (aG (aM (ag (dX (pJ rfl) rfl m_list qr (ag (af 1) ah)) (ag (gg fZ (af 3) (fC (eM PySem.F.plainAttrs_list PySem.F.slot_list_index PySem.F.type_list_index Hw (af 3) (ag (av (af 5) ak) ah))) jR) ah))))) (ax (eh (eM PySem.F.plainAttrs_list PySem.F.slot_list_append PySem.F.type_list_append i5 (af 3) (ag (av (af 5) ak) ah))))))))))))))
 (by
   refine' ax ?x1
   case x1 =>
    refine' aG ?x2
    case x2 =>
     refine' aM ?x3
     case x3 =>
      refine' ag ?x5 ?x4
      case x5 =>
       exact (dX (pJ rfl) rfl m_list qr (ag (af 1) ah))
      case x4 =>
       refine' ag ?x7 ?x6
       case x7 =>
        refine' cq ?x8
        case x8 =>
         exact ah
       case x6 =>
        exact ah
          ))),fun ds M Q h=>?_⟩
  · obtain ⟨li,ae,ks,nx,rfl,_⟩:=h;rfl
  · obtain ⟨li,ae,ks,nx,rfl,hli,hin,hnd,hlen,hcl,q1,q2⟩:=h
    show ∀lo,M lo=none→_
    intro lo hlo
    have nlo:li≠lo:=fun z=>by rw [←z,hli] at hlo;cases hlo
    have hkl:ae.length=ks.length:=by have:=congrArg List.length hin.1;rwa [List.length_map,List.length_map] at this
    refine ⟨ae,by rw [ay nlo];exact hli,fun i τ M'=>(∃v2 v3 v4 v5:Option D,τ=[some (.ref li),some (.ref lo),v2,v3,v4,v5])∧M' li=some (.fdc ae)∧(∀c o,c≠li→M c=some o→M' c=some o)∧∃ord:List Int,M' lo=some (.dic (dk ord))∧ord.Nodup∧(∀k∈ord,k∈ks)∧(∀k∈ks.take i,k∈ord)∧Good nx ord∧∀C,kb nx C→∀c,C c→c ∉ ord,
      ⟨⟨none,none,none,none,rfl⟩,ar,fun c o hc e=>?_,[],?_,List.nodup_nil,fun k h=>(nomatch h),fun k h=>(nomatch h),fun i k j e=>(nomatch e),fun _ _ _ _ h=>(nomatch h)⟩,fun i τ M' _ hW=>hW.2.1,?_,?_⟩
    · rw [ay hc,ay (fun z=>by rw [z,hlo] at e;cases e)];exact e
    · rw [ay (Ne.symm nlo),ar];rfl
    · rintro i k d τ M' ek ⟨⟨v2,v3,v4,v5,rfl⟩,hfi,hfr,ord,ho,hnd',ao,hta,hg,hC⟩
      obtain ⟨k0,rfl,ek0⟩:∃k0:Int,k=.inl k0∧ks[i]?=some k0:=by
        have h1:=congrArg (fun l=>l[i]?) hin.1
        simp only [List.getElem?_map,ek] at h1
        cases e:ks[i]? with
        |none=>rw [e] at h1;cases h1
        |some k0=>rw [e] at h1;exact ⟨k0,Option.some.inj h1,rfl⟩
      have hk0:k0∈ks:=List.mem_of_getElem? ek0
      show ∀lp,M' lp=none→_
      intro lp hlp
      have nli:lp≠li:=fun z=>by rw [z,hfi] at hlp;cases hlp
      have nlo2:lp≠lo:=fun z=>by rw [z,ho] at hlp;cases hlp
      have hnM:∀c o,c≠li→M c=some o→c≠lp:=fun c o h1 e z=>by rw [←z,hfr c o h1 e] at hlp;cases hlp
      refine ⟨fun m τ M2=>∃(ord path:List Int) (v4 v5:Option D),τ=[some (.ref li),some (.ref lo),some (.int k0),some (.ref lp),v4,v5]∧M2 li=some (.fdc ae)∧(∀c o,c≠li→M c=some o→M2 c=some o)∧M2 lo=some (.dic (dk ord))∧M2 lp=some (.lst (path.map .int))∧ord.Nodup∧(∀k∈ord,k∈ks)∧(∀k∈ks.take i,k∈ord)∧Good nx ord∧(∀C,kb nx C→∀c,C c→c ∉ ord)∧(∀k∈path,k∈ks)∧path.Nodup∧ig nx path∧(k0∈path∨k0∈ord) ∧
          (((∀k∈path,k ∉ ord)∧m=2*(ks.length-ord.length)+1-path.length)∨(path=[k0]∧k0∈ord∧m=2*(ks.length-ord.length)+2)),?_,?_⟩
      · refine ⟨if k0∈ord then 2*(ks.length-ord.length)+2 else 2*(ks.length-ord.length)+1-1,ord,[k0],_,_,rfl,by rw [ay (Ne.symm nli)];exact hfi,fun c o h1 e=>by rw [ay (hnM c o h1 e)];exact hfr c o h1 e,by rw [ay (Ne.symm nlo2)];exact ho,ar,hnd',ao,hta,hg,hC,fun k hk=>by rw [List.mem_singleton.mp hk];exact hk0,by simp,trivial,.inl (by simp),?_⟩
        · by_cases hm:k0∈ord
          · exact .inr ⟨rfl,hm,by rw [if_pos hm]⟩
          · exact .inl ⟨fun k hk=>by rw [List.mem_singleton.mp hk];exact hm,by rw [if_neg hm];rfl⟩
      · clear hfi hfr ho hnd' ao hta hg hC ord hlp v4 v5 v2 v3
        rintro m τ M2 ⟨ord,path,v4,v5,rfl,hfi,hfr,ho,hp,hnd',ao,hta,hg,hC,hpk,hpn,hrk,hk0p,hm⟩
        refine ⟨_,hp,?_⟩
        rw [List.length_map]
        show if decide ((0:Int) < (path.length:Int))=true then _ else _
        rcases List.eq_nil_or_concat path with rfl|⟨pre,h,hpath⟩
        · refine gD (by simp) ?_
          refine ⟨⟨_,_,_,_,rfl⟩,hfi,hfr,ord,ho,hnd',ao,fun k hk=>?_,hg,hC⟩
          rw [List.take_add_one,ek0] at hk
          rcases List.mem_append.mp hk with h|h
          · exact hta k h
          · have:k=k0:=by simpa using h
            rw [this]
            exact hk0p.elim (fun z=>(nomatch z)) id
        · rw [List.concat_eq_append] at hpath
          subst hpath
          refine fO (by simp) ?_
          refine ⟨_,.int h,hp,GB pre h,?_⟩
          have hhk:h∈ks:=hpk h (by simp)
          obtain ⟨lh,nlh,hval,hlh⟩:=hin.2 h hhk
          have hlh2:=hfr lh _ nlh hlh
          refine ⟨.inl h,ae,.ref lh,rfl,.inr hfi,hval,?_⟩
          refine ⟨_,hlh2,⟨by rw [List.length_map];cases nx h<;>simp,lB ord,fun d hd p acc hpp=>?_,fun la hla=>?_⟩⟩
          · obtain ⟨x,_,rfl⟩:=List.mem_map.mp hd
            refine ⟨gB,Or.inl ⟨.inl x,dk ord,rfl,.inl (Sub.new hpp _ _ ho),?_⟩⟩
            rw [GO]
            show if (!decide (x∈ord))=true then _ else _
            by_cases c:x∈ord
            · rw [decide_eq_true c];exact ⟨rfl,if_pos c⟩
            · rw [decide_eq_false c];exact ⟨rfl,if_neg c⟩
          · rw [lS]
            have nla1:la≠li:=fun z=>by rw [z,hfi] at hla;cases hla
            have nla2:la≠lo:=fun z=>by rw [z,ho] at hla;cases hla
            have nla3:la≠lp:=fun z=>by rw [z,hp] at hla;cases hla
            have hbnd:ord.length+(pre++[h]).length≤ks.length∨h∈ord:=by
              rcases hm with ⟨hA,_⟩|⟨hB,hB2,_⟩
              · refine .inl ?_
                rw [←List.length_append]
                refine sub_len (List.nodup_append.mpr ⟨hnd',hpn,fun a ha b hb z=>hA b hb (z▸ha)⟩) fun x hx=>?_
                rcases List.mem_append.mp hx with hx|hx
                · exact ao x hx
                · exact hpk x hx
              · have:h=k0:=by
                  have:=congrArg List.getLast? hB
                  rw [List.getLast?_concat] at this
                  exact Option.some.inj this
                exact .inr (by rw [this];exact hB2)
            refine ⟨_,ar,?_⟩
            rw [List.length_map]
            have hS3:∀c o,M2 c=some o→aj M2 la (.lst (((nx h).toList.filter fun k=>decide (k ∉ ord)).map D.int)) c=some o:=fun c o e=>Sub.new hla c o e
            have hl3:aj M2 la (.lst (((nx h).toList.filter fun k=>decide (k ∉ ord)).map D.int)) la=some (.lst (((nx h).toList.filter fun k=>decide (k ∉ ord)).map D.int)):=ar
            have pop:(∀j,nx h=some j→j∈ord)→(nx h).toList.filter (fun k=>decide (k ∉ ord))=[]:=fun hj=>by
              cases e:nx h with
              |none=>rfl
              |some j =>
                show [j].filter _=_
                rw [List.filter_cons_of_neg (by simpa using hj j e)]
                rfl
            by_cases hj:∀j,nx h=some j→j∈ord
            · rw [pop hj] at hS3 hl3 ⊢
              refine ⟨.inl h,_,rfl,hS3 _ _ ho,by unfold dk;rw [List.length_map];exact cC (by have:=sub_len hnd' ao;(first|lia|omega)),?_⟩
              have eI:putD (dk ord) (.inl h) (.bl true)=dk (ins ord h):=uV ord h
              rw [eI]
              have hp4:aj (aj M2 la (.lst [])) lo (.dic (dk (ins ord h))) lp=some (.lst (pre.map D.int++[.int h])):=by
                rw [ay nlo2]
                have:=hS3 _ _ hp
                rw [List.map_append] at this
                exact this
              refine ⟨⟨rfl,_,hp4⟩,pre.map D.int,.int h,hp4,?_⟩
              have hmem':∀k,k∈ins ord h↔k∈ord∨k=h:=fun k=>GP
              have npl:h ∉ pre:=fun z=>by
                have:=(List.nodup_append.mp hpn).2.2 _ z h (by simp)
                exact this rfl
              refine ⟨2*(ks.length-(ins ord h).length)+1-pre.length,?_,ins ord h,pre,_,_,rfl,?_,?_,?_,?_,uv h hnd',?_,?_,EY hg hj,?_,?_,(List.nodup_append.mp hpn).1,?_,?_,.inl ⟨?_,rfl⟩⟩
              · rcases hm with ⟨hA,hm⟩|⟨hB,hB2,hm⟩
                · have hho:h ∉ ord:=hA h (by simp)
                  rw [Be hho,hm,List.length_append]
                  rcases hbnd with hb|hb
                  · rw [List.length_append] at hb
                    simp only [List.length_singleton] at hb ⊢
                    (first|lia|omega)
                  · exact absurd hb hho
                · have hpre:pre=[]:=by
                    have:=congrArg List.length hB
                    rw [List.length_append] at this
                    simp only [List.length_singleton] at this
                    exact List.length_eq_zero_iff.mp (by first|lia|omega)
                  have hh:h∈ord:=by
                    rcases hbnd with hb|hb
                    · have:h=k0:=by rw [hpre] at hB;simpa using hB
                      rw [this];exact hB2
                    · exact hb
                  have:ins ord h=ord:=by unfold ins;rw [if_pos hh]
                  rw [this,hm,hpre]
                  simp only [List.length_nil]
                  (first|lia|omega)
              · rw [ay (Ne.symm nli),ay nlo];exact hS3 _ _ hfi
              · intro c o h1 e
                have hc1:c≠lp:=fun z=>by
                  have h2:=hnM c o h1 e
                  exact h2 z
                have hc2:c≠lo:=fun z=>by rw [z,hlo] at e;cases e
                rw [ay hc1,ay hc2]
                exact hS3 _ _ (hfr c o h1 e)
              · rw [ay (Ne.symm nlo2),ar]
              · exact ar
              · intro k hk
                rcases (hmem' k).mp hk with hk|hk
                · exact ao k hk
                · rw [hk];exact hhk
              · intro k hk
                exact (hmem' k).mpr (.inl (hta k hk))
              · intro C hCr c hc z
                rcases (hmem' c).mp z with z|z
                · exact hC C hCr c hc z
                · subst z
                  obtain ⟨j,hj1,hj2⟩:=hCr c hc
                  exact hC C hCr j hj1 (hj j hj2)
              · intro k hk
                exact hpk k (List.mem_append_left _ hk)
              · exact uW hrk
              · rcases hk0p with z|z
                · rcases List.mem_append.mp z with z|z
                  · exact .inl z
                  · exact .inr ((hmem' k0).mpr (.inr (List.mem_singleton.mp z)))
                · exact .inr ((hmem' k0).mpr (.inl z))
              · intro k hk z
                rcases (hmem' k).mp z with z|z
                · rcases hm with ⟨hA,_⟩|⟨hB,_,_⟩
                  · exact hA k (List.mem_append_left _ hk) z
                  · have:pre=[]:=by
                      have:=congrArg List.length hB
                      rw [List.length_append] at this
                      simp only [List.length_singleton] at this
                      exact List.length_eq_zero_iff.mp (by first|lia|omega)
                    rw [this] at hk
                    cases hk
                · exact npl (z▸hk)
            · obtain ⟨j,ej,hjo⟩:∃j,nx h=some j∧j ∉ ord:=by
                cases e:nx h with
                |none=>exact absurd (fun j z=>by rw [e] at z;cases z) hj
                |some j=>exact ⟨j,rfl,fun z=>hj fun j' e'=>by rw [e] at e';cases e';exact z⟩
              have hho:h ∉ ord:=fun z=>by
                obtain ⟨i,hi⟩:=List.mem_iff_getElem?.mp z
                exact hjo (List.mem_of_mem_take (hg i h j hi ej))
              have hA:(∀k∈pre++[h],k ∉ ord)∧m=2*(ks.length-ord.length)+1-(pre++[h]).length:=by
                rcases hm with h1|⟨hB,hB2,_⟩
                · exact h1
                · have:h=k0:=by
                    have:=congrArg List.getLast? hB
                    rw [List.getLast?_concat] at this
                    exact Option.some.inj this
                  rw [this] at hho
                  exact absurd hB2 hho
              have hbn:ord.length+(pre++[h]).length≤ks.length:=hbnd.elim id fun z=>absurd z hho
              have hjk:j∈ks:=hcl h j hhk ej
              have efl:(nx h).toList.filter (fun k=>decide (k ∉ ord))=[j]:=by
                rw [ej]
                show [j].filter _=_
                rw [List.filter_cons_of_pos (by simpa using hjo)]
                rfl
              rw [efl] at hS3 hl3 ⊢
              refine ⟨_,_,hl3,rfl,Or.inr ⟨_,hS3 _ _ hp,rfl,qX _,?_⟩⟩
              rw [any_ints]
              show if decide (j∈pre++[h])=true then _ else _
              by_cases hjp:j∈pre++[h]
              · refine fO hjp ?_
                refine ⟨_,.inl (hS3 _ _ ho),fun l1 hl1=>?_⟩
                have hp5:=Sub.new (o:=.lst ((dk ord).map fun kv=>gP kv.1)) hl1 _ _ (hS3 _ _ hp)
                have hfi5:=Sub.new (o:=.lst ((dk ord).map fun kv=>gP kv.1)) hl1 _ _ (hS3 _ _ hfi)
                refine ⟨⟨rfl,_,hp5⟩,_,_,Sub.new hl1 _ _ hl3,rfl,pre++[h],hp5,by first|lia|omega,hjp,?_⟩
                refine ⟨_,hp5,fun l2 hl2=>?_⟩
                refine ⟨Sub.new hl2 _ _ hfi5,?_⟩
                have nl2:l2≠li:=fun z=>by rw [z,hfi5] at hl2;cases hl2
                have ecut:DL.cutD ((pre++[h]).map D.int) (some (((pre++[h]).idxOf j:Nat):Int)) none=((pre++[h]).drop ((pre++[h]).idxOf j)).map D.int:=by rw [um,List.map_drop]
                have hix:(pre++[h]).idxOf j < (pre++[h]).length:=List.idxOf_lt_length_iff.mpr hjp
                refine ⟨_,Sub.refl _,q2 l1 l2 ((pre++[h]).drop ((pre++[h]).idxOf j)) _ ?_ ?_ ?_ (by rw [List.length_drop];(first|lia|omega)) ?_ ?_⟩
                · intro c o e
                  by_cases z:c=li
                  · subst z;rw [hli] at e;cases e;exact ar
                  · rw [ay z]
                    exact Sub.new hl2 _ _ (Sub.new hl1 _ _ (hS3 _ _ (hfr c o z e)))
                · rw [ay nl2,ar,ecut]
                · intro z
                  have:=congrArg List.length z
                  rw [List.length_drop,List.length_nil] at this
                  (first|lia|omega)
                · intro k hk
                  exact hpk k (List.mem_of_mem_drop hk)
                · intro rank hf
                  have h1:=uT hf hrk j hjp
                  have h2:=hf h j ej
                  (first|lia|omega)
              · refine gD hjp ?_
                refine ⟨⟨rfl,_,hS3 _ _ hp⟩,_,_,hl3,rfl,_,hS3 _ _ hp,cC (by rw [List.length_map];(first|lia|omega)),?_⟩
                have hbn2:ord.length+(pre++[h]++[j]).length≤ks.length:=by
                  rw [←List.length_append]
                  refine sub_len (List.nodup_append.mpr ⟨hnd',List.nodup_append.mpr ⟨hpn,by simp,fun a ha b hb z=>hjp (by rw [List.mem_singleton] at hb;rw [←hb,←z];exact ha)⟩,fun a ha b hb z=>?_⟩) fun x hx=>?_
                  · rcases List.mem_append.mp hb with hb|hb
                    · exact hA.1 b hb (z▸ha)
                    · rw [List.mem_singleton] at hb;exact hjo (by rw [←hb,←z];exact ha)
                  · rcases List.mem_append.mp hx with hx|hx
                    · exact ao x hx
                    · rcases List.mem_append.mp hx with hx|hx
                      · exact hpk x hx
                      · rw [List.mem_singleton.mp hx];exact hjk
                refine ⟨2*(ks.length-ord.length)+1-(pre++[h]++[j]).length,?_,ord,pre++[h]++[j],_,_,rfl,?_,?_,?_,?_,hnd',ao,hta,hg,hC,?_,?_,su hrk ej,?_,.inl ⟨?_,rfl⟩⟩
                · rw [hA.2]
                  rw [List.length_append] at hbn2 ⊢
                  simp only [List.length_singleton] at hbn2 ⊢
                  (first|lia|omega)
                · rw [ay (Ne.symm nli)];exact hS3 _ _ hfi
                · intro c o h1 e
                  rw [ay (hnM c o h1 e)]
                  exact hS3 _ _ (hfr c o h1 e)
                · rw [ay (Ne.symm nlo2)];exact hS3 _ _ ho
                · rw [ar,List.map_append (l₁:=pre++[h])];rfl
                · intro k hk
                  rcases List.mem_append.mp hk with hk|hk
                  · exact hpk k hk
                  · rw [List.mem_singleton.mp hk];exact hjk
                · exact List.nodup_append.mpr ⟨hpn,by simp,fun a ha b hb z=>hjp (by rw [List.mem_singleton] at hb;rw [←hb,←z];exact ha)⟩
                · exact hk0p.elim (fun z=>.inl (List.mem_append_left _ z)) .inr
                · intro k hk
                  rcases List.mem_append.mp hk with hk|hk
                  · exact hA.1 k hk
                  · rw [List.mem_singleton.mp hk];exact hjo
    · rintro τ M' ⟨⟨v2,v3,v4,v5,rfl⟩,hfi,hfr,ord,ho,hnd',ao,hta,hg,hC⟩
      rw [hkl,List.take_length] at hta
      have hS:Sub M (aj M' li (.dic ae)):=fun c o e=>by
        by_cases z:c=li
        · subst z;rw [hli] at e;cases e;exact ar
        · rw [ay z];exact hfr c o z e
      have ho':aj M' li (.dic ae) lo=some (.dic (dk ord)):=by rw [ay (Ne.symm nlo)];exact ho
      refine ⟨_,.inl ho',fun l1 hl1=>?_⟩
      show ∀l2,_=none→_
      intro l2 hl2
      refine ⟨_,Sub.refl _,q1 l1 l2 ord _ ((hS.trans (Sub.new hl1)).trans (Sub.new hl2)) (Sub.new hl2 _ _ ?_) ar hnd' (fun k=>⟨ao k,hta k⟩) hg hC⟩
      rw [ar]
      unfold dk
      rw [List.map_map]
      rfl
theorem uA {L:bh} {t0 r:Tree} {p:List Tree} (h:Ch L t0 p r):∀{q:List Tree} {t s:Tree},Ch L t q s→∃q',Ch (bI L p r) t q' s∧q'.Sublist q
 |[],t,s,⟨a,n⟩=>by
  refine ⟨[],⟨a,?_⟩,.slnil⟩
  unfold bI
  rw [if_neg fun z=>by obtain ⟨v,e⟩:=mS h z;rw [n] at e;cases e]
  exact n
 |x::q,t,s,hc=>by
  obtain ⟨a,v,h1,h2⟩:=id hc
  by_cases ht:t∈p
  ·obtain ⟨q2,g1,_⟩:=tW h ht
   have e:=(tJ g1 hc).2
   subst e
   refine ⟨[t],⟨rfl,r,by unfold bI;rw [if_pos ht],rfl,?_⟩,by rw [a];exact List.Sublist.cons₂ x (List.nil_sublist q)⟩
   unfold bI
   rw [if_neg fun z=>by obtain ⟨v,e⟩:=mS h z;rw [qx h] at e;cases e]
   exact qx h
  ·obtain ⟨q',g1,g2⟩:=uA h h2
   exact ⟨t::q',⟨rfl,v,by unfold bI;rw [if_neg ht];exact h1,g1⟩,by rw [a];exact List.Sublist.cons₂ x g2⟩
theorem Ad {L:bh} {t0 r:Tree} {p:List Tree} (h:Ch L t0 p r) {t s:Tree} (hw:∃q,Way L t q s):∃q,Way (bI L p r) t q s:=by
 obtain ⟨q,h1,h2,h3,h4,h5⟩:=hw
 obtain ⟨q',g1,g2⟩:=uA h h1
 exact ⟨q',g1,fun u hu=>h2 u (g2.subset hu),h3,h4.sublist g2,Nat.le_trans g2.length_le h5⟩
noncomputable def pairD (R:Int→Tree) (k:Int):D:=.tup [.int k,(R k).d]
noncomputable def bR (one other:Tree):List Int:=aB [] (nums one)++aB [] (nums other)
noncomputable def EE (mg:Str→Option Value):aS:=fun ds M Q=>∃(one other:Tree) (n:Nat) (b:Bool) (L':bh),ds=[one.d,other.d]∧n≤28∧Run n (fun _=>none) [(one,other)] b L'∧(one.depth≤20∧one.knots≤400)∧(other.depth≤20∧other.knots≤400) ∧
 (b=true→∀x l M',Sub M M'→Q (.tup [.tup x,.ref l]) M') ∧
 (b=false→(bR one other).Nodup∧(bR one other).length≤30∧∃(R:Int→Tree) (nx:Nx),(∀k∈bR one other,(∃p,Way L' (.blank k) p (R k))∧((R k).depth≤20∧(R k).knots≤400)∧within (R k)=(nx k).toList∧∀j,nx k=some j→j∈bR one other) ∧
  (∀ord l M',Sub M M'→M' l=some (.lst (ord.map (pairD R)))→ord.Nodup→(∀k,k∈ord↔k∈bR one other)→Good nx ord→(∀C,kb nx C→∀c,C c→c ∉ ord)→Q (.tup [.non,.ref l]) M') ∧
  ∀x l M',Sub M M'→(∀rank,¬ma nx rank)→Q (.tup [.tup x,.ref l]) M')
noncomputable def sm (R:Int→Tree):D→Option D
 |.int k=>some (pairD R k)
 |_=>none
theorem Dt (R:Int→Tree) (ks:List Int):(ks.map D.int).filterMap (sm R)=ks.map (pairD R):=by
 rw [List.filterMap_map,←List.filterMap_eq_map]
 rfl
theorem Bm {ae:List (Key×D)} {ks:List Int} {k:Int} (h:ae.map (·.1)=ks.map fun k=>(Sum.inl k:Key)) (hn:k ∉ ks):ba ae (.inl k)=none:=by
 have h1:(ba ae (.inl k)).isSome=false:=by
  rw [←g8,List.any_eq_false]
  intro kv hkv e
  have h2:kv.1∈ae.map (·.1):=List.mem_map.mpr ⟨kv,hkv,rfl⟩
  rw [h,of_decide_eq_true e] at h2
  obtain ⟨j,hj,ej⟩:=List.mem_map.mp h2
  cases ej
  exact hn hj
 cases e:ba ae (.inl k) with
 |none=>rfl
 |some d=>rw [e] at h1;cases h1
theorem ud {ae:List (Key×D)} {ks:List Int} {k:Int} {d:D} (h:ae.map (·.1)=ks.map fun k=>(Sum.inl k:Key)) (hn:k ∉ ks):(putD ae (.inl k) d).map (·.1)=(ks++[k]).map (fun k=>(Sum.inl k:Key))∧(∀j∈ks,ba (putD ae (.inl k) d) (.inl j)=ba ae (.inl j))∧ba (putD ae (.inl k) d) (.inl k)=some d:=by
 have hv:=Bm h hn
 rw [m9 d hv]
 refine ⟨by rw [List.map_append,List.map_append,h];rfl,fun j hj=>?_,?_⟩
 ·rw [om _ _ _ _ hv,if_neg (fun z=>hn (by cases z;exact hj))]
 ·rw [om _ _ _ _ hv,if_pos rfl]
noncomputable def Bq (kr:List (Key×D)) (ks:List Int) (R:Int→Tree):Prop:=kr.map (·.1)=ks.map (fun k=>(Sum.inl k:Key))∧∀k∈ks,∃o:Option Int,ba kr (.inl k)=some (.tup [(R k).d,nD o])
theorem bb.at {M:DH} {a dx ls ll c:Addr} {B:Nat} {L:bh} {o:MO} (h:bb P w mg M a dx ls ll B L) (h1:c≠a) (h2:c≠ls) (h3:c≠ll):bb P w mg (aj M c o) a dx ls ll B L:=by
 obtain ⟨g1,⟨st,g2,g3⟩,ae,g4,g5⟩:=h
 exact ⟨by rw [ay (Ne.symm h1)];exact g1,⟨st,by rw [ay (Ne.symm h2)];exact g2,g3⟩,ae,by rw [ay (Ne.symm h3)];exact g4,g5⟩
noncomputable def wY:Option D→Option D
 |some (.tup [_,x])=>some x
 |_=>none
noncomputable def yM (kr:List (Key×D)):D→Option D
 |.int k=>wY (ba kr (.inl k))
 |_=>none
theorem DU (T:Txt K mg):bu P w K mg base 24 "settled" ["one", "other"] (EE mg):=by
  have m_len:=T.m_len
  have F_Ties___init__:=Es (P:=P) (w:=w) (base:=base) T
  have F_Ties_tie:=(Ew (P:=P) (w:=w) (base:=base) T).mono (show 4≤23 by first|lia|omega)
  have F_Ties_root_of:=(wF (P:=P) (w:=w) (base:=base) T).mono (show 3≤23 by first|lia|omega)
  have F_blanks_of:=(mH (P:=P) (w:=w) (base:=base) T 20).mono (show 22≤23 by first|lia|omega)
  have F_blanks_within:=HP (P:=P) (w:=w) (base:=base) T 20
  have F_arranged:=(AG (P:=P) (w:=w) (base:=base) T).mono (show 1≤23 by first|lia|omega)
  refine bW T.f_settled ip (fun ds M Q h=>?_) fun f cdv A outer s H E hr=>⟨_,(aq (aE (i:=2) ip.nd (GU F_Ties___init__ (hr.mono (by first|lia|omega)) T.n_Ties))
 (aq (aE (i:=3) ip.nd (dG T.c_Ties F_Ties_tie (hr.mono (by first|lia|omega)) (af 2) (ag (af 0) (ag (af 1) ah))))
 (aq (bz (bg iK (af 3) cF (bj _)) (by
   refine' ax ?x9
   case x9 =>
    refine' aG ?x10
    case x10 =>
     refine' aM ?x11
     case x11 =>
      refine' ag ?x13 ?x12
      case x13 =>
       refine' aM ?x14
       case x14 =>
        refine' ag ?x16 ?x15
        case x16 =>
         exact (eW T.c_Ties T.a_Ties_steps (af 2))
        case x15 =>
         refine' ag ?x18 ?x17
         case x18 =>
          refine' aM ?x19
          case x19 =>
           refine' ag ?x21 ?x20
           case x21 =>
            exact aQ
           case x20 =>
            refine' ag ?x23 ?x22
            case x23 =>
             exact (af 3)
            case x22 =>
             exact ah
         case x17 =>
          exact ah
      case x12 =>
       refine' ag ?x25 ?x24
       case x25 =>
        refine' cq ?x26
        case x26 =>
         exact ah
       case x24 =>
        exact ah
          ) bF)
 (aq (aE (i:=4) ip.nd fq)
 (aq (aE (i:=5) ip.nd fq)
 (aq (fM PassesOwn.never rfl (aL bD (aH F_blanks_of (hr.mono (by first|lia|omega)) (ag (af 0) ah)) (aH F_blanks_of (hr.mono (by first|lia|omega)) (ag (af 1) ah))) (bE (i:=6) ip.nd) (aq (dq (dG T.c_Ties F_Ties_root_of (hr.mono (by first|lia|omega)) (af 2) (ag (aM (ag aQ (ag (af 6) ah))) ah)) (eU hr (af 4) (af 6)))
 (ax (dq (aH F_blanks_within (hr.mono (by first|lia|omega)) (ag (av (iJ hr (af 4) (af 6)) ak) ah)) (eU hr (af 5) (af 6))))))
 (aq (aE (i:=7) ip.nd (aH F_arranged (hr.mono (by first|lia|omega)) (ag (af 5) ah)))
 (aq (bz (bg jH (cG dn rfl m_len df (ag (av (af 7) ak) ah)) ak (bj _)) (by
   refine' ax ?x27
   case x27 =>
    refine' aG ?x28
    case x28 =>
     refine' aM ?x29
     case x29 =>
      refine' ag ?x31 ?x30
      case x31 =>
       refine' aM ?x32
       case x32 =>
        refine' ag ?x34 ?x33
        case x34 =>
         exact (eW T.c_Ties T.a_Ties_steps (af 2))
        case x33 =>
         refine' ag ?x36 ?x35
         case x36 =>
          refine' aM ?x37
          case x37 =>
           refine' ag ?x39 ?x38
           case x39 =>
            exact aQ
           case x38 =>
            refine' ag ?x41 ?x40
            case x41 =>
             exact (jN (Nc:=["number", "roots"]) (js:=[none,some 4]) (dN ["one", "other", "ties", "clash", "roots", "inner", "number", "told"] (au gp).names rfl rfl rfl rfl (by decide +kernel) (by decide +kernel) (by decide +kernel) rfl (by decide +kernel)) rfl (av (af 7) ak) (fun C s H fp=>(bE (i:=0) (by show List.Nodup (["number", "roots"]:List Str);decide +kernel))) (fun C s H fp=>Or.inl ⟨rfl,rfl⟩) (fun C s H fp=>(av (iJ hr (af 1) (af 0)) ak)))
            case x40 =>
             exact ah
         case x35 =>
          exact ah
      case x30 =>
       refine' ag ?x43 ?x42
       case x43 =>
        refine' cq ?x44
        case x44 =>
         exact ah
       case x42 =>
        exact ah
          ) bF)
 (ax (aG (aM (ag cF (ag (jN (Nc:=["number", "roots"]) (js:=[none,some 4]) (dN ["one", "other", "ties", "clash", "roots", "inner", "number", "told"] (au gp).names rfl rfl rfl rfl (by decide +kernel) (by decide +kernel) (by decide +kernel) rfl (by decide +kernel)) rfl (av (af 7) ak) (fun C s H fp=>(bE (i:=0) (by show List.Nodup (["number", "roots"]:List Str);decide +kernel))) (fun C s H fp=>Or.inl ⟨rfl,rfl⟩) (fun C s H fp=>(aM (ag (af 0) (ag (av (iJ hr (af 1) (af 0)) ak) ah))))) ah))))))))))))),fun ds M Q h=>?_⟩
  · obtain ⟨one,other,n,b,L',rfl,_⟩:=h;rfl
  · obtain ⟨one,other,n,b,L',rfl,hn,hrun,⟨d1,k1⟩,⟨d2,k2⟩,q1,q2⟩:=h
    show ∀a dx,M a=none→_
    intro a dx ha
    refine ⟨a,dx,rfl,ar,fun ls ll M1 hls hll ht hfr=>?_⟩
    refine ⟨rfl,?_⟩
    obtain ⟨nas,hls0⟩:=dA hls
    obtain ⟨nal,hll0⟩:=dA hll
    have hS1:Sub M M1:=fun c o e=>by
      have hc:c≠a:=fun z=>by rw [z,ha] at e;cases e
      exact hfr c o hc (by rw [ay hc];exact e)
    have hfx:∀{M2:DH},Fx ls ll M1 M2→Sub M M2:=fun h c o e=>h c o (fun z=>by rw [z,hls0] at e;cases e) (fun z=>by rw [z,hll0] at e;cases e) (hS1 c o e)
    refine ⟨a,dx,_,rfl,ht.1,dM ls ll (by decide +kernel) (by decide +kernel),?_⟩
    refine ⟨a,dx,ls,ll,_,L',one,other,n,b,rfl,ht,by first|lia|omega,hrun,fun o M2 ho hT2 hF2=>?_⟩
    have hS2:=hfx hF2
    cases o with
    |some m =>
      refine ⟨a,dx,_,_,rfl,hT2.1,lU ls ll,?_⟩
      show ∀l,M2 l=none→_
      intro l hl
      exact ⟨_,Sub.refl _,q1 ho.symm _ l _ (hS2.trans (Sub.new hl))⟩
    |none =>
      obtain ⟨hks,hkl,R,nx,hR,q3,q4⟩:=q2 ho.symm
      clear q1 q2 ht hrun hF2
      show ∀lr,M2 lr=none→_
      intro lr hlr
      show ∀li,aj M2 lr (.dic []) li=none→_
      intro li hli
      obtain ⟨nlir,hli2⟩:=dA hli
      refine ⟨one,rfl,d1,by first|lia|omega,fun lb1 hlb1=>?_⟩
      refine ⟨other,rfl,d2,by first|lia|omega,fun lb2 hlb2=>?_⟩
      have hl1:=fW (nums one) []
      have hl2:=fW (nums other) []
      have hl3:=ij one
      have hl4:=ij other
      simp only [List.length_nil] at hl1 hl2
      refine ⟨_,_,Sub.new hlb2 _ _ ar,ar,by rw [List.length_map,List.length_map];exact cL (by first|lia|omega),fun lk hlk=>?_⟩
      have hT2b:=hT2.sub ((((Sub.new (o:=.dic []) hlr).trans (Sub.new (o:=.dic []) hli)).trans (Sub.new (o:=.lst ((aB [] (nums one)).map .int)) hlb1)).trans (Sub.new (o:=.lst ((aB [] (nums other)).map .int)) hlb2))
      have nks:lk≠ls:=fun z=>by obtain ⟨_,⟨st,g,_⟩,_⟩:=hT2b;rw [←z,hlk] at g;cases g
      have nkl:lk≠ll:=fun z=>by obtain ⟨_,_,ae,g,_⟩:=hT2b;rw [←z,hlk] at g;cases g
      have eK:(aB [] (nums one)).map D.int++(aB [] (nums other)).map D.int=(bR one other).map D.int:=by unfold bR;rw [List.map_append]
      rw [eK]
      have hS3:Sub (aj (aj M2 lr (.dic [])) li (.dic [])) (aj (aj (aj (aj (aj M2 lr (.dic [])) li (.dic [])) lb1 (.lst ((aB [] (nums one)).map .int))) lb2 (.lst ((aB [] (nums other)).map .int))) lk (.lst ((bR one other).map .int))):=((Sub.new hlb1).trans (Sub.new hlb2)).trans (Sub.new hlk)
      have hlk3:aj (aj (aj (aj (aj M2 lr (.dic [])) li (.dic [])) lb1 (.lst ((aB [] (nums one)).map .int))) lb2 (.lst ((aB [] (nums other)).map .int))) lk (.lst ((bR one other).map .int)) lk=some (.lst ((bR one other).map .int)):=ar
      generalize aj (aj (aj (aj (aj M2 lr (.dic [])) li (.dic [])) lb1 (.lst ((aB [] (nums one)).map .int))) lb2 (.lst ((aB [] (nums other)).map .int))) lk (.lst ((bR one other).map .int))=M3 at *
      have hlr3:M3 lr=some (.dic []):=hS3 _ _ (by rw [ay (Ne.symm nlir),ar])
      have hli3:M3 li=some (.dic []):=hS3 _ _ ar
      have hS23:Sub M2 M3:=((Sub.new hlr).trans (Sub.new hli)).trans hS3
      have hT3:=hT2.sub hS23
      have nrs:lr≠ls:=fun z=>by obtain ⟨_,⟨st,g,_⟩,_⟩:=hT2;rw [z,g] at hlr;cases hlr
      have nrl:lr≠ll:=fun z=>by obtain ⟨_,_,ae,g,_⟩:=hT2;rw [z,g] at hlr;cases hlr
      have nra:lr≠a:=fun z=>by rw [z,hT2.1] at hlr;cases hlr
      have nis:li≠ls:=fun z=>by obtain ⟨_,⟨st,g,_⟩,_⟩:=hT2;rw [z,g] at hli2;cases hli2
      have nil:li≠ll:=fun z=>by obtain ⟨_,_,ae,g,_⟩:=hT2;rw [z,g] at hli2;cases hli2
      have nia:li≠a:=fun z=>by rw [z,hT2.1] at hli2;cases hli2
      have nkr:lk≠lr:=fun z=>by rw [z,hlr3] at hlk3;cases hlk3
      have nki:lk≠li:=fun z=>by rw [z,hli3] at hlk3;cases hlk3
      have hnM:∀{c:Addr} {o:MO},M c=some o→c≠ls∧c≠ll∧c≠lr∧c≠li:=by
        intro c o e
        refine ⟨fun z=>?_,fun z=>?_,fun z=>?_,fun z=>?_⟩
        · rw [z,hls0] at e;cases e
        · rw [z,hll0] at e;cases e
        · rw [z] at e;rw [hS2 _ _ e] at hlr;cases hlr
        · rw [z] at e;rw [hS2 _ _ e] at hli2;cases hli2
      generalize hKS:bR one other=KS at *
      refine ⟨_,hlk3,fun i τ M'=>(∃v6:Option D,τ=[some one.d,some other.d,some (.ref a),some .non,some (.ref lr),some (.ref li),v6,none])∧M' lk=some (.lst (KS.map .int))∧Sub M M'∧∃(Lc:bh) (kr ki:List (Key×D)),bb P w mg M' a dx ls ll (25*n+4*i) Lc∧(∀k∈KS,∃p,Way Lc (.blank k) p (R k))∧M' lr=some (.dic kr)∧Bq kr (KS.take i) R∧M' li=some (.dic ki)∧uf M' li ki (KS.take i) nx∧(∀k∈KS.take i,∀l,ba ki (.inl k)=some (.ref l)→l≠ls),
        ⟨⟨none,rfl⟩,hlk3,hS2.trans hS23,L',[],[],hT3,fun k hk=>(hR k hk).1,hlr3,⟨rfl,fun k hk=>(nomatch hk)⟩,hli3,⟨rfl,fun k hk=>(nomatch hk)⟩,fun k hk=>(nomatch hk)⟩,fun i τ M' _ hW=>hW.2.1,?_,?_⟩
      · rintro i d τ M' ed ⟨⟨v6,rfl⟩,hlk',hS',Lc,kr,ki,hT',hW',hlr',hra,hli',hia,hils⟩
        rw [List.getElem?_map] at ed
        cases ek:KS[i]? with
        |none=>rw [ek] at ed;cases ed
        |some k =>
          rw [ek] at ed
          cases ed
          have hi:i < KS.length:=(List.getElem?_eq_some_iff.mp ek).1
          have hkK:k∈KS:=List.mem_of_getElem? ek
          obtain ⟨p,c1,t1,t2,t3,t4⟩:=hW' k hkK
          obtain ⟨_,⟨rd,rk⟩,rw1,_⟩:=hR k hkK
          have etk:KS.take (i+1)=KS.take i++[k]:=by rw [List.take_add_one,ek];rfl
          have hni:k ∉ KS.take i:=fun z=>by
            have h2:(KS.take (i+1)).Nodup:=hks.sublist (List.take_sublist _ _)
            rw [etk] at h2
            exact (List.nodup_append.mp h2).2.2 _ z _ (by simp) rfl
          refine ⟨a,dx,_,rfl,hT'.1,dM ls ll (by decide +kernel) (by decide +kernel),?_⟩
          refine ⟨a,dx,ls,ll,_,Lc,.blank k,R k,p,rfl,hT',by first|lia|omega,c1,t1,t2,t3,fun o M4 ho hT4 hF4=>?_⟩
          obtain ⟨j1,j2,j3⟩:=ud (d:=.tup [(R k).d,nD o]) hra.1 hni
          have hrl:kr.length=i:=by have:=congrArg List.length hra.1;rw [List.length_map,List.length_map,List.length_take] at this;(first|lia|omega)
          have hil:ki.length=i:=by have:=congrArg List.length hia.1;rw [List.length_map,List.length_map,List.length_take] at this;(first|lia|omega)
          refine ⟨.inl k,kr,rfl,hF4 _ _ nrs nrl hlr',cC (by first|lia|omega),?_⟩
          refine ⟨.inl k,_,_,rfl,.inl ar,j3,?_⟩
          refine ⟨R k,rfl,rd,by first|lia|omega,fun lw hlw=>?_⟩
          obtain ⟨nwr,hlw4⟩:=dA hlw
          have hli4:=hF4 _ _ nis nil hli'
          have nwi:lw≠li:=fun z=>by rw [z,hli4] at hlw4;cases hlw4
          have hli6:aj (aj M4 lr (.dic (putD kr (.inl k) (.tup [(R k).d,nD o])))) lw (.lst ((within (R k)).map .int)) li=some (.dic ki):=by rw [ay (Ne.symm nwi),ay nlir];exact hli4
          obtain ⟨i1,i2,i3⟩:=ud (d:=.ref lw) hia.1 hni
          refine ⟨.inl k,ki,rfl,hli6,cC (by first|lia|omega),?_⟩
          refine ⟨⟨_,rfl⟩,?_,?_,bI Lc p (R k),putD kr (.inl k) (.tup [(R k).d,nD o]),putD ki (.inl k) (.ref lw),?_,fun k' hk'=>Ad c1 (hW' k' hk'),?_,?_,ar,?_,?_⟩
          · have nwk:lw≠lk:=fun z=>by rw [z,hF4 _ _ nks nkl hlk'] at hlw4;cases hlw4
            rw [ay nki,ay (Ne.symm nwk),ay nkr]
            exact hF4 _ _ nks nkl hlk'
          · intro c u e
            obtain ⟨m1,m2,m3,m4⟩:=hnM e
            have e4:=hF4 _ _ m1 m2 (hS' c u e)
            have m5:c≠lw:=fun z=>by rw [z] at e4;rw [e4] at hlw4;cases hlw4
            rw [ay m4,ay m5,ay m3]
            exact e4
          · have nwa:lw≠a:=fun z=>by rw [z,hT4.1] at hlw4;cases hlw4
            have nws:lw≠ls:=fun z=>by obtain ⟨_,⟨st,g,_⟩,_⟩:=hT4;rw [z,g] at hlw4;cases hlw4
            have nwl:lw≠ll:=by
              intro z
              obtain ⟨_,_,ae,g,_⟩:=hT4
              rw [z,g] at hlw4
              cases hlw4
            exact (((hT4.at nra nrs nrl).at nwa nws nwl).at nia nis nil).more (by first|lia|omega)
          · rw [ay (Ne.symm nlir),ay (Ne.symm nwr),ar]
          · rw [etk]
            refine ⟨j1,fun k' hk'=>?_⟩
            rcases List.mem_append.mp hk' with h|h
            · obtain ⟨o',e'⟩:=hra.2 k' h
              exact ⟨o',by rw [j2 k' h];exact e'⟩
            · rw [List.mem_singleton.mp h]
              exact ⟨o,j3⟩
          · rw [etk]
            refine ⟨i1,fun k' hk'=>?_⟩
            rcases List.mem_append.mp hk' with h|h
            · obtain ⟨l,n1,e1,e2⟩:=hia.2 k' h
              have nl1:l≠ls:=hils k' h l e1
              have nl2:l≠ll:=by
                intro z
                obtain ⟨_,_,ae,g,_⟩:=hT'
                rw [z,g] at e2
                cases e2
              have nl3:l≠lr:=fun z=>by rw [z,hlr'] at e2;cases e2
              have e4:=hF4 _ _ nl1 nl2 e2
              have nl4:l≠lw:=fun z=>by rw [z] at e4;rw [e4] at hlw4;cases hlw4
              exact ⟨l,n1,by rw [i2 k' h];exact e1,by rw [ay n1,ay nl4,ay nl3];exact e4⟩
            · rw [List.mem_singleton.mp h]
              exact ⟨lw,nwi,i3,by rw [ay nwi,ar,rw1]⟩
          · rw [etk]
            intro k' hk' l e
            rcases List.mem_append.mp hk' with h|h
            · rw [i2 k' h] at e
              exact hils k' h l e
            · rw [List.mem_singleton.mp h,i3] at e
              cases e
              intro z
              obtain ⟨_,⟨st,g,_⟩,_⟩:=hT4
              rw [z,g] at hlw4
              cases hlw4
      · rintro τ M' ⟨⟨v6,rfl⟩,hlk',hS',Lc,kr,ki,hT',hW',hlr',hra,hli',hia,hils⟩
        rw [List.length_map] at hT' hra hia hils
        rw [List.take_length] at hra hia hils
        refine ⟨li,ki,KS,nx,rfl,hli',hia,hks,by first|lia|omega,fun k j hk e=>(hR k hk).2.2.2 j e,?_,?_⟩
        · intro l1 l2 ord M5 s5 e1 e2 on oi og oc
          refine ⟨_,e2,?_⟩
          have hlr5:=s5 _ _ hlr'
          refine ⟨_,e1,⟨by rw [List.length_map];have:=sub_len on (fun x hx=>(oi x).mp hx);(first|lia|omega),sm R,fun d hd p acc hp=>?_,fun l3 hl3=>?_⟩⟩
          · obtain ⟨k,hk,rfl⟩:=List.mem_map.mp hd
            obtain ⟨o,ho⟩:=hra.2 k ((oi k).mp hk)
            exact ⟨gB,.inl k,kr,_,rfl,.inl (Sub.new hp _ _ hlr5),ho,rfl,rfl⟩
          · rw [Dt]
            exact ⟨_,Sub.refl _,q3 ord l3 _ ((hS'.trans s5).trans (Sub.new hl3)) ar on oi og oc⟩
        · intro l1 l2 cyc M5 s5 e2 hne hcl hsub hrank
          refine ⟨_,e2,?_⟩
          rw [List.length_map]
          show if decide ((0:Int) < (cyc.length:Int))=true then _ else _
          refine fO (by have:=List.length_pos_iff.mpr hne;(first|lia|omega)) ?_
          have hT5:=hT'.sub s5
          have hlr5:=s5 _ _ hlr'
          refine ⟨a,dx,_,_,rfl,hT5.1,lU ls ll,?_⟩
          refine ⟨_,e2,⟨?_,yM kr,fun d hd p acc hp=>?_,fun l3 hl3=>?_⟩⟩
          · rw [List.length_map];(first|lia|omega)
          · obtain ⟨k,hk,rfl⟩:=List.mem_map.mp hd
            obtain ⟨o,ho⟩:=hra.2 k (hsub k hk)
            refine ⟨gB,.inl k,kr,_,rfl,.inl (Sub.new hp _ _ hlr5),ho,rfl,?_⟩
            show wY (ba kr (.inl k))=_
            rw [ho]
            rfl
          · show ∀l,_=none→_
            intro l hl
            exact ⟨_,Sub.refl _,q4 _ l _ (((hS'.trans s5).trans (Sub.new hl3)).trans (Sub.new hl)) hrank⟩
mutual
theorem lZ {φ ψ:Int→Tree}:∀t:Tree,(∀k∈nums t,φ k=ψ k)→aN φ t=aN ψ t
 |.blank k,h=>h k (by simp [nums])
 |.block z ps,h=>by
  rw [aN,aN,uU ps (fun k hk=>h k (by rw [nums];exact hk))]
theorem uU {φ ψ:Int→Tree}:∀ts:List Tree,(∀k∈bX ts,φ k=ψ k)→bN φ ts=bN ψ ts
 |[],_=>rfl
 |t::ts,h=>by
  rw [bN,bN,lZ t (fun k hk=>h k (by rw [bX];exact List.mem_append_left _ hk)),uU ts (fun k hk=>h k (by rw [bX];exact List.mem_append_right _ hk))]
end
noncomputable def zl (Z:Int→Tree) (ks:List Int):List (Int×Tree):=ks.map fun k=>(k,Z k)
theorem Eh (Z:Int→Tree) (ks:List Int):(zl Z ks).map (·.1)=ks:=by unfold zl;rw [List.map_map];exact List.map_id' ks
theorem pq (Z:Int→Tree):∀{ks:List Int} {k:Int},k∈ks→look (zl Z ks) k=some (Z k)
 |[],_,h=>nomatch h
 |a::ks,k,h=>by
  by_cases e:a=k
  ·subst e;simp [zl,look]
  ·have h':k∈ks:=by
    rcases List.mem_cons.mp h with h|h
    ·exact absurd h.symm e
    ·exact h
   have:=pq Z h'
   unfold look zl at this ⊢
   rw [List.map_cons,List.find?_cons_of_neg (by simpa using e)]
   exact this
theorem Ea (s:bo) (k:Int):(look (dW s) k).getD (.blank k)=ir s k:=by
 unfold ir
 congr 1
 unfold look bT dW
 rw [List.find?_map,Option.map_map,Option.map_map]
 rfl
theorem rW {t u:Tree} {s:bo} (h:bf [] [] t u=(none,s)):bC (look (dW s)) t=u:=by
 rw [jl]
 have h1:=(oM t u [] [] s h).2 s (da.refl s)
 rw [←h1]
 exact lZ t fun k _=>Ea s k
theorem vU {t u:Tree} {φ:Int→Tree} (h:aN φ t=u):∃s,bf [] [] t u=(none,s):=by
 have h1:=(FV t u).mpr ⟨φ,h⟩
 cases e:bf [] [] t u with
 |mk o s=>rw [e] at h1;cases h1;exact ⟨s,rfl⟩
mutual
theorem nB (φ ψ:Int→Tree):∀t:Tree,aN φ (aN ψ t)=aN (fun k=>aN φ (ψ k)) t
 |.blank k=>rfl
 |.block z ps=>by rw [aN,aN,aN,uO φ ψ ps]
theorem uO (φ ψ:Int→Tree):∀ts:List Tree,bN φ (bN ψ ts)=bN (fun k=>aN φ (ψ k)) ts
 |[]=>rfl
 |t::ts=>by rw [bN,bN,bN,nB φ ψ t,uO φ ψ ts]
end
theorem Fw (t:Tree):∃φ,plainT t=aN φ t:=⟨_,by unfold plainT;exact jl _ t⟩
mutual
theorem rn (f:Int→Option Tree) (h:∀k u,f k=some u→u.depth≤1):∀t:Tree,(bC f t).depth≤t.depth
 |.blank k=>by
  rw [bC]
  cases e:f k with
  |none=>exact Nat.le_refl _
  |some u=>exact h k u e
 |.block z ps=>by
  rw [bC,Tree.depth,Tree.depth]
  have:=wJ f h ps
  (first|lia|omega)
theorem wJ (f:Int→Option Tree) (h:∀k u,f k=some u→u.depth≤1):∀ts:List Tree,Tree.depths (gq f ts)≤Tree.depths ts
 |[]=>Nat.le_refl _
 |t::ts=>by
  have h1:=rn f h t
  have h2:=wJ f h ts
  rw [gq,Tree.depths,Tree.depths]
  (first|lia|omega)
end
theorem xo (t:Tree):(plainT t).depth≤t.depth:=by
 unfold plainT
 refine rn _ (fun k u e=>?_) t
 unfold nameOf at e
 cases h:pos (aB [] (nums t)) k with
 |none=>rw [h] at e;cases e
 |some i=>rw [h] at e;cases e;exact Nat.le_refl _
noncomputable def dB (g:Int) (t:Tree):Tree:=bC (look (d6 g (aB [] (nums t)))) t
noncomputable def Fo (mg:Str→Option Value) (one other oth:Tree) (L':bh) (M:DH) (Q:KD) (EX:Value→DH→Prop) (R:Int→Tree) (nx:Nx):Prop :=
 ((∃(C:Int→Prop) (c:Int),kb nx C∧C c∧c∈bR one oth)∧∀x M',Sub M M'→Q (.tup [.str (Str.ofString "none"),.tup x]) M') ∨
 ((∃rank,ma nx rank)∧∃(Z Zo:Int→Tree),(∀k∈bR one oth,(Z k).depth≤60∧∀f:Int→Option Tree,(∀j∈within (R k),f j=some (Z j))→f k=none→bC f (R k)=Z k)∧(aN Z one).depth≤60∧aN Zo other=aN Z one∧(¬great (aN Z one)→∀k∈bR one oth,¬great (Z k)) ∧
  (great (aN Z one)→EX (.ref (cl mg "TooLong")) M) ∧
  (¬great (aN Z one)→∀l1 l2 f1 f2 M',Sub M M'→M' l1=some (.dic (bQ f1))→M' l2=some (.dic (bQ f2))→bC (look f1) one=plainT (aN Z one)→bC (look f2) other=plainT (aN Z one)→Q (.tup [.str (Str.ofString "form"),(plainT (aN Z one)).d,.ref l1,.ref l2]) M'))
noncomputable def dZ (mg:Str→Option Value):cZ:=fun ds M Q EX=>∃one other:Tree,ds=[one.d,other.d]∧(one.depth≤20∧one.knots≤400)∧(other.depth≤20∧other.knots≤400)∧∀g,kj g (aB [] (nums one))→∃(n:Nat) (b:Bool) (L':bh),n≤28∧Run n (fun _=>none) [(one,dB g other)] b L'∧((dB g other).depth≤20∧(dB g other).knots≤400) ∧
 (b=true→∀x M',Sub M M'→Q (.tup [.str (Str.ofString "none"),.tup x]) M') ∧
 (b=false→(bR one (dB g other)).Nodup∧(bR one (dB g other)).length≤30∧∃(R:Int→Tree) (nx:Nx),(∀k∈bR one (dB g other),(∃p,Way L' (.blank k) p (R k))∧((R k).depth≤20∧(R k).knots≤400)∧within (R k)=(nx k).toList∧∀j,nx k=some j→j∈bR one (dB g other))∧Fo mg one other (dB g other) L' M Q EX R nx)
theorem G8 {mg:Str→Option Value} {ds:List D} {M:DH} {Q Q':KD} {E E':Value→DH→Prop} (h:dZ mg ds M Q E) (hq:∀d M',Sub M M'→Q d M'→Q' d M') (he:∀c,E c M→E' c M):dZ mg ds M Q' E':=by
 obtain ⟨one,other,rfl,h1,h2,h3⟩:=h
 refine ⟨one,other,rfl,h1,h2,fun g hg=>?_⟩
 obtain ⟨n,b,L',hn,hr,ha,q1,q2⟩:=h3 g hg
 refine ⟨n,b,L',hn,hr,ha,fun hb x M' s=>hq _ _ s (q1 hb x M' s),fun hb=>?_⟩
 obtain ⟨a1,a2,R,nx,a3,a4⟩:=q2 hb
 refine ⟨a1,a2,R,nx,a3,?_⟩
 rcases a4 with ⟨c1,c2⟩|⟨c1,Z,Zo,z1,z2,z3,z4,z5,z6⟩
 ·exact .inl ⟨c1,fun x M' s=>hq _ _ s (c2 x M' s)⟩
 ·exact .inr ⟨c1,Z,Zo,z1,z2,z3,z4,fun g=>he _ (z5 g),fun g l1 l2 f1 f2 M' s e1 e2 e3 e4=>hq _ _ s (z6 g l1 l2 f1 f2 M' s e1 e2 e3 e4)⟩
noncomputable def Aq (mg:Str→Option Value):cZ:=fun ds M Q EX=>∃Q0 E0,dZ mg ds M Q0 E0∧(∀d M',Sub M M'→Q0 d M'→Q d M')∧∀c,E0 c M→EX c M
theorem lH (T:Txt K mg):fz P w K mg base 104 "widest" ["one", "other"] (Aq mg):=by
 have F_settled:=(DU (P:=P) (w:=w) (base:=base) T).mono (show 24≤103 by first|lia|omega)
 have F_apart:=(Hc (P:=P) (w:=w) (base:=base) T 20).mono (show 24≤103 by first|lia|omega)
 have E_filled:=Bf (P:=P) (w:=w) (base:=base) T
 have F_plain:=(y9 (P:=P) (w:=w) (base:=base) T 60).mono (show 63≤103 by first|lia|omega)
 have F_fitting:=(GH (P:=P) (w:=w) (base:=base) T 20).mono (show 23≤103 by first|lia|omega)
 refine oG T.f_widest iI (fun ds M Q E h=>?_) fun f cdv A outer s H E EX hr hx hp=>⟨_,(aq (aE (i:=2) iI.nd (aH F_settled (hr.mono (by first|lia|omega)) (ag (af 0) (ag (aH F_apart (hr.mono (by first|lia|omega)) (ag (af 0) (ag (af 1) ah))) ah))))
 (aq (bz (bg iK (av (af 2) ak) cF (bj _)) (ax (aG (aM (ag aQ (ag (av (af 2) ak) ah))))) bF)
 (aq (aE (i:=3) iI.nd fq)
 (aq (fM hp rfl (av (af 2) ak) (j5 rfl (eN (bE (i:=4) iI.nd) (eN (bE (i:=5) iI.nd) kF)) mq) (ax (dq (p9 E_filled hx.toXCame (hr.mono (by first|lia|omega)) (ag (af 5) (ag (af 3) ah))) (eU hr (af 3) (af 4)))))
 (aq (aE (i:=6) iI.nd (aH F_plain (hr.mono (by first|lia|omega)) (ag (p9 E_filled hx.toXCame (hr.mono (by first|lia|omega)) (ag (af 0) (ag (af 3) ah))) ah)))
 (ax (aG (aM (ag aQ (ag (af 6) (ag (aH F_fitting (hr.mono (by first|lia|omega)) (ag (af 0) (ag (af 6) ah))) (ag (aH F_fitting (hr.mono (by first|lia|omega)) (ag (af 1) (ag (af 6) ah))) ah)))))))))))),fun ds M Q h=>?_⟩
 ·obtain ⟨_,_,⟨one,other,rfl,_⟩,_⟩:=h;rfl
 ·obtain ⟨Q0,E0,h0,hq0,he0⟩:=h
  obtain ⟨one,other,rfl,⟨d1,k1⟩,⟨d2,k2⟩,h⟩:=G8 h0 hq0 he0
  refine ⟨one,other,rfl,⟨d1,by first|lia|omega⟩,⟨d2,by first|lia|omega⟩,fun g hg=>?_⟩
  obtain ⟨n,b,L',hn,hrun,hap,q1,q2⟩:=h g hg
  refine ⟨one,dB g other,n,b,L',rfl,hn,hrun,⟨d1,k1⟩,hap,?_,?_⟩
  ·intro hb x l M' s'
   exact ⟨_,Sub.refl _,q1 hb x M' s'⟩
  ·intro hb
   obtain ⟨hks,hkl,R,nx,hR,hO⟩:=q2 hb
   refine ⟨hks,hkl,R,nx,hR,?_,?_⟩
   ·intro ord l M1 s1 hl on oi og oc
    rcases hO with ⟨⟨C,c,c1,c2,c3⟩,_⟩|⟨_,Z,Zo,hZ,hFd,hZo,hgr,qE,qQ⟩
    ·exact absurd ((oi c).mpr c3) (oc C c1 c c2)
    ·show ∀lt,M1 lt=none→_
     intro lt hlt
     have hlM:M lt=none:=kO s1 hlt
     have nlt:l≠lt:=fun z=>by rw [z,hlt] at hl;cases hl
     have hol:ord.length≤30:=Nat.le_trans (sub_len on fun x hx=>(oi x).mp hx) hkl
     refine ⟨_,by rw [ay nlt];exact hl,fun i τ M'=>(∃v4 v5:Option D,τ=[some one.d,some other.d,some (.tup [.non,.ref l]),some (.ref lt),v4,v5,none])∧M' l=some (.lst (ord.map (pairD R)))∧Sub M M'∧M' lt=some (.dic (bQ (zl Z (ord.take i)))),⟨⟨none,none,rfl⟩,by rw [ay nlt];exact hl,s1.trans (Sub.new hlt),ar⟩,fun i τ M' _ hW=>hW.2.1,?_,?_⟩
     ·rintro i d τ M' ed ⟨⟨v4,v5,rfl⟩,hl',hs',hlt'⟩
      rw [List.getElem?_map] at ed
      cases ek:ord[i]? with
      |none=>rw [ek] at ed;cases ed
      |some k =>
       rw [ek] at ed
       cases ed
       have hkK:=(oi k).mp (List.mem_of_getElem? ek)
       obtain ⟨_,⟨rd,rk⟩,rw1,_⟩:=hR k hkK
       obtain ⟨zd,zx⟩:=hZ k hkK
       have hni:k ∉ ord.take i:=fun z=>by
        have h2:(ord.take (i+1)).Nodup:=on.sublist (List.take_sublist _ _)
        rw [List.take_add_one,ek] at h2
        exact (List.nodup_append.mp h2).2.2 _ z _ (by simp) rfl
       have hln:look (zl Z (ord.take i)) k=none:=ni (by rw [Eh];exact hni)
       have ex:bC (look (zl Z (ord.take i))) (R k)=Z k:=zx _ (fun j hj=>by
        rw [rw1] at hj
        have hj':nx k=some j:=by cases e:nx k with|none=>rw [e] at hj;cases hj|some x=>rw [e] at hj;rw [List.mem_singleton.mp hj]
        exact pq Z (og i k j ek hj')) hln
       refine ⟨R k,lt,_,rfl,by first|lia|omega,by first|lia|omega,.inl hlt',by rw [ex];(first|lia|omega),?_,?_⟩
       ·rw [ex]
        intro hgz
        refine ⟨M,hs',qE (Classical.byContradiction fun z=>hgr z k hkK hgz)⟩
       ·rw [ex]
        intro _
        refine ⟨.inl k,_,rfl,hlt',by unfold bQ zl;rw [List.length_map,List.length_map,List.length_take];exact cC (by first|lia|omega),?_⟩
        refine ⟨⟨_,_,rfl⟩,by rw [ay nlt];exact hl',fX hs' hlM,?_⟩
        rw [ar,kP hln,List.take_add_one,ek]
        unfold zl
        rw [List.map_append]
        rfl
     ·rintro τ M' ⟨⟨v4,v5,rfl⟩,hl',hs',hlt'⟩
      rw [List.length_map,List.take_length] at hlt'
      have eF:bC (look (zl Z ord)) one=aN Z one:=by
       rw [jl]
       refine lZ one fun k hk=>?_
       rw [pq Z ((oi k).mpr ?_)]
       ·rfl
       ·unfold bR
        exact List.mem_append_left _ (d8.mpr (.inr hk))
      refine ⟨one,lt,_,rfl,by first|lia|omega,by first|lia|omega,.inl hlt',by rw [eF];(first|lia|omega),?_,?_⟩
      ·rw [eF]
       intro hgz
       exact ⟨M,hs',qE hgz⟩
      ·rw [eF]
       intro hng
       have qq:=qQ hng
       have hkn:(aN Z one).knots≤400:=Nat.le_of_not_lt fun z=>hng (.inl z)
       refine ⟨aN Z one,rfl,hFd,by first|lia|omega,?_⟩
       have hpd:=xo (aN Z one)
       obtain ⟨φ,hφ⟩:=Fw (aN Z one)
       have e1:aN (fun k=>aN φ (Z k)) one=plainT (aN Z one):=by rw [hφ,nB]
       have e2:aN (fun k=>aN φ (Zo k)) other=plainT (aN Z one):=by rw [hφ,←hZo,nB]
       obtain ⟨s1',c1⟩:=vU e1
       obtain ⟨s2',c2⟩:=vU e2
       refine ⟨one,plainT (aN Z one),rfl,d1,by first|lia|omega,by first|lia|omega,fun x s h=>absurd (c1.symm.trans h) (by intro z;cases z),fun s h l1 hl1=>?_⟩
       refine ⟨other,plainT (aN Z one),rfl,d2,by first|lia|omega,by first|lia|omega,fun x s h=>absurd (c2.symm.trans h) (by intro z;cases z),fun s2 h2 l2 hl2=>?_⟩
       exact ⟨_,Sub.refl _,qq l1 l2 _ _ _ ((hs'.trans (Sub.new hl1)).trans (Sub.new hl2)) (Sub.new hl2 _ _ ar) ar (rW h) (rW h2)⟩
   ·intro x l M' s' hrk
    rcases hO with ⟨_,q⟩|⟨⟨rank,hf⟩,_⟩
    ·exact ⟨_,Sub.refl _,q x M' s'⟩
    ·exact absurd hf (hrk rank)
noncomputable def QN:KD:=fun d _=>∃x,d=.tup [.str (Str.ofString "none"),.tup x]
noncomputable def EL (mg:Str→Option Value):Value→DH→Prop:=fun c _=>c=.ref (cl mg "TooLong")
noncomputable def Hv (mg:Str→Option Value):aS:=fun ds M Q=>∃(one other t:Tree),ds=[one.d,other.d,t.d]∧dZ mg [one.d,other.d] M QN (EL mg)∧Q .non M
theorem Av (T:Txt K mg):bu P w K mg base 105 "by_widest" ["one", "other", "tree"] (Hv mg):=by
 have E_widest:=lH (P:=P) (w:=w) (base:=base) T
 have F_fitting:bu P w K mg base 0 "fitting" ["form", "tree"] (fun _ _ _=>False):=gu T.f_fitting fun _ _ _ z=>z
 refine bW T.f_by_widest tN (fun ds M Q h=>?_) fun f cdv A outer s H E hr=>⟨_,(aq (Dd (i:=3) E_widest rfl rfl rfl tN.nd (hr.mono (by first|lia|omega)) (ag (af 0) (ag (af 1) ah)) bF (Aw rfl rfl rfl (mi T).nm (fun a=>(ax (aG cF))) qj))
 (aq (bz (bg (cv hr) (av (af 3) ak) aQ (bj _)) (ax (aG cF)) bF)
 (ax (aG (aH F_fitting (hr.mono (by first|lia|omega)) (ag (av (af 3) ak) (ag (af 2) ah))))))),fun ds M Q h=>?_⟩
 ·obtain ⟨one,other,t,rfl,_⟩:=h;rfl
 ·obtain ⟨one,other,t,rfl,hw,q⟩:=h
  refine ⟨_,_,hw,?_,?_⟩
  ·rintro d M' s' ⟨x,rfl⟩
   exact ⟨M,s',q⟩
  ·rintro c rfl
   refine ⟨M,Sub.refl M,_,_,rfl,vW T,?_⟩
   rw [if_pos rfl]
   exact ⟨M,Sub.refl M,q⟩
noncomputable def vD (mg:Str→Option Value):aS:=fun ds M Q=>∃(one other:Tree),ds=[one.d,other.d]∧dZ mg [one.d,other.d] M (fun _ _=>False) (EL mg)∧Q (.bl true) M
theorem yI (T:Txt K mg):bu P w K mg base 105 "_law_refused" ["one", "other"] (vD mg):=by
 have m_int:=T.m_int
 have m_isinstance:=T.m_isinstance
 have E_widest:=lH (P:=P) (w:=w) (base:=base) T
 refine bW T.f__law_refused lY (fun ds M Q h=>?_) fun f cdv A outer s H E hr=>⟨_,(aq (aE (i:=2) lY.nd aQ)
 (aq (uh E_widest rfl rfl rfl (hr.mono (by first|lia|omega)) (ag (af 0) (ag (af 1) ah)) (qF (i:=3) rfl rfl rfl lY.nd (mi T).nm (fun a=>(ax (aE (i:=2) lY.nd (av (cq (ag aQ (ag aQ ah))) (dX vA rfl m_int wg (ag (cG (r0 (K:=K) rfl) rfl m_isinstance wL (ag (af 3) (ag (Gq rfl (E3 T).nm) ah))) ah)))))) qj))
 (ax (aG (jY (cv hr) (af 2) aQ (bj _)))))),fun ds M Q h=>?_⟩
 ·obtain ⟨one,other,rfl,_⟩:=h;rfl
 ·obtain ⟨one,other,rfl,hw,q⟩:=h
  refine ⟨_,_,hw,fun _ _ _ z=>z.elim,?_⟩
  ·rintro c rfl
   refine ⟨M,Sub.refl M,_,_,rfl,vW T,?_⟩
   rw [if_pos rfl]
   intro pe hpe
   have he:aj M pe (.exc (.ref (cl mg "TooLong"))) pe=some (.exc (.ref (cl mg "TooLong"))):=ar
   have hS:Sub M (aj M pe (.exc (.ref (cl mg "TooLong")))):=Sub.new hpe
   generalize aj M pe (.exc (.ref (cl mg "TooLong")))=M1 at *
   show ∀l,M1 l=none→_
   intro l hl
   refine ⟨_,_,Sub.new hl _ _ he,sL T,Dw T,?_⟩
   refine ⟨_,.str (Str.ofString "long"),ar,rfl,?_⟩
   exact ⟨M,hS.trans (Sub.new hl),q⟩
theorem DN (T:Txt K mg):bu P w K mg base 105 "_law_refused_by_base" ["one", "other"] (vD mg):=by
 have m_ValueError:=T.m_ValueError
 have m_isinstance:=T.m_isinstance
 have E_widest:=lH (P:=P) (w:=w) (base:=base) T
 refine bW T.f__law_refused_by_base mY (fun ds M Q h=>?_) fun f cdv A outer s H E hr=>⟨_,(aq (aE (i:=2) mY.nd eJ)
 (aq (uh E_widest rfl rfl rfl (hr.mono (by first|lia|omega)) (ag (af 0) (ag (af 1) ah)) (qF (i:=3) rfl rfl rfl mY.nd (A3 T).nm (fun a=>(ax (aE (i:=2) mY.nd (cG (r0 (K:=K) rfl) rfl m_isinstance wL (ag (af 3) (ag (Fv rfl m_ValueError Gs) ah)))))) qj))
 (ax (aG (af 2))))),fun ds M Q h=>?_⟩
 ·obtain ⟨one,other,rfl,_⟩:=h;rfl
 ·obtain ⟨one,other,rfl,hw,q⟩:=h
  refine ⟨_,_,hw,fun _ _ _ z=>z.elim,?_⟩
  ·rintro c rfl
   refine ⟨M,Sub.refl M,_,_,rfl,G4 T,?_⟩
   rw [if_pos rfl]
   intro pe hpe
   refine ⟨_,_,ar,sL T,Aa T,?_⟩
   exact ⟨M,Sub.new hpe,q⟩
noncomputable def bp (es:List (Tree×Tree)):bh:=fun u=>(es.find? fun e=>decide (e.1=u)).map (·.2)
theorem tD:bp []=fun _=>none:=rfl
theorem kH (es:List (Tree×Tree)) (t r:Tree):d0 (bp es) t r=bp ((t,r)::es):=by
 funext u
 unfold d0 bp
 by_cases h:u=t
 ·rw [if_pos h,List.find?_cons_of_pos (by simp [h])];rfl
 ·rw [if_neg h,List.find?_cons_of_neg (by simpa using fun z=>h z.symm)]
theorem jb {es:List (Tree×Tree)} {u:Tree} (h:u ∉ es.map (·.1)):bp es u=none:=by
 unfold bp
 have:(es.find? fun e=>decide (e.1=u))=none:=by
  rw [List.find?_eq_none]
  intro e he z
  exact h (List.mem_map.mpr ⟨e,he,of_decide_eq_true z⟩)
 rw [this];rfl
theorem dm {a b:Int} (h:Tree.blank a=Tree.blank b):a=b:=by injection h
mutual
theorem vc:∀t:Tree,NK t.d
 |.block z ps=>by rw [Tree.d];exact .blk (tG ps)
 |.blank k=>.bln
theorem tG:∀ts:List Tree,gi (Tree.ds ts)
 |[]=>.nil
 |t::ts=>by rw [Tree.ds];exact .cons (vc t) (tG ts)
end
theorem fF {t:Tree} (h:t.depth≤4):tk t:=⟨vc t,by have:=oV t;(first|lia|omega)⟩
theorem j9 {n:Nat} {es:List (Tree×Tree)} {L':bh} {l r:Tree} {ps:List (Tree×Tree)} {b:Bool} (h1:l ∉ es.map (·.1)) (h2:r ∉ es.map (·.1)) (h3:l.depth≤4) (h4:r.depth≤4) (h5:l≠r) (h6:d9 l r=false) (h7:l.parts.length≤12)
  (h:Run n (cO (bp es) l r) (ps++cH l r) b L'):Run (n+1) (bp es) ((l,r)::ps) b L':=by
 have e1:bI (bp es) [] l=bp es:=lj _ _
 have e2:bI (bp es) [] r=bp es:=lj _ _
 refine Run.tie (pl:=[]) (pr:=[]) (rl:=l) (rr:=r) ⟨⟨rfl,jb h1⟩,fun u hu=>(nomatch hu),fF h3,List.nodup_nil,by simp⟩ ⟨⟨rfl,by rw [e1];exact jb h2⟩,fun u hu=>(nomatch hu),fF h4,List.nodup_nil,by simp⟩ h5 h6 (by first|lia|omega) h7 ?_
 rw [e1,e2]
 exact h
theorem HH {n:Nat} {es:List (Tree×Tree)} {l r:Tree} {ps:List (Tree×Tree)} (h1:l ∉ es.map (·.1)) (h2:r ∉ es.map (·.1)) (h3:l.depth≤4) (h4:r.depth≤4) (h5:l≠r) (h6:d9 l r=true):∃L',Run (n+1) (bp es) ((l,r)::ps) true L':=by
 have e1:bI (bp es) [] l=bp es:=lj _ _
 exact ⟨_,Run.bf (pl:=[]) (pr:=[]) (rl:=l) (rr:=r) ⟨⟨rfl,jb h1⟩,fun u hu=>(nomatch hu),fF h3,List.nodup_nil,by simp⟩ ⟨⟨rfl,by rw [e1];exact jb h2⟩,fun u hu=>(nomatch hu),fF h4,List.nodup_nil,by simp⟩ h5 h6 (by first|lia|omega)⟩
noncomputable abbrev Row:=Int×Int×Tree
noncomputable def aP (p:Str) (q:Row):Tree:=.block p [.blank q.1,q.2.2]
noncomputable def aY (p:Str) (q:Row):Tree:=.block p [.blank q.2.1,.blank q.2.1]
noncomputable def two (q:Row):List (Tree×Tree):=[(.blank q.1,.blank q.2.1),(q.2.2,.blank q.2.1)]
noncomputable def cR:List Row→List (Tree×Tree)→List (Tree×Tree)
 |[],es=>es
 |q::qs,es=>cR qs ((.blank q.2.1,q.2.2)::(.blank q.1,.blank q.2.1)::es)
theorem vN:∀{qs:List Row} {es:List (Tree×Tree)} {e:Tree×Tree},e∈cR qs es↔e∈es∨∃q∈qs,e=(.blank q.2.1,q.2.2)∨e=(.blank q.1,.blank q.2.1)
 |[],es,e=>by simp [cR]
 |q::qs,es,e=>by
  rw [cR,vN]
  simp only [List.mem_cons]
  constructor
  ·rintro ((h|h|h)|⟨x,hx,h⟩)
   ·exact .inr ⟨q,.inl rfl,.inl h⟩
   ·exact .inr ⟨q,.inl rfl,.inr h⟩
   ·exact .inl h
   ·exact .inr ⟨x,.inr hx,h⟩
  ·rintro (h|⟨x,rfl|hx,h|h⟩)
   ·exact .inl (.inr (.inr h))
   ·exact .inl (.inl h)
   ·exact .inl (.inr (.inl h))
   ·exact .inr ⟨x,hx,.inl h⟩
   ·exact .inr ⟨x,hx,.inr h⟩
noncomputable def cV (qs:List Row):Prop:=(qs.map fun q=>q.1).Nodup∧(qs.map fun q=>q.2.1).Nodup∧(∀a∈qs,∀c∈qs,a.1≠c.2.1)∧∀q∈qs,cf q.2.2=true∧q.2.2.depth=2∧q.2.2.parts.length≤12
theorem m8 {q:Row} {qs:List Row} (h:cV (q::qs)):cV qs:=by
 obtain ⟨h1,h2,h3,h4⟩:=h
 exact ⟨(List.nodup_cons.mp h1).2,(List.nodup_cons.mp h2).2,fun a ha c hc=>h3 a (List.mem_cons_of_mem _ ha) c (List.mem_cons_of_mem _ hc),fun x hx=>h4 x (List.mem_cons_of_mem _ hx)⟩
noncomputable def u6 (qs:List Row) (es:List (Tree×Tree)):Prop:=∀q∈qs,(Tree.blank q.1) ∉ es.map (·.1)∧(Tree.blank q.2.1) ∉ es.map (·.1)∧q.2.2 ∉ es.map (·.1)
theorem uB:∀{qs:List Row} {es:List (Tree×Tree)},cV qs→u6 qs es→Run (2*qs.length) (bp es) (qs.flatMap two) false (bp (cR qs es))
 |[],es,_,_=>Run.done
 |q::qs,es,hr,hf=>by
  obtain ⟨f1,f2,f3⟩:=hf q List.mem_cons_self
  obtain ⟨hn1,hn2,hn3,hn4⟩:=id hr
  obtain ⟨hb,hd,hpl⟩:=hn4 q List.mem_cons_self
  have hbc:q.1≠q.2.1:=hn3 q List.mem_cons_self q List.mem_cons_self
  have hyb:∀k,q.2.2≠.blank k:=fun k z=>by rw [z] at hb;cases hb
  rw [List.flatMap_cons]
  show Run (2*(qs.length+1)) (bp es) ((.blank q.1,.blank q.2.1)::(q.2.2,.blank q.2.1)::qs.flatMap two) false _
  rw [show 2*(qs.length+1)=(2*qs.length+1)+1 by first|lia|omega]
  refine j9 f1 f2 (by show 1≤4;decide) (by show 1≤4;decide) (fun z=>hbc (dm z)) rfl (by show 0≤12;decide) ?_
  have t1:cO (bp es) (.blank q.1) (.blank q.2.1)=bp ((.blank q.1,.blank q.2.1)::es):=by unfold cO;rw [if_neg (by simp [cf]),kH]
  have t2:cH (.blank q.1) (.blank q.2.1)=[]:=by unfold cH;rw [if_neg (by simp [cf])];rfl
  rw [t1,t2,List.append_nil]
  refine j9 ?_ ?_ (by first|lia|omega) (by show 1≤4;decide) (hyb _) ?_ ?_ ?_
  ·rw [List.map_cons,List.mem_cons]
   exact fun z=>z.elim (hyb _) f3
  ·rw [List.map_cons,List.mem_cons]
   exact fun z=>z.elim (fun e=>hbc (dm e).symm) f2
  ·unfold d9;simp [cf]
  ·exact hpl
  ·have t3:cO (bp ((.blank q.1,.blank q.2.1)::es)) q.2.2 (.blank q.2.1)=bp ((.blank q.2.1,q.2.2)::(.blank q.1,.blank q.2.1)::es):=by unfold cO;rw [if_pos (by rw [hb];rfl),kH]
   have t4:cH q.2.2 (.blank q.2.1)=[]:=by unfold cH;rw [if_pos (by rw [hb];rfl)]
   rw [t3,t4,List.append_nil]
   refine uB (m8 hr) fun x hx=>?_
   obtain ⟨g1,g2,g3⟩:=hf x (List.mem_cons_of_mem _ hx)
   obtain ⟨xb,xd,_⟩:=hn4 x (List.mem_cons_of_mem _ hx)
   have x1:x.1≠q.1:=fun z=>(List.nodup_cons.mp hn1).1 (List.mem_map.mpr ⟨x,hx,z⟩)
   have x2:x.2.1≠q.2.1:=fun z=>(List.nodup_cons.mp hn2).1 (List.mem_map.mpr ⟨x,hx,z⟩)
   have x3:x.1≠q.2.1:=hn3 x (List.mem_cons_of_mem _ hx) q List.mem_cons_self
   have x4:q.1≠x.2.1:=hn3 q List.mem_cons_self x (List.mem_cons_of_mem _ hx)
   have xy:∀k,x.2.2≠.blank k:=fun k z=>by rw [z] at xb;cases xb
   simp only [List.map_cons,List.mem_cons]
   refine ⟨fun z=>?_,fun z=>?_,fun z=>?_⟩
   ·rcases z with z|z|z
    ·exact x3 (dm z)
    ·exact x1 (dm z)
    ·exact g1 z
   ·rcases z with z|z|z
    ·exact x2 (dm z)
    ·exact x4 (dm z).symm
    ·exact g2 z
   ·rcases z with z|z|z
    ·exact xy _ z
    ·exact xy _ z
    ·exact g3 z
noncomputable def cD (p:Str):List Row→List (Tree×Tree)→List (Tree×Tree)
 |[],es=>es
 |q::qs,es=>cD p qs ((aP p q,aY p q)::es)
theorem lP {p:Str}:∀{qs:List Row} {es:List (Tree×Tree)} {e:Tree×Tree},e∈cD p qs es↔e∈es∨∃q∈qs,e=(aP p q,aY p q)
 |[],es,e=>by simp [cD]
 |q::qs,es,e=>by
  rw [cD,lP]
  simp only [List.mem_cons]
  constructor
  ·rintro ((h|h)|⟨x,hx,h⟩)
   ·exact .inr ⟨q,.inl rfl,h⟩
   ·exact .inl h
   ·exact .inr ⟨x,.inr hx,h⟩
  ·rintro (h|⟨x,rfl|hx,h⟩)
   ·exact .inl (.inr h)
   ·exact .inl (.inl h)
   ·exact .inr ⟨x,hx,h⟩
theorem et {p:Str} {q:Row} (h:q.2.2.depth=2):(aP p q).depth=3:=by
 unfold aP
 simp only [Tree.depth,Tree.depths,h]
 rfl
theorem ik (p:Str) (q:Row):(aY p q).depth=2:=by
 unfold aY
 simp only [Tree.depth,Tree.depths]
 rfl
noncomputable def fA (es:List (Tree×Tree)):Prop:=∀e∈es,3≤e.1.depth
theorem oN {p:Str} {b:Bool} {L':bh}:∀{qs:List Row} {es:List (Tree×Tree)} {rest:List (Tree×Tree)} {n:Nat},cV qs→fA es→(∀q∈qs,aP p q ∉ es.map (·.1))→Run n (bp (cD p qs es)) (rest++qs.flatMap two) b L'→Run (qs.length+n) (bp es) ((qs.map fun q=>(aP p q,aY p q))++rest) b L'
 |[],es,rest,n,_,_,_,h=>by
  rw [List.flatMap_nil,List.append_nil] at h
  have h':Run n (bp es) rest b L':=h
  simpa using h'
 |q::qs,es,rest,n,hr,hd,hf,h=>by
  obtain ⟨hn1,hn2,hn3,hn4⟩:=id hr
  obtain ⟨hb,hdp,hpl⟩:=hn4 q List.mem_cons_self
  have hbc:q.1≠q.2.1:=hn3 q List.mem_cons_self q List.mem_cons_self
  have hyb:∀k,q.2.2≠.blank k:=fun k z=>by rw [z] at hb;cases hb
  rw [List.map_cons,List.cons_append,List.length_cons,show qs.length+1+n=(qs.length+n)+1 by first|lia|omega]
  have hne:aP p q≠aY p q:=fun z=>by
   have:=congrArg Tree.depth z
   rw [et hdp,ik] at this
   (first|lia|omega)
  refine j9 (hf q List.mem_cons_self) (fun z=>?_) (by rw [et hdp];decide) (by rw [ik];decide) hne ?_ (by show 2≤12;decide) ?_
  ·obtain ⟨e,he,ee⟩:=List.mem_map.mp z
   have:=hd e he
   rw [ee,ik] at this
   (first|lia|omega)
  ·unfold d9 aP aY
   simp [cf,eS]
  ·have t1:cO (bp es) (aP p q) (aY p q)=bp ((aP p q,aY p q)::es):=by unfold cO;rw [if_neg (by unfold aP aY;simp [cf]),kH]
   have t2:cH (aP p q) (aY p q)=two q:=by
    unfold cH
    rw [if_neg (by unfold aP aY;simp [cf])]
    show ([(Tree.blank q.1,Tree.blank q.2.1),(q.2.2,Tree.blank q.2.1)]:List (Tree×Tree)).filter _=_
    rw [List.filter_cons_of_pos (by simpa using fun z=>hbc (dm z)),List.filter_cons_of_pos (by simpa using hyb _)]
    rfl
   rw [t1,t2,List.append_assoc]
   refine oN (m8 hr) (fun e he=>?_) (fun x hx z=>?_) ?_
   ·rcases List.mem_cons.mp he with rfl|he
    ·show 3≤(aP p q).depth
     rw [et hdp];exact Nat.le_refl _
    ·exact hd e he
   ·rw [List.map_cons,List.mem_cons] at z
    rcases z with z|z
    ·unfold aP at z
     have h1:x.1=q.1:=by injection z with _ z;injection z with z _;exact dm z
     exact (List.nodup_cons.mp hn1).1 (List.mem_map.mpr ⟨x,hx,h1⟩)
    ·exact hf x (List.mem_cons_of_mem _ hx) z
   ·rw [List.flatMap_cons,←List.append_assoc] at h
    exact h
theorem ko {p:Str}:∀{qs:List Row},cV qs→qs≠[]→Tree.depths (qs.map (aP p))=3∧Tree.depths (qs.map (aY p))=2
 |[],_,h=>absurd rfl h
 |[q],hr,_=>by
  have h1:=et (p:=p) (hr.2.2.2 q List.mem_cons_self).2.1
  have h2:=ik p q
  simp only [List.map_cons,List.map_nil,Tree.depths,h1,h2]
  exact ⟨rfl,rfl⟩
 |q::r::qs,hr,_=>by
  have ih:=ko (p:=p) (m8 hr) (by simp)
  have h1:=et (p:=p) (hr.2.2.2 q List.mem_cons_self).2.1
  have h2:=ik p q
  generalize r::qs=rs at *
  rw [List.map_cons,List.map_cons,Tree.depths,Tree.depths,ih.1,ih.2,h1,h2]
  exact ⟨rfl,rfl⟩
theorem zip_rows {p:Str}:∀{qs:List Row},cV qs→∀{a b:List Tree},((qs.map (aP p)++a).zip (qs.map (aY p)++b)).filter (fun e=>decide (e.1≠e.2))=(qs.map fun q=>(aP p q,aY p q))++(a.zip b).filter fun e=>decide (e.1≠e.2)
 |[],_,a,b=>rfl
 |q::qs,hr,a,b=>by
  have h1:=et (p:=p) (hr.2.2.2 q List.mem_cons_self).2.1
  have h2:=ik p q
  have hne:aP p q≠aY p q:=fun z=>by
   have:=congrArg Tree.depth z
   rw [h1,h2] at this
   (first|lia|omega)
  rw [List.map_cons,List.map_cons,List.cons_append,List.cons_append,List.zip_cons_cons,List.filter_cons_of_pos (by simpa using hne),zip_rows (m8 hr),List.map_cons,List.cons_append]
theorem EG {p:Str} {qs:List Row} (hr:cV qs) {es:List (Tree×Tree)} (hd:fA es):u6 qs (cD p qs es):=by
 have hk:∀t:Tree,t.depth≤2→t ∉ (cD p qs es).map (·.1):=fun t ht z=>by
  obtain ⟨e,he,ee⟩:=List.mem_map.mp z
  rcases lP.mp he with h|⟨q,hq,rfl⟩
  ·have:=hd e h;rw [ee] at this;(first|lia|omega)
  ·have:=et (p:=p) (hr.2.2.2 q hq).2.1
   rw [←ee] at ht
   have h2:(aP p q).depth≤2:=ht
   (first|lia|omega)
 intro q hq
 exact ⟨hk _ (by show 1≤2;decide),hk _ (by show 1≤2;decide),hk _ (by have:=(hr.2.2.2 q hq).2.1;(first|lia|omega))⟩
theorem rX {x p:Str} {qs:List Row} (hr:cV qs) (hl:qs≠[]) (hl2:qs.length≤12):Run (qs.length+2*qs.length+1) (fun _=>none) [(Tree.block x (qs.map (aP p)),Tree.block x (qs.map (aY p)))] false (bp (cR qs (cD p qs [(Tree.block x (qs.map (aP p)),Tree.block x (qs.map (aY p)))]))):=by
 obtain ⟨e1,e2⟩:=ko (p:=p) hr hl
 have d1:(Tree.block x (qs.map (aP p))).depth=4:=by rw [Tree.depth,e1]
 have d2:(Tree.block x (qs.map (aY p))).depth=3:=by rw [Tree.depth,e2]
 have hD:fA [(Tree.block x (qs.map (aP p)),Tree.block x (qs.map (aY p)))]:=fun e he=>by
  rw [List.mem_singleton.mp he]
  show 3≤(Tree.block x (qs.map (aP p))).depth
  (first|lia|omega)
 rw [←tD]
 refine j9 (by simp) (by simp) (by first|lia|omega) (by first|lia|omega) (fun z=>by have:=congrArg Tree.depth z;(first|lia|omega)) ?_ (by show (qs.map (aP p)).length≤12;rw [List.length_map];exact hl2) ?_
 ·unfold d9
  simp [cf,eS]
 ·have t1:cO (bp []) (Tree.block x (qs.map (aP p))) (Tree.block x (qs.map (aY p)))=bp [(Tree.block x (qs.map (aP p)),Tree.block x (qs.map (aY p)))]:=by unfold cO;rw [if_neg (by simp [cf]),kH]
  have t2:cH (Tree.block x (qs.map (aP p))) (Tree.block x (qs.map (aY p)))=(qs.map fun q=>(aP p q,aY p q))++[]:=by
   unfold cH
   rw [if_neg (by simp [cf])]
   have:=zip_rows (p:=p) hr (a:=[]) (b:=[])
   rw [List.append_nil,List.append_nil] at this
   exact this
  rw [t1,t2,List.nil_append]
  refine oN hr hD (fun q hq z=>?_) ?_
  ·have h1:=et (p:=p) (hr.2.2.2 q hq).2.1
   have h2:aP p q=Tree.block x (qs.map (aP p)):=by simpa using z
   have:=congrArg Tree.depth h2
   (first|lia|omega)
  ·rw [List.nil_append]
   exact uB hr (EG hr hD)
theorem CS {x p z:Str} (hxz:x≠z) {qs:List Row} (hr:cV qs) (hl:qs≠[]) (hl2:qs.length≤11):∃L',Run (qs.length+1+1) (fun _=>none) [(Tree.block x (qs.map (aP p)++[Tree.block x []]),Tree.block x (qs.map (aY p)++[Tree.block z []]))] true L':=by
 obtain ⟨e1,e2⟩:=ko (p:=p) hr hl
 have dap:∀(a b:List Tree),Tree.depths (a++b)=max (Tree.depths a) (Tree.depths b):=fun a b=>by
  induction a with
  |nil=>rw [List.nil_append,Tree.depths];(first|lia|omega)
  |cons t ts ih=>rw [List.cons_append,Tree.depths,Tree.depths,ih];(first|lia|omega)
 have dl:∀y:Str,Tree.depths [Tree.block y []]=1:=fun y=>rfl
 have d1:(Tree.block x (qs.map (aP p)++[Tree.block x []])).depth=4:=by rw [Tree.depth,dap,e1,dl];rfl
 have d2:(Tree.block x (qs.map (aY p)++[Tree.block z []])).depth=3:=by rw [Tree.depth,dap,e2,dl];rfl
 generalize hone:Tree.block x (qs.map (aP p)++[Tree.block x []])=one at *
 generalize hoth:Tree.block x (qs.map (aY p)++[Tree.block z []])=oth at *
 have hD:fA [(one,oth)]:=fun e he=>by
  rw [List.mem_singleton.mp he]
  show 3≤one.depth
  (first|lia|omega)
 have hne:Tree.block x []≠Tree.block z []:=fun q=>hxz (by injection q)
 have hkey:∀t:Tree,t.depth≤2→t ∉ (cD p qs [(one,oth)]).map (·.1):=fun t ht q=>by
  obtain ⟨e,he,ee⟩:=List.mem_map.mp q
  rcases lP.mp he with h|⟨q,hq,rfl⟩
  ·have:=hD e h;rw [ee] at this;(first|lia|omega)
  ·have:=et (p:=p) (hr.2.2.2 q hq).2.1
   rw [←ee] at ht
   have h2:(aP p q).depth≤2:=ht
   (first|lia|omega)
 obtain ⟨L',hrun⟩:=HH (n:=0) (es:=cD p qs [(one,oth)]) (l:=Tree.block x []) (r:=Tree.block z []) (ps:=qs.flatMap two) (hkey _ (by show 1≤2;decide)) (hkey _ (by show 1≤2;decide)) (by show 1≤4;decide) (by show 1≤4;decide) hne (by unfold d9;simp [cf,eS,hxz])
 refine ⟨L',?_⟩
 rw [←tD]
 refine j9 (by simp) (by simp) (by first|lia|omega) (by first|lia|omega) (fun q=>by have:=congrArg Tree.depth q;(first|lia|omega)) ?_ (by rw [←hone];show (qs.map (aP p)++[Tree.block x []]).length≤12;rw [List.length_append,List.length_map];simp;(first|lia|omega)) ?_
 ·rw [←hone,←hoth]
  unfold d9
  simp [cf,eS]
 ·have t1:cO (bp []) one oth=bp [(one,oth)]:=by unfold cO;rw [if_neg (by rw [←hone,←hoth];simp [cf]),kH]
  have t2:cH one oth=(qs.map fun q=>(aP p q,aY p q))++[(Tree.block x [],Tree.block z [])]:=by
   unfold cH
   rw [if_neg (by rw [←hone,←hoth];simp [cf]),←hone,←hoth]
   show ((qs.map (aP p)++[Tree.block x []]).zip (qs.map (aY p)++[Tree.block z []])).filter _=_
   rw [zip_rows hr]
   congr 1
   show [(Tree.block x [],Tree.block z [])].filter _=_
   rw [List.filter_cons_of_pos (by simpa using hxz)]
   rfl
  rw [t1,t2,List.nil_append]
  refine oN hr hD (fun q hq z'=>?_) hrun
  have h1:=et (p:=p) (hr.2.2.2 q hq).2.1
  have h2:aP p q=one:=by simpa using z'
  have:=congrArg Tree.depth h2
  (first|lia|omega)
theorem uL {es:List (Tree×Tree)} {u r:Tree} (hf:∀r',(u,r')∈es→r'=r) (h:(u,r)∈es):bp es u=some r:=by
 unfold bp
 cases e:es.find? fun e=>decide (e.1=u) with
 |none =>
  rw [List.find?_eq_none] at e
  exact absurd (decide_eq_true rfl) (e (u,r) h)
 |some x =>
  have h1:=List.find?_some e
  have h2:=List.mem_of_find?_eq_some e
  have h3:x.1=u:=of_decide_eq_true h1
  rw [←h3] at hf
  show some x.2=some r
  rw [hf x.2 h2]
theorem kn {α β:Type} {f:α→β}:∀{l:List α},(l.map f).Nodup→∀{a b:α},a∈l→b∈l→f a=f b→a=b
 |[],_,_,_,h,_,_=>nomatch h
 |x::l,hn,a,b,ha,hb,e=>by
  rw [List.map_cons,List.nodup_cons] at hn
  rcases List.mem_cons.mp ha with h1|h1
  ·rcases List.mem_cons.mp hb with h2|h2
   ·rw [h1,h2]
   ·exact absurd (List.mem_map.mpr ⟨b,h2,by rw [←e,h1]⟩) hn.1
  ·rcases List.mem_cons.mp hb with h2|h2
   ·exact absurd (List.mem_map.mpr ⟨a,h1,by rw [e,h2]⟩) hn.1
   ·exact kn hn.2 h1 h2 e
section
variable {p:Str} {qs:List Row} {es0:List (Tree×Tree)}
theorem jw {u r:Tree} (hd:fA es0) (hr:cV qs) (hu:u.depth≤2):(u,r)∈cR qs (cD p qs es0)↔∃q∈qs,(u,r)=(.blank q.2.1,q.2.2)∨(u,r)=(.blank q.1,.blank q.2.1):=by
 rw [vN]
 constructor
 ·rintro (h|h)
  ·exfalso
   rcases lP.mp h with h|⟨q,hq,h⟩
   ·have:=hd _ h
    have h2:3≤u.depth:=this
    (first|lia|omega)
   ·have h1:=et (p:=p) (hr.2.2.2 q hq).2.1
    have h2:u=aP p q:=congrArg Prod.fst h
    rw [h2] at hu
    (first|lia|omega)
  ·exact h
 ·exact .inr
theorem DV (hd:fA es0) (hr:cV qs) {q:Row} (hq:q∈qs):Way (bp (cR qs (cD p qs es0))) (.blank q.1) [.blank q.1,.blank q.2.1] q.2.2∧Way (bp (cR qs (cD p qs es0))) (.blank q.2.1) [.blank q.2.1] q.2.2:=by
 obtain ⟨hn1,hn2,hn3,hn4⟩:=id hr
 obtain ⟨hb,hdp,_⟩:=hn4 q hq
 have l1:bp (cR qs (cD p qs es0)) (.blank q.1)=some (.blank q.2.1):=by
  refine uL (fun r' h=>?_) ((jw hd hr (by show 1≤2;decide)).mpr ⟨q,hq,.inr rfl⟩)
  obtain ⟨x,hx,h|h⟩:=(jw hd hr (by show 1≤2;decide)).mp h
  ·exact absurd (dm (congrArg Prod.fst h)) (hn3 q hq x hx)
  ·have e:=kn hn1 hx hq (dm (congrArg Prod.fst h)).symm
   rw [show r'=.blank x.2.1 from congrArg Prod.snd h,e]
 have l2:bp (cR qs (cD p qs es0)) (.blank q.2.1)=some q.2.2:=by
  refine uL (fun r' h=>?_) ((jw hd hr (by show 1≤2;decide)).mpr ⟨q,hq,.inl rfl⟩)
  obtain ⟨x,hx,h|h⟩:=(jw hd hr (by show 1≤2;decide)).mp h
  ·have e:=kn hn2 hx hq (dm (congrArg Prod.fst h)).symm
   rw [show r'=x.2.2 from congrArg Prod.snd h,e]
  ·exact absurd (dm (congrArg Prod.fst h)).symm (hn3 x hx q hq)
 have l3:bp (cR qs (cD p qs es0)) q.2.2=none:=by
  refine jb fun z=>?_
  obtain ⟨e,he,ee⟩:=List.mem_map.mp z
  have he':(q.2.2,e.2)∈cR qs (cD p qs es0):=by rw [←ee];exact he
  obtain ⟨x,hx,h|h⟩:=(jw hd hr (by first|lia|omega)).mp he'
  ·rw [show q.2.2=.blank x.2.1 from congrArg Prod.fst h] at hb;cases hb
  ·rw [show q.2.2=.blank x.1 from congrArg Prod.fst h] at hb;cases hb
 have hne:Tree.blank q.1≠Tree.blank q.2.1:=fun z=>hn3 q hq q hq (dm z)
 refine ⟨⟨⟨rfl,_,l1,rfl,_,l2,rfl,l3⟩,fun u hu=>?_,fF (by first|lia|omega),by simpa using hne,by simp⟩,⟨⟨rfl,_,l2,rfl,l3⟩,fun u hu=>?_,fF (by first|lia|omega),by simp,by simp⟩⟩
 ·simp only [List.mem_cons,List.not_mem_nil,or_false] at hu
  rcases hu with rfl|rfl<;>exact fF (by show 1≤4;decide)
 ·rw [List.mem_singleton.mp hu]
  exact fF (by show 1≤4;decide)
theorem B8 (hd:fA es0) (hr:cV qs) {k:Int} (hk:∀q∈qs,k≠q.1∧k≠q.2.1):Way (bp (cR qs (cD p qs es0))) (.blank k) [] (.blank k):=by
 refine ⟨⟨rfl,jb fun z=>?_⟩,fun u hu=>(nomatch hu),fF (by show 1≤4;decide),List.nodup_nil,by simp⟩
 obtain ⟨e,he,ee⟩:=List.mem_map.mp z
 have he':(Tree.blank k,e.2)∈cR qs (cD p qs es0):=by rw [←ee];exact he
 obtain ⟨x,hx,h|h⟩:=(jw hd hr (by show 1≤2;decide)).mp he'
 ·exact (hk x hx).2 (dm (congrArg Prod.fst h))
 ·exact (hk x hx).1 (dm (congrArg Prod.fst h))
end
theorem p6 (g:Int) (t:Tree):dB g t=aN (fun k=>.blank (k+g)) t:=by
 unfold dB
 rw [jl]
 refine lZ t fun k hk=>?_
 rw [uC (d8.mpr (.inr hk))]
 rfl
noncomputable def cU (qs:List Row) (k:Int):Tree:=((qs.find? fun q=>decide (q.1=k∨q.2.1=k)).map (·.2.2)).getD (.blank k)
theorem qa {qs:List Row} (hr:cV qs) {q:Row} (hq:q∈qs) {k:Int} (h:q.1=k∨q.2.1=k):cU qs k=q.2.2:=by
 obtain ⟨hn1,hn2,hn3,_⟩:=hr
 unfold cU
 cases e:qs.find? fun q=>decide (q.1=k∨q.2.1=k) with
 |none =>
  rw [List.find?_eq_none] at e
  exact absurd (decide_eq_true h) (e q hq)
 |some x =>
  have h0:=List.find?_some e
  have h1:x.1=k∨x.2.1=k:=of_decide_eq_true h0
  have h2:=List.mem_of_find?_eq_some e
  show x.2.2=q.2.2
  rcases h1 with h1|h1
  ·rcases h with h|h
   ·rw [kn hn1 h2 hq (h1.trans h.symm)]
   ·exact absurd (h1.trans h.symm) (hn3 x h2 q hq)
  ·rcases h with h|h
   ·exact absurd (h.trans h1.symm) (hn3 q hq x h2)
   ·rw [kn hn2 h2 hq (h1.trans h.symm)]
theorem r8 {qs:List Row} {k:Int} (h:∀q∈qs,q.1≠k∧q.2.1≠k):cU qs k=.blank k:=by
 unfold cU
 have:(qs.find? fun q=>decide (q.1=k∨q.2.1=k))=none:=by
  rw [List.find?_eq_none]
  intro q hq z
  rcases of_decide_eq_true z with z|z
  ·exact (h q hq).1 z
  ·exact (h q hq).2 z
 rw [this];rfl
noncomputable def dJ (qs:List Row):Nx:=fun k=>(within (cU qs k)).head?
theorem gG {k:Int}:∀{ts:List Tree},k∈bX ts↔∃t∈ts,k∈nums t
 |[]=>by simp [bX]
 |t::ts=>by
  rw [bX,List.mem_append,gG]
  simp
theorem kc {x p:Str} {qs:List Row} {k:Int}:k∈nums (Tree.block x (qs.map (aP p)))↔∃q∈qs,k=q.1∨k∈nums q.2.2:=by
 rw [nums,gG]
 constructor
 ·rintro ⟨t,ht,hk⟩
  obtain ⟨q,hq,rfl⟩:=List.mem_map.mp ht
  refine ⟨q,hq,?_⟩
  unfold aP at hk
  rw [nums,gG] at hk
  obtain ⟨u,hu,hk⟩:=hk
  simp only [List.mem_cons,List.not_mem_nil,or_false] at hu
  rcases hu with rfl|rfl
  ·exact .inl (by simpa [nums] using hk)
  ·exact .inr hk
 ·rintro ⟨q,hq,h⟩
  refine ⟨_,List.mem_map.mpr ⟨q,hq,rfl⟩,?_⟩
  unfold aP
  rw [nums,gG]
  rcases h with rfl|h
  ·exact ⟨.blank q.1,by simp,by simp [nums]⟩
  ·exact ⟨q.2.2,by simp,h⟩
theorem wZ {x p:Str} {qs:List Row} {k:Int}:k∈nums (Tree.block x (qs.map (aY p)))↔∃q∈qs,k=q.2.1:=by
 rw [nums,gG]
 constructor
 ·rintro ⟨t,ht,hk⟩
  obtain ⟨q,hq,rfl⟩:=List.mem_map.mp ht
  refine ⟨q,hq,?_⟩
  unfold aY at hk
  simpa [nums,bX] using hk
 ·rintro ⟨q,hq,rfl⟩
  exact ⟨_,List.mem_map.mpr ⟨q,hq,rfl⟩,by unfold aY;simp [nums,bX]⟩
theorem CU {t:Tree} (h:cf t=true):within t=aB [] (nums t):=by
 cases t with
 |blank k=>cases h
 |block z ps=>rfl
theorem head_toList {l:List Int} (h:l.length≤1):l=l.head?.toList:=by
 cases l with
 |nil=>rfl
 |cons a l=>cases l with
  |nil=>rfl
  |cons b l=>simp at h
theorem mr {x p:Str} {qs:List Row} {k:Int}:k∈bR (Tree.block x (qs.map (aP p))) (Tree.block x (qs.map (aY p)))↔(∃q∈qs,k=q.1∨k∈nums q.2.2)∨∃q∈qs,k=q.2.1:=by
 unfold bR
 rw [List.mem_append,d8,d8,kc,wZ]
 simp
noncomputable def qb (qs:List Row) (ex:List Int) (g:Int):Prop:=(∀q∈qs,(within q.2.2).length≤1∧q.2.2.knots≤10∧∀k∈nums q.2.2,k∈qs.map (fun q=>q.1)∨k∈ex)∧ex.length≤5∧(∀q∈qs,∀k∈nums q.2.2,k≤g)∧(∀q∈qs,q.1≤g∧g < q.2.1)
theorem ur {x p:Str} {qs:List Row} {ex:List Int} {g:Int} {es0:List (Tree×Tree)} (hr:cV qs) (hi:qb qs ex g) (hd:fA es0) (hl:qs.length≤9) :
  (bR (Tree.block x (qs.map (aP p))) (Tree.block x (qs.map (aY p)))).Nodup∧(bR (Tree.block x (qs.map (aP p))) (Tree.block x (qs.map (aY p)))).length≤30 ∧
  ∀k∈bR (Tree.block x (qs.map (aP p))) (Tree.block x (qs.map (aY p))),(∃w,Way (bp (cR qs (cD p qs es0))) (.blank k) w (cU qs k))∧((cU qs k).depth≤20∧(cU qs k).knots≤400)∧within (cU qs k)=(dJ qs k).toList∧∀j,dJ qs k=some j→j∈bR (Tree.block x (qs.map (aP p))) (Tree.block x (qs.map (aY p))):=by
 obtain ⟨i1,i2,i3,i4⟩:=hi
 have hnd:(bR (Tree.block x (qs.map (aP p))) (Tree.block x (qs.map (aY p)))).Nodup:=by
  unfold bR
  refine List.nodup_append.mpr ⟨gX List.nodup_nil,gX List.nodup_nil,fun a ha b hb e=>?_⟩
  subst e
  have h1:=kc.mp ((d8.mp ha).resolve_left (by simp))
  have h2:=wZ.mp ((d8.mp hb).resolve_left (by simp))
  obtain ⟨q,hq,h1⟩:=h1
  obtain ⟨r,hr',rfl⟩:=h2
  have:=(i4 r hr').2
  rcases h1 with h1|h1
  ·have:=(i4 q hq).1;(first|lia|omega)
  ·have:=i3 q hq _ h1;(first|lia|omega)
 refine ⟨hnd,?_,fun k hk=>?_⟩
 ·have h1:(bR (Tree.block x (qs.map (aP p))) (Tree.block x (qs.map (aY p)))).length≤(qs.map (fun q=>q.1)++qs.map (fun q=>q.2.1)++ex).length:=by
   refine sub_len hnd fun k hk=>?_
   rw [List.mem_append,List.mem_append]
   rcases mr.mp hk with ⟨q,hq,h|h⟩|⟨q,hq,h⟩
   ·exact .inl (.inl (List.mem_map.mpr ⟨q,hq,h.symm⟩))
   ·rcases (i1 q hq).2.2 k h with h|h
    ·exact .inl (.inl h)
    ·exact .inr h
   ·exact .inl (.inr (List.mem_map.mpr ⟨q,hq,h.symm⟩))
  rw [List.length_append,List.length_append,List.length_map,List.length_map] at h1
  (first|lia|omega)
 ·have hin:∀q∈qs,(within q.2.2=((within q.2.2).head?).toList)∧∀j,(within q.2.2).head?=some j→j∈bR (Tree.block x (qs.map (aP p))) (Tree.block x (qs.map (aY p))):=fun q hq=>by
   refine ⟨head_toList (i1 q hq).1,fun j hj=>?_⟩
   have h1:j∈within q.2.2:=List.mem_of_mem_head? hj
   rw [CU (hr.2.2.2 q hq).1] at h1
   exact mr.mpr (.inl ⟨q,hq,.inr ((d8.mp h1).resolve_left (by simp))⟩)
  by_cases c:∃q∈qs,q.1=k∨q.2.1=k
  ·obtain ⟨q,hq,h⟩:=c
   have e:=qa hr hq h
   have hnx:dJ qs k=(within q.2.2).head?:=by unfold dJ;rw [e]
   rw [hnx,e]
   obtain ⟨w1,w2⟩:=DV (p:=p) hd hr hq
   refine ⟨?_,⟨by have:=(hr.2.2.2 q hq).2.1;(first|lia|omega),by have:=(i1 q hq).2.1;(first|lia|omega)⟩,hin q hq⟩
   rcases h with rfl|rfl
   ·exact ⟨_,w1⟩
   ·exact ⟨_,w2⟩
  ·have h:∀q∈qs,q.1≠k∧q.2.1≠k:=fun q hq=>⟨fun z=>c ⟨q,hq,.inl z⟩,fun z=>c ⟨q,hq,.inr z⟩⟩
   have e:=r8 h
   have hnx:dJ qs k=none:=by unfold dJ;rw [e];rfl
   rw [hnx,e]
   exact ⟨⟨[],B8 hd hr fun q hq=>⟨Ne.symm (h q hq).1,Ne.symm (h q hq).2⟩⟩,⟨by show 1≤20;decide,by show 1≤400;decide⟩,rfl,fun j z=>(nomatch z)⟩
structure Fm where
 x:Str
 y:Str
 z:Str
 p:Str
 m:Nat
 bl:Nat→Int
 tm:Nat→Nat
 cl:Bool
noncomputable def Fm.ok (F:Fm):Prop:=F.x≠F.z∧1≤F.m∧F.m≤8∧(∀i j,i≤F.m→j≤F.m→F.bl i=F.bl j→i=j)∧∀i,1≤F.tm i∧F.tm i≤3
noncomputable def Fm.last (F:Fm):Tree:=if F.cl then .block F.z [] else .blank (F.bl F.m)
noncomputable def Fm.next (F:Fm) (i:Nat):Tree:=if i+1 < F.m then .blank (F.bl (i+1)) else F.last
noncomputable def Fm.yT (F:Fm) (i:Nat):Tree:=.block F.y (List.replicate (F.tm i) (F.next i))
noncomputable def Fm.rowA (F:Fm) (g:Int) (i:Nat):Row:=(F.bl i,(i:Int)+1+g,F.yT i)
noncomputable def Fm.rowsA (F:Fm) (g:Int):List Row:=(List.range F.m).map (F.rowA g)
noncomputable def Fm.rowsR (F:Fm) (g:Int):List Row:=F.rowsA g++[(F.bl F.m,(F.m:Int)+1+g,F.yT 0)]
noncomputable def Fm.pT (F:Fm) (i:Nat):Tree:=.block F.p [.blank (F.bl i),F.yT i]
noncomputable def Fm.pairs (F:Fm):List Tree:=(List.range F.m).map F.pT
noncomputable def Fm.one (F:Fm):Tree:=.block F.x F.pairs
noncomputable def Fm.twoP (F:Fm) (i:Nat):Tree:=.block F.p [.blank ((i:Int)+1),.blank ((i:Int)+1)]
noncomputable def Fm.twos (F:Fm) (n:Nat):Tree:=.block F.x ((List.range n).map F.twoP)
noncomputable def Fm.ring (F:Fm):Tree:=.block F.x (F.pairs++[.block F.p [.blank (F.bl F.m),F.yT 0]])
noncomputable def Fm.zr (F:Fm):Nat→Tree
 |0=>F.last
 |j+1=>.block F.y (List.replicate (F.tm (F.m-1-j)) (F.zr j))
section
variable {F:Fm} {g:Int}
theorem kR (g:Int):F.one=.block F.x ((F.rowsA g).map (aP F.p)):=by
 unfold Fm.one Fm.pairs Fm.rowsA
 rw [List.map_map]
 rfl
theorem rB (g:Int):F.ring=.block F.x ((F.rowsR g).map (aP F.p)):=by
 unfold Fm.ring Fm.rowsR Fm.pairs Fm.rowsA
 rw [List.map_append,List.map_map]
 rfl
theorem E7 (φ:Int→Tree) (a b:List Tree):bN φ (a++b)=bN φ a++bN φ b:=by rw [fU,fU,fU,List.map_append]
theorem Ep (g:Int):dB g (F.twos F.m)=.block F.x ((F.rowsA g).map (aY F.p)):=by
 rw [p6]
 unfold Fm.twos Fm.rowsA
 rw [aN,fU,List.map_map,List.map_map]
 rfl
theorem Bk (g:Int):dB g (F.twos (F.m+1))=.block F.x ((F.rowsR g).map (aY F.p)):=by
 rw [p6]
 unfold Fm.twos Fm.rowsR Fm.rowsA
 rw [aN,fU,List.range_succ,List.map_append,List.map_append,List.map_map,List.map_append,List.map_map,List.map_map]
 rfl
theorem uX (i:Nat):(F.next i).depth=1∧(F.next i).knots=1:=by
 unfold Fm.next Fm.last
 split
 ·exact ⟨rfl,rfl⟩
 ·split<;>exact ⟨rfl,rfl⟩
theorem ox {t:Tree}:∀{n:Nat},1≤n→Tree.depths (List.replicate n t)=t.depth
 |0,h=>by (first|lia|omega)
 |1,_=>by show max t.depth 0=_;(first|lia|omega)
 |n+2,_=>by
  rw [List.replicate_succ,Tree.depths,ox (n:=n+1) (by first|lia|omega)]
  (first|lia|omega)
theorem pf {t:Tree}:∀{n:Nat},Tree.knotss (List.replicate n t)=n*t.knots
 |0=>by rw [Nat.zero_mul];rfl
 |n+1=>by
  rw [List.replicate_succ,Tree.knotss,pf (n:=n),Nat.succ_mul]
  (first|lia|omega)
theorem iB (h:F.ok) (i:Nat):cf (F.yT i)=true∧(F.yT i).depth=2∧(F.yT i).parts.length≤12:=by
 obtain ⟨_,_,_,_,h5⟩:=h
 refine ⟨rfl,?_,?_⟩
 ·unfold Fm.yT
  rw [Tree.depth,ox (h5 i).1,(uX i).1]
 ·show (List.replicate (F.tm i) (F.next i)).length≤12
  rw [List.length_replicate]
  have:=(h5 i).2
  (first|lia|omega)
theorem D9 {t:Tree} {k:Int} {n:Nat} (h:1≤n):k∈bX (List.replicate n t)↔k∈nums t:=by
 rw [gG]
 constructor
 ·rintro ⟨u,hu,hk⟩
  rw [List.eq_of_mem_replicate hu] at hk
  exact hk
 ·intro hk
  exact ⟨t,List.mem_replicate.mpr ⟨by first|lia|omega,rfl⟩,hk⟩
noncomputable def Fm.nk (F:Fm) (i:Nat):Option Int:=if i+1 < F.m then some (F.bl (i+1)) else if F.cl then none else some (F.bl F.m)
theorem E6 (i:Nat):nums (F.next i)=(F.nk i).toList:=by
 unfold Fm.next Fm.last Fm.nk
 split
 ·rfl
 ·split<;>rfl
theorem gn (h:F.ok) (i:Nat) {k:Int}:k∈nums (F.yT i)↔F.nk i=some k:=by
 unfold Fm.yT
 rw [nums,D9 (h.2.2.2.2 i).1,E6]
 cases F.nk i<;>simp [eq_comm]
theorem j0 (h:F.ok) (i:Nat):within (F.yT i)=(F.nk i).toList:=by
 have h1:∀k,k∈within (F.yT i)↔F.nk i=some k:=fun k=>by
  show k∈aB [] (nums (F.yT i))↔_
  rw [d8,gn h]
  simp
 have h2:(within (F.yT i)).Nodup:=gX List.nodup_nil
 generalize within (F.yT i)=l at *
 cases e:F.nk i with
 |none =>
  cases l with
  |nil=>rfl
  |cons a l=>have:=(h1 a).mp List.mem_cons_self;rw [e] at this;cases this
 |some k =>
  cases l with
  |nil=>have:=(h1 k).mpr e;cases this
  |cons a l =>
   have ha:a=k:=by have:=(h1 a).mp List.mem_cons_self;rw [e] at this;exact (Option.some.inj this).symm
   cases l with
   |nil=>rw [ha];rfl
   |cons b l =>
    have hb:b=k:=by have:=(h1 b).mp (by simp);rw [e] at this;exact (Option.some.inj this).symm
    rw [ha,hb] at h2
    simp at h2
theorem gR (h:F.ok) (i:Nat):(F.yT i).knots≤10:=by
 unfold Fm.yT
 rw [Tree.knots,pf,(uX i).2]
 have:=(h.2.2.2.2 i).2
 (first|lia|omega)
theorem sH (i:Nat) {k:Int} (h:F.nk i=some k):∃j,j≤F.m∧k=F.bl j:=by
 unfold Fm.nk at h
 split at h
 ·cases h;exact ⟨i+1,by first|lia|omega,rfl⟩
 ·split at h
  ·cases h
  ·cases h;exact ⟨F.m,Nat.le_refl _,rfl⟩
noncomputable def Fm.top (F:Fm) (g:Int):Prop:=(∀i,i < F.m→F.bl i≤g)∧∀i k,i < F.m→F.nk i=some k→k≤g
theorem ot (h:F.ok) (ht:F.top g):cV (F.rowsA g)∧qb (F.rowsA g) [F.bl F.m] g∧F.rowsA g≠[]∧(F.rowsA g).length=F.m:=by
 have hmem:∀{q:Row},q∈F.rowsA g↔∃i,i < F.m∧q=F.rowA g i:=by
  intro q
  unfold Fm.rowsA
  rw [List.mem_map]
  refine ⟨fun ⟨i,hi,e⟩=>⟨i,List.mem_range.mp hi,e.symm⟩,fun zz0=>?_⟩
  obtain ⟨i,hi,e⟩:=zz0
  exact ⟨i,List.mem_range.mpr hi,e.symm⟩
 have hlen:(F.rowsA g).length=F.m:=by unfold Fm.rowsA;rw [List.length_map,List.length_range]
 obtain ⟨_,h1,h2,h3,h4⟩:=id h
 have nd:∀{f:Nat→Int} {n:Nat},(∀i j,i < n→j < n→f i=f j→i=j)→((List.range n).map f).Nodup:=by
  intro f n hf
  rw [List.Nodup,List.pairwise_map]
  refine List.Pairwise.imp_of_mem ?_ (List.nodup_range (n:=n))
  intro a b ha hb hne e
  exact hne (hf a b (List.mem_range.mp ha) (List.mem_range.mp hb) e)
 refine ⟨⟨?_,?_,?_,?_⟩,⟨?_,by simp,?_,?_⟩,?_,hlen⟩
 ·unfold Fm.rowsA
  rw [List.map_map]
  exact nd (f:=fun i=>F.bl i) fun i j hi hj e=>h3 i j (by first|lia|omega) (by first|lia|omega) e
 ·unfold Fm.rowsA
  rw [List.map_map]
  exact nd (f:=fun i:Nat=>(i:Int)+1+g) fun i j _ _ e=>by (first|lia|omega)
 ·intro a ha c hc
  obtain ⟨i,hi,rfl⟩:=hmem.mp ha
  obtain ⟨j,hj,rfl⟩:=hmem.mp hc
  have:=ht.1 i hi
  show F.bl i≠(j:Int)+1+g
  (first|lia|omega)
 ·intro q hq
  obtain ⟨i,hi,rfl⟩:=hmem.mp hq
  exact iB h i
 ·intro q hq
  obtain ⟨i,hi,rfl⟩:=hmem.mp hq
  refine ⟨?_,gR h i,fun k hk=>?_⟩
  ·show (within (F.yT i)).length≤1
   rw [j0 h]
   cases F.nk i<;>simp
  ·have hk':=(gn h i).mp hk
   obtain ⟨j,hj,rfl⟩:=sH i hk'
   rcases Nat.lt_or_ge j F.m with hj'|hj'
   ·exact .inl (List.mem_map.mpr ⟨F.rowA g j,hmem.mpr ⟨j,hj',rfl⟩,rfl⟩)
   ·exact .inr (by rw [show j=F.m by first|lia|omega];simp)
 ·intro q hq k hk
  obtain ⟨i,hi,rfl⟩:=hmem.mp hq
  exact ht.2 i k hi ((gn h i).mp hk)
 ·intro q hq
  obtain ⟨i,hi,rfl⟩:=hmem.mp hq
  exact ⟨ht.1 i hi,by show g < (i:Int)+1+g;(first|lia|omega)⟩
 ·intro z
  rw [z] at hlen
  simp at hlen
  (first|lia|omega)
end
section
variable {F:Fm} {g:Int} {mg:Str→Option Value} {M:DH} {Q:KD} {EX:Value→DH→Prop}
theorem dU {q:Row}:q∈F.rowsA g↔∃i,i < F.m∧q=F.rowA g i:=by
 unfold Fm.rowsA
 rw [List.mem_map]
 refine ⟨fun ⟨i,hi,e⟩=>⟨i,List.mem_range.mp hi,e.symm⟩,fun zz0=>?_⟩
 obtain ⟨i,hi,e⟩:=zz0
 exact ⟨i,List.mem_range.mpr hi,e.symm⟩
theorem oH (h:F.ok) {t:Tree} (hs:∀k,k∈nums F.one→k∈nums t) (ht:kj g (aB [] (nums t))):F.top g:=by
 have hb:∀i,i < F.m→F.bl i∈aB [] (nums t):=fun i hi=>d8.mpr (.inr (hs _ (by rw [kR 0];exact kc.mpr ⟨F.rowA 0 i,dU.mpr ⟨i,hi,rfl⟩,.inl rfl⟩)))
 rcases ht with ⟨e,_⟩|⟨_,ht⟩
 ·have:=hb 0 (by have:=h.2.1;(first|lia|omega))
  rw [e] at this
  cases this
 ·exact ⟨fun i hi=>ht _ (hb i hi),fun i k hi hk=>ht _ (d8.mpr (.inr (hs _ (by rw [kR 0];exact kc.mpr ⟨F.rowA 0 i,dU.mpr ⟨i,hi,rfl⟩,.inr ((gn h i).mpr hk)⟩))))⟩
theorem nE {d:Nat}:∀{ts:List Tree},(∀t∈ts,t.depth≤d)→Tree.depths ts≤d
 |[],_=>Nat.zero_le _
 |t::ts,h=>by
  have h1:=h t List.mem_cons_self
  have h2:=nE fun u hu=>h u (List.mem_cons_of_mem _ hu)
  rw [Tree.depths]
  (first|lia|omega)
theorem tK {k:Nat}:∀{ts:List Tree},(∀t∈ts,t.knots≤k)→Tree.knotss ts≤ts.length*k
 |[],_=>Nat.zero_le _
 |t::ts,h=>by
  have h1:=h t List.mem_cons_self
  have h2:=tK fun u hu=>h u (List.mem_cons_of_mem _ hu)
  rw [Tree.knotss,List.length_cons,Nat.succ_mul]
  (first|lia|omega)
theorem fw {z:Str} {ts:List Tree} (h:∀t∈ts,t.depth≤15∧t.knots≤20) (hl:ts.length≤12):(Tree.block z ts).depth≤20∧(Tree.block z ts).knots≤400:=by
 have h1:=nE fun t ht=>(h t ht).1
 have h2:=tK fun t ht=>(h t ht).2
 rw [Tree.depth,Tree.knots]
 (first|lia|omega)
theorem oI {p:Str} {qs:List Row}:∀t∈qs.map (aY p),t.depth≤15∧t.knots≤20:=fun t ht=>by
 obtain ⟨q,hq,rfl⟩:=List.mem_map.mp ht
 have h1:=ik p q
 refine ⟨by first|lia|omega,?_⟩
 unfold aY
 simp only [Tree.knots,Tree.knotss]
 (first|lia|omega)
theorem md (n:Nat):∀t∈(List.range n).map F.twoP,t.depth≤15∧t.knots≤20:=fun t ht=>by
 obtain ⟨i,hi,rfl⟩:=List.mem_map.mp ht
 unfold Fm.twoP
 simp only [Tree.depth,Tree.depths,Tree.knots,Tree.knotss]
 (first|lia|omega)
theorem u7 (z:Str):(Tree.block z []).depth≤15∧(Tree.block z []).knots≤20:=⟨by show 1≤15;decide,by show 1≤20;decide⟩
noncomputable def Fm.barred (F:Fm):Tree:=.block F.x (F.pairs++[.block F.x []])
noncomputable def Fm.barredO (F:Fm):Tree:=.block F.x ((List.range F.m).map F.twoP++[.block F.z []])
theorem Ce (h:F.ok) (hq:∀x M',Sub M M'→Q (.tup [.str (Str.ofString "none"),.tup x]) M'):dZ mg [F.barred.d,F.barredO.d] M Q EX:=by
 have ep:∀g,F.pairs=(F.rowsA g).map (aP F.p):=fun g=>by have:=kR (F:=F) g;unfold Fm.one at this;injection this
 have eb:∀g,dB g F.barredO=.block F.x ((F.rowsA g).map (aY F.p)++[.block F.z []]):=fun g=>by
  rw [p6]
  unfold Fm.barredO Fm.rowsA
  rw [aN,E7,fU,List.map_map,List.map_map]
  rfl
 have hsub:∀k,k∈nums F.one→k∈nums F.barred:=fun k hk=>by
  unfold Fm.barred Fm.one at *
  rw [nums,gG] at hk ⊢
  obtain ⟨t,ht,h1⟩:=hk
  exact ⟨t,List.mem_append_left _ ht,h1⟩
 have hlen:F.pairs.length=F.m:=by unfold Fm.pairs;rw [List.length_map,List.length_range]
 obtain ⟨hxz,h1,h2,_,_⟩:=id h
 have hbs:F.barred.depth≤20∧F.barred.knots≤400:=by
  refine fw (fun t ht=>?_) (by rw [List.length_append,hlen];simp;(first|lia|omega))
  rcases List.mem_append.mp ht with ht|ht
  ·obtain ⟨i,hi,rfl⟩:=List.mem_map.mp ht
   have h3:=iB h i
   have h4:=gR h i
   unfold Fm.pT
   simp only [Tree.depth,Tree.depths,Tree.knots,Tree.knotss]
   (first|lia|omega)
  ·rw [List.mem_singleton.mp ht];exact u7 _
 have hos:∀(ts:List Tree),(∀t∈ts,t.depth≤15∧t.knots≤20)→ts.length=F.m→(Tree.block F.x (ts++[Tree.block F.z []])).depth≤20∧(Tree.block F.x (ts++[Tree.block F.z []])).knots≤400:=fun ts hts hl=>by
  refine fw (fun t ht=>?_) (by rw [List.length_append,hl];simp;(first|lia|omega))
  rcases List.mem_append.mp ht with ht|ht
  ·exact hts t ht
  ·rw [List.mem_singleton.mp ht];exact u7 _
 refine ⟨F.barred,F.barredO,rfl,hbs,hos _ (md F.m) (by rw [List.length_map,List.length_range]),fun g hg=>?_⟩
 obtain ⟨r1,r2,r3,r4⟩:=ot h (oH h hsub hg)
 obtain ⟨L',hrun⟩:=CS (p:=F.p) hxz r1 r3 (by first|lia|omega)
 refine ⟨(F.rowsA g).length+1+1,true,L',?_,?_,?_,fun _=>hq,fun z=>(nomatch z)⟩
 ·(first|lia|omega)
 ·rw [eb]
  unfold Fm.barred
  rw [ep g]
  exact hrun
 ·rw [eb]
  exact hos _ oI (by rw [List.length_map];exact r4)
theorem GX (h:F.ok) (hc:F.cl=false) (ht:F.top g) (hm:F.bl F.m≤g):cV (F.rowsR g)∧qb (F.rowsR g) [] g∧F.rowsR g≠[]∧(F.rowsR g).length=F.m+1:=by
 obtain ⟨⟨a1,a2,a3,a4⟩,⟨b1,b2,b3,b4⟩,c1,c2⟩:=ot h ht
 have hmem:∀{q:Row},q∈F.rowsR g↔q∈F.rowsA g∨q=(F.bl F.m,(F.m:Int)+1+g,F.yT 0):=by
  intro q
  unfold Fm.rowsR
  rw [List.mem_append,List.mem_singleton]
 have hlen:(F.rowsR g).length=F.m+1:=by unfold Fm.rowsR;rw [List.length_append,c2];rfl
 have hi3:=h.2.2.2.1
 have hin:∀i k,F.nk i=some k→k∈(F.rowsR g).map fun q=>q.1:=fun i k hk=>by
  obtain ⟨j,hj,rfl⟩:=sH i hk
  rcases Nat.lt_or_ge j F.m with hj'|hj'
  ·exact List.mem_map.mpr ⟨F.rowA g j,hmem.mpr (.inl (dU.mpr ⟨j,hj',rfl⟩)),rfl⟩
  ·exact List.mem_map.mpr ⟨_,hmem.mpr (.inr rfl),by rw [show j=F.m by first|lia|omega]⟩
 have hb1:∀i,(within (F.yT i)).length≤1:=fun i=>by rw [j0 h];cases F.nk i<;>simp
 refine ⟨⟨?_,?_,?_,?_⟩,⟨?_,by simp,?_,?_⟩,?_,hlen⟩
 ·unfold Fm.rowsR
  rw [List.map_append]
  refine List.nodup_append.mpr ⟨a1,by simp,fun x hx y hy e=>?_⟩
  obtain ⟨q,hq,rfl⟩:=List.mem_map.mp hx
  obtain ⟨i,hi,rfl⟩:=dU.mp hq
  have hy':y=F.bl F.m:=by simpa using hy
  have:i=F.m:=hi3 i F.m (by first|lia|omega) (Nat.le_refl _) (e.trans hy')
  (first|lia|omega)
 ·unfold Fm.rowsR
  rw [List.map_append]
  refine List.nodup_append.mpr ⟨a2,by simp,fun x hx y hy e=>?_⟩
  obtain ⟨q,hq,rfl⟩:=List.mem_map.mp hx
  obtain ⟨i,hi,rfl⟩:=dU.mp hq
  have hy':y=(F.m:Int)+1+g:=by simpa using hy
  have e2:(i:Int)+1+g=(F.m:Int)+1+g:=e.trans hy'
  (first|lia|omega)
 ·intro a ha c hc'
  have ha':a.1≤g:=by
   rcases hmem.mp ha with ha|rfl
   ·exact (b4 a ha).1
   ·exact hm
  have hc'':g < c.2.1:=by
   rcases hmem.mp hc' with hc'|rfl
   ·exact (b4 c hc').2
   ·show g < (F.m:Int)+1+g;(first|lia|omega)
  (first|lia|omega)
 ·intro q hq
  rcases hmem.mp hq with hq|rfl
  ·exact a4 q hq
  ·exact iB h 0
 ·intro q hq
  rcases hmem.mp hq with hq|rfl
  ·obtain ⟨i,hi,rfl⟩:=dU.mp hq
   exact ⟨hb1 i,gR h i,fun k hk=>.inl (hin i k ((gn h i).mp hk))⟩
  ·exact ⟨hb1 0,gR h 0,fun k hk=>.inl (hin 0 k ((gn h 0).mp hk))⟩
 ·intro q hq k hk
  rcases hmem.mp hq with hq|rfl
  ·exact b3 q hq k hk
  ·exact ht.2 0 k (by have:=h.2.1;(first|lia|omega)) ((gn h 0).mp hk)
 ·intro q hq
  rcases hmem.mp hq with hq|rfl
  ·exact b4 q hq
  ·exact ⟨hm,by show g < (F.m:Int)+1+g;(first|lia|omega)⟩
 ·intro z
  rw [z] at hlen
  cases hlen
theorem rG (h:F.ok) (hc:F.cl=false) (hq:∀x M',Sub M M'→Q (.tup [.str (Str.ofString "none"),.tup x]) M'):dZ mg [F.ring.d,(F.twos (F.m+1)).d] M Q EX:=by
 obtain ⟨_,h1,h2,h3,_⟩:=id h
 have hsub:∀k,k∈nums F.one→k∈nums F.ring:=fun k hk=>by
  unfold Fm.ring Fm.one at *
  rw [nums,gG] at hk ⊢
  obtain ⟨t,ht,h1⟩:=hk
  exact ⟨t,List.mem_append_left _ ht,h1⟩
 have hbm:F.bl F.m∈nums F.ring:=by
  rw [rB 0]
  exact kc.mpr ⟨(F.bl F.m,(F.m:Int)+1+0,F.yT 0),by unfold Fm.rowsR;simp,.inl rfl⟩
 have key:∀g,kj g (aB [] (nums F.ring))→F.top g∧F.bl F.m≤g:=fun g hg=>by
  refine ⟨oH h hsub hg,?_⟩
  have hin:F.bl F.m∈aB [] (nums F.ring):=d8.mpr (.inr hbm)
  rcases hg with ⟨e,_⟩|⟨_,ht⟩
  ·rw [e] at hin;cases hin
  ·exact ht _ hin
 have hrs:F.ring.depth≤20∧F.ring.knots≤400:=by
  have hlen:F.pairs.length=F.m:=by unfold Fm.pairs;rw [List.length_map,List.length_range]
  refine fw (fun t ht=>?_) (by rw [List.length_append,hlen];simp;(first|lia|omega))
  have hp:∀(k:Int) i,(Tree.block F.p [.blank k,F.yT i]).depth≤15∧(Tree.block F.p [.blank k,F.yT i]).knots≤20:=fun k i=>by
   have h3:=iB h i
   have h4:=gR h i
   simp only [Tree.depth,Tree.depths,Tree.knots,Tree.knotss]
   (first|lia|omega)
  rcases List.mem_append.mp ht with ht|ht
  ·obtain ⟨i,hi,rfl⟩:=List.mem_map.mp ht
   exact hp _ i
  ·rw [List.mem_singleton.mp ht];exact hp _ 0
 refine ⟨F.ring,F.twos (F.m+1),rfl,hrs,fw (md _) (by rw [List.length_map,List.length_range];(first|lia|omega)),fun g hg=>?_⟩
 obtain ⟨ht,hm⟩:=key g hg
 obtain ⟨r1,r2,r3,r4⟩:=GX h hc ht hm
 have hD:fA [(Tree.block F.x ((F.rowsR g).map (aP F.p)),Tree.block F.x ((F.rowsR g).map (aY F.p)))]:=fun e he=>by
  rw [List.mem_singleton.mp he]
  show 3≤(Tree.block F.x ((F.rowsR g).map (aP F.p))).depth
  rw [Tree.depth,(ko r1 r3).1]
  decide
 have hrun:=rX (x:=F.x) (p:=F.p) r1 r3 (by first|lia|omega)
 obtain ⟨p1,p2,p3⟩:=ur (x:=F.x) (p:=F.p) r1 r2 hD (by first|lia|omega)
 rw [Bk,rB g]
 refine ⟨(F.rowsR g).length+2*(F.rowsR g).length+1,false,_,?_,hrun,fw oI (by rw [List.length_map];(first|lia|omega)),fun z=>(nomatch z),fun _=>⟨p1,p2,cU (F.rowsR g),dJ (F.rowsR g),p3,.inl ⟨⟨fun c=>∃i,1≤i∧i≤F.m∧c=F.bl i,F.bl F.m,?_,⟨F.m,h1,Nat.le_refl _,rfl⟩,?_⟩,hq⟩⟩⟩
 ·(first|lia|omega)
 ·rintro c ⟨i,hi1,hi2,rfl⟩
  have hnx:∀j (k:Int),(F.bl i,k,F.yT j)∈F.rowsR g→dJ (F.rowsR g) (F.bl i)=F.nk j:=fun j k hq=>by
   unfold dJ
   rw [qa r1 hq (.inl rfl)]
   show (within (F.yT j)).head?=_
   rw [j0 h]
   cases F.nk j<;>rfl
  have hnk:∀j,∃i',1≤i'∧i'≤F.m∧F.nk j=some (F.bl i'):=fun j=>by
   unfold Fm.nk
   rw [hc]
   by_cases hj:j+1 < F.m
   ·rw [if_pos hj];exact ⟨j+1,by first|lia|omega,by first|lia|omega,rfl⟩
   ·rw [if_neg hj];exact ⟨F.m,h1,Nat.le_refl _,rfl⟩
  rcases Nat.lt_or_ge i F.m with hi|hi
  ·obtain ⟨i',a1,a2,a3⟩:=hnk i
   exact ⟨_,⟨i',a1,a2,rfl⟩,(hnx i ((i:Int)+1+g) (by unfold Fm.rowsR;exact List.mem_append_left _ (dU.mpr ⟨i,hi,rfl⟩))).trans a3⟩
  ·obtain ⟨i',a1,a2,a3⟩:=hnk 0
   have ei:i=F.m:=by (first|lia|omega)
   exact ⟨_,⟨i',a1,a2,rfl⟩,(hnx 0 ((F.m:Int)+1+g) (by rw [ei];unfold Fm.rowsR;simp)).trans a3⟩
 ·exact mr.mpr (.inl ⟨(F.bl F.m,(F.m:Int)+1+g,F.yT 0),by unfold Fm.rowsR;simp,.inl rfl⟩)
end
section
variable {F:Fm} {g:Int} {mg:Str→Option Value} {M:DH} {Q:KD} {EX:Value→DH→Prop}
noncomputable def Fm.dbl (F:Fm) (i:Nat):Tree:=.block F.p [F.zr (F.m-i),F.zr (F.m-i)]
noncomputable def Fm.db (F:Fm):Tree:=.block F.x ((List.range F.m).map F.dbl)
noncomputable def Fm.dom (F:Fm) (i:Nat):Prop:=i < F.m∨(i=F.m∧F.cl=false)
noncomputable def Fm.rk (F:Fm) (k:Int):Nat:=open Classical in if h:∃i,F.dom i∧F.bl i=k then F.m-h.choose else F.m+1
noncomputable def Fm.Z (F:Fm) (g k:Int):Tree:=open Classical in if h:∃i,F.dom i∧F.bl i=k then F.zr (F.m-h.choose) else if h:∃i:Nat,i < F.m∧(i:Int)+1+g=k then F.zr (F.m-h.choose) else .blank k
theorem wH {i:Nat} (h:F.dom i):i≤F.m:=by rcases h with h|h<;>(first|lia|omega)
theorem vw (hk:F.ok) {i j:Nat} (hi:F.dom i) (hj:F.dom j) (e:F.bl i=F.bl j):i=j:=hk.2.2.2.1 i j (wH hi) (wH hj) e
theorem vt (hk:F.ok) {i:Nat} (hi:F.dom i):F.rk (F.bl i)=F.m-i:=by
 have h:∃j,F.dom j∧F.bl j=F.bl i:=⟨i,hi,rfl⟩
 unfold Fm.rk
 rw [dif_pos h,vw hk h.choose_spec.1 hi h.choose_spec.2]
theorem BR {k:Int} (h:¬∃i,F.dom i∧F.bl i=k):F.rk k=F.m+1:=by
 unfold Fm.rk
 rw [dif_neg h]
theorem nv (hk:F.ok) {i:Nat} (hi:F.dom i):F.Z g (F.bl i)=F.zr (F.m-i):=by
 have h:∃j,F.dom j∧F.bl j=F.bl i:=⟨i,hi,rfl⟩
 unfold Fm.Z
 rw [dif_pos h,vw hk h.choose_spec.1 hi h.choose_spec.2]
theorem sR (hk:F.ok) (ht:F.top g) {i:Nat} (hi:F.dom i):F.bl i≤g:=by
 rcases hi with hi|⟨rfl,hc⟩
 ·exact ht.1 i hi
 ·have h1:=hk.2.1
  refine ht.2 (F.m-1) _ (by first|lia|omega) ?_
  unfold Fm.nk
  rw [if_neg (by first|lia|omega),hc]
  rfl
theorem Br (hk:F.ok) (ht:F.top g) {i:Nat} (hi:i < F.m):F.Z g ((i:Int)+1+g)=F.zr (F.m-i):=by
 have h0:¬∃j,F.dom j∧F.bl j=(i:Int)+1+g:=fun ⟨j,hj,e⟩=>by have:=sR hk ht hj;(first|lia|omega)
 have h:∃j:Nat,j < F.m∧(j:Int)+1+g=(i:Int)+1+g:=⟨i,hi,rfl⟩
 unfold Fm.Z
 rw [dif_neg h0,dif_pos h]
 have:=h.choose_spec.2
 rw [show h.choose=i by first|lia|omega]
theorem o7 {i:Nat} (hi:i < F.m) {k:Int} (h:F.nk i=some k):∃j,i < j∧F.dom j∧k=F.bl j∧F.m-j=F.m-i-1:=by
 unfold Fm.nk at h
 split at h
 ·next h1=>cases h;exact ⟨i+1,by first|lia|omega,.inl h1,rfl,by first|lia|omega⟩
 ·split at h
  ·cases h
  ·next h1 h2=>cases h;exact ⟨F.m,hi,.inr ⟨rfl,by simpa using h2⟩,rfl,by first|lia|omega⟩
theorem rp (hk:F.ok) {i:Nat} (hi:i < F.m) {f:Int→Option Tree} (hf:∀j∈within (F.yT i),f j=some (F.Z g j)):bC f (F.yT i)=F.zr (F.m-i):=by
 obtain ⟨n,hn⟩:∃n,F.m-i=n+1:=⟨F.m-i-1,by first|lia|omega⟩
 have e1:bC f (F.next i)=F.zr n:=by
  cases e:F.nk i with
  |some k =>
   have h1:=hf k (by rw [j0 hk,e];simp)
   obtain ⟨j,hj,hd,rfl,ej⟩:=o7 hi e
   have e2:F.next i=.blank (F.bl j):=by
    unfold Fm.nk at e
    unfold Fm.next Fm.last
    split at e
    ·next h3=>rw [if_pos h3,Option.some.inj e]
    ·next h3 =>
     rw [if_neg h3]
     split at e
     ·cases e
     ·next h4=>rw [if_neg h4,Option.some.inj e]
   rw [e2,bC,h1,nv hk hd,ej,show F.m-i-1=n by first|lia|omega]
   rfl
  |none =>
   unfold Fm.nk at e
   split at e
   ·cases e
   ·next h3 =>
    split at e
    ·next h4 =>
     have h5:n=0:=by (first|lia|omega)
     unfold Fm.next
     rw [if_neg h3,h5,Fm.zr]
     unfold Fm.last
     rw [if_pos h4]
     rfl
    ·cases e
 unfold Fm.yT
 rw [bC,lT,List.map_replicate,e1,hn,Fm.zr,show F.m-1-n=i by first|lia|omega]
theorem zi (hk:F.ok) {i:Nat} (hi:i < F.m):aN (F.Z g) (F.yT i)=F.zr (F.m-i):=by
 have h:=rp (g:=g) hk hi (f:=fun k=>some (F.Z g k)) fun j _=>rfl
 rw [jl] at h
 exact h
theorem Ik (hk:F.ok):aN (F.Z g) F.one=F.db:=by
 unfold Fm.one Fm.db Fm.pairs
 rw [aN,fU,List.map_map]
 congr 1
 refine List.map_congr_left fun i hi=>?_
 have hi':=List.mem_range.mp hi
 show aN (F.Z g) (F.pT i)=F.dbl i
 unfold Fm.pT Fm.dbl
 rw [aN,bN,bN,bN,zi hk hi',aN,nv hk (.inl hi')]
noncomputable def Fm.Zo (F:Fm) (k:Int):Tree:=F.zr (F.m-(k-1).toNat)
theorem Ht:aN F.Zo (F.twos F.m)=F.db:=by
 unfold Fm.twos Fm.db
 rw [aN,fU,List.map_map]
 congr 1
 refine List.map_congr_left fun i hi=>?_
 show aN F.Zo (F.twoP i)=F.dbl i
 unfold Fm.twoP Fm.dbl
 rw [aN,bN,bN,bN,aN]
 unfold Fm.Zo
 rw [show (((i:Int)+1)-1).toNat=i by first|lia|omega]
theorem lF (hk:F.ok):∀j,(F.zr j).depth≤j+1
 |0=>by rw [Fm.zr];unfold Fm.last;split<;>exact Nat.le_refl 1
 |j+1=>by
  rw [Fm.zr,Tree.depth,ox (hk.2.2.2.2 _).1]
  have:=lF hk j
  (first|lia|omega)
noncomputable def Fm.ks (F:Fm):Nat→Nat
 |0=>0
 |j+1=>F.ks j+(F.zr (j+1)).knots
theorem wU:∀{n j:Nat},1≤j→j≤n→(F.zr j).knots≤F.ks n
 |0,j,h1,h2=>by (first|lia|omega)
 |n+1,j,h1,h2=>by
  rw [Fm.ks]
  rcases Nat.lt_or_ge n j with h|h
  ·rw [show j=n+1 by first|lia|omega];(first|lia|omega)
  ·have:=wU (n:=n) h1 h;(first|lia|omega)
theorem qW (m':Nat):∀n,n≤m'→Tree.knotss ((List.range n).map fun i=>(Tree.block F.p [F.zr (m'-i),F.zr (m'-i)]))+2*F.ks (m'-n)=n+2*F.ks m'
 |0,_=>by
  show 0+2*F.ks (m'-0)=_
  rw [Nat.sub_zero]
 |n+1,h=>by
  have ih:=qW m' n (by first|lia|omega)
  have kapp:∀a b:List Tree,Tree.knotss (a++b)=Tree.knotss a+Tree.knotss b:=fun a b=>by
   induction a with
   |nil=>rw [List.nil_append,Tree.knotss];(first|lia|omega)
   |cons t ts ih=>rw [List.cons_append,Tree.knotss,Tree.knotss,ih];(first|lia|omega)
  rw [List.range_succ,List.map_append,kapp]
  have e:F.ks (m'-n)=F.ks (m'-(n+1))+(F.zr (m'-n)).knots:=by
   rw [show m'-n=(m'-(n+1))+1 by first|lia|omega,Fm.ks]
  rw [e] at ih
  have e2:Tree.knotss ([n].map fun i=>(Tree.block F.p [F.zr (m'-i),F.zr (m'-i)]))=1+2*(F.zr (m'-n)).knots:=by
   simp only [List.map_cons,List.map_nil,Tree.knotss,Tree.knots]
   (first|lia|omega)
  rw [e2]
  (first|lia|omega)
theorem vV:F.db.knots=1+F.m+2*F.ks F.m:=by
 unfold Fm.db
 rw [Tree.knots]
 have:=qW (F:=F) F.m F.m (Nat.le_refl _)
 rw [Nat.sub_self] at this
 have e:F.ks 0=0:=rfl
 rw [e] at this
 show Tree.knotss ((List.range F.m).map fun i=>(Tree.block F.p [F.zr (F.m-i),F.zr (F.m-i)]))+1=_
 (first|lia|omega)
theorem pw (hk:F.ok):F.db.depth≤60:=by
 unfold Fm.db
 rw [Tree.depth]
 have:Tree.depths ((List.range F.m).map F.dbl)≤20:=nE fun t ht=>by
  obtain ⟨i,hi,rfl⟩:=List.mem_map.mp ht
  have:=lF hk (F.m-i)
  have h8:=hk.2.2.1
  unfold Fm.dbl
  simp only [Tree.depth,Tree.depths]
  (first|lia|omega)
 (first|lia|omega)
theorem rC (h:F.ok) (hE:great F.db→EX (.ref (cl mg "TooLong")) M) (hQ:¬great F.db→∀l1 l2 f1 f2 M',Sub M M'→M' l1=some (.dic (bQ f1))→M' l2=some (.dic (bQ f2))→bC (look f1) F.one=plainT F.db→bC (look f2) (F.twos F.m)=plainT F.db→Q (.tup [.str (Str.ofString "form"),(plainT F.db).d,.ref l1,.ref l2]) M'):dZ mg [F.one.d,(F.twos F.m).d] M Q EX:=by
 obtain ⟨_,h1,h2,h3,_⟩:=id h
 have hos:F.one.depth≤20∧F.one.knots≤400:=by
  have hlen:F.pairs.length=F.m:=by unfold Fm.pairs;rw [List.length_map,List.length_range]
  refine fw (fun t ht=>?_) (by rw [hlen];(first|lia|omega))
  obtain ⟨i,hi,rfl⟩:=List.mem_map.mp ht
  have h3:=iB h i
  have h4:=gR h i
  unfold Fm.pT
  simp only [Tree.depth,Tree.depths,Tree.knots,Tree.knotss]
  (first|lia|omega)
 refine ⟨F.one,F.twos F.m,rfl,hos,fw (md _) (by rw [List.length_map,List.length_range];(first|lia|omega)),fun g hg=>?_⟩
 have ht:=oH h (fun k hk=>hk) hg
 obtain ⟨r1,r2,r3,r4⟩:=ot h ht
 have hD:fA [(Tree.block F.x ((F.rowsA g).map (aP F.p)),Tree.block F.x ((F.rowsA g).map (aY F.p)))]:=fun e he=>by
  rw [List.mem_singleton.mp he]
  show 3≤(Tree.block F.x ((F.rowsA g).map (aP F.p))).depth
  rw [Tree.depth,(ko r1 r3).1]
  decide
 have hrun:=rX (x:=F.x) (p:=F.p) r1 r3 (by first|lia|omega)
 obtain ⟨p1,p2,p3⟩:=ur (x:=F.x) (p:=F.p) r1 r2 hD (by first|lia|omega)
 have hnx:∀i,i < F.m→∀k,k=F.bl i∨k=(i:Int)+1+g→cU (F.rowsA g) k=F.yT i∧dJ (F.rowsA g) k=F.nk i:=fun i hi k hk=>by
  have e:cU (F.rowsA g) k=F.yT i:=qa r1 (q:=F.rowA g i) (dU.mpr ⟨i,hi,rfl⟩) (hk.elim (fun z=>.inl z.symm) fun z=>.inr z.symm)
  refine ⟨e,?_⟩
  unfold dJ
  rw [e,j0 h]
  cases F.nk i<;>rfl
 have hrow:∀k,(∃i,i < F.m∧(k=F.bl i∨k=(i:Int)+1+g))∨cU (F.rowsA g) k=.blank k:=fun k=>by
  by_cases c:∃i,i < F.m∧(k=F.bl i∨k=(i:Int)+1+g)
  ·exact .inl c
  ·refine .inr (r8 fun q hq=>?_)
   obtain ⟨i,hi,rfl⟩:=dU.mp hq
   exact ⟨fun z=>c ⟨i,hi,.inl z.symm⟩,fun z=>c ⟨i,hi,.inr z.symm⟩⟩
 have hZ:∀k,(∃i,i < F.m∧(k=F.bl i∨k=(i:Int)+1+g))→∃i,i < F.m∧F.Z g k=F.zr (F.m-i)∧cU (F.rowsA g) k=F.yT i:=fun k ⟨i,hi,hk⟩=>by
  refine ⟨i,hi,?_,(hnx i hi k hk).1⟩
  rcases hk with rfl|rfl
  ·exact nv h (.inl hi)
  ·exact Br h ht hi
 have hkz:∀k∈bR (Tree.block F.x ((F.rowsA g).map (aP F.p))) (Tree.block F.x ((F.rowsA g).map (aY F.p))),cU (F.rowsA g) k=.blank k→F.Z g k=.blank k:=fun k hk hb=>by
  rcases mr.mp hk with ⟨q,hq,hq'|hq'⟩|⟨q,hq,hq'⟩
  ·obtain ⟨i,hi,rfl⟩:=dU.mp hq
   have:=(hnx i hi k (.inl hq')).1
   rw [hb] at this
   cases this
  ·obtain ⟨i,hi,rfl⟩:=dU.mp hq
   obtain ⟨j,hj1,hj2,rfl,ej⟩:=o7 hi ((gn h i).mp hq')
   rcases hj2 with hj2|⟨rfl,hc⟩
   ·have:=(hnx j hj2 _ (.inl rfl)).1
    rw [hb] at this
    cases this
   ·rw [nv h (.inr ⟨rfl,hc⟩),Nat.sub_self,Fm.zr]
    unfold Fm.last
    rw [hc]
    rfl
  ·obtain ⟨i,hi,rfl⟩:=dU.mp hq
   have:=(hnx i hi k (.inr hq')).1
   rw [hb] at this
   cases this
 have e1:=Ik (F:=F) (g:=g) h
 rw [Ep,kR g]
 rw [kR g] at e1 hQ
 refine ⟨(F.rowsA g).length+2*(F.rowsA g).length+1,false,_,by first|lia|omega,hrun,fw oI (by rw [List.length_map];(first|lia|omega)),fun z=>(nomatch z),fun _=>⟨p1,p2,cU (F.rowsA g),dJ (F.rowsA g),p3,.inr ⟨⟨F.rk,?_⟩,F.Z g,F.Zo,?_,?_,?_,?_,?_,?_⟩⟩⟩
 ·intro k j hj
  rcases hrow k with ⟨i,hi,hk⟩|hk
  ·rw [(hnx i hi k hk).2] at hj
   obtain ⟨j',hj1,hj2,rfl,ej⟩:=o7 hi hj
   rw [vt h hj2]
   rcases hk with rfl|rfl
   ·rw [vt h (.inl hi)];(first|lia|omega)
   ·rw [BR fun ⟨x,hx,e⟩=>by have:=sR h ht hx;(first|lia|omega)];(first|lia|omega)
  ·unfold dJ at hj
   rw [hk] at hj
   cases hj
 ·intro k hk
  rcases hrow k with c|hb
  ·obtain ⟨i,hi,z1,z2⟩:=hZ k c
   refine ⟨?_,fun f hf _=>?_⟩
   ·rw [z1];have:=lF h (F.m-i);(first|lia|omega)
   ·rw [z2] at hf ⊢
    rw [z1]
    exact rp h hi hf
  ·have hkz:=hkz k hk hb
   refine ⟨by rw [hkz];show 1≤60;decide,fun f _ hf=>?_⟩
   rw [hb,hkz,bC,hf]
   rfl
 ·rw [e1];exact pw h
 ·rw [e1];exact Ht
 ·rw [e1]
  intro hng k hk hz
  rcases hrow k with c|hb
  ·obtain ⟨i,hi,z1,z2⟩:=hZ k c
   rw [z1] at hz
   have hd:=lF h (F.m-i)
   have hks:=wU (F:=F) (n:=F.m) (j:=F.m-i) (by first|lia|omega) (by first|lia|omega)
   have hkn:=vV (F:=F)
   exact hng (.inl (by rcases hz with hz|hz<;>(first|lia|omega)))
  ·rw [hkz k hk hb] at hz
   rcases hz with hz|hz
   ·exact absurd hz (by show ¬400 < 1;decide)
   ·exact absurd hz (by show ¬60 < 1;decide)
 ·rw [e1];exact hE
 ·rw [e1];exact hQ
end
noncomputable def Bl (n:Nat):aS:=fun ds M Q=>∃t:Tree,ds=[t.d]∧t.depth≤n∧t.knots≤1000∧Q (plainT t).d M
theorem Ih (T:Txt K mg) (n:Nat):bu P w K mg base (n+2) "_law_plain" ["tree"] (Bl n):=by
 have m_len:=T.m_len
 have F__law_blanks:=xi (P:=P) (w:=w) (base:=base) T n
 have F__law_filled:=nU (P:=P) (w:=w) (base:=base) T n
 refine bW T.f__law_plain pP (fun ds M Q h=>?_) fun f cdv A outer s H E hr=>⟨_,(aq (aE (i:=1) pP.nd fq)
 (aq (fM PassesOwn.never rfl (aH F__law_blanks (hr.mono (by first|lia|omega)) (ag (af 0) ah)) (bE (i:=2) pP.nd) (ax (dq (aM (ag aQ (ag (aL bD (cG Ck rfl m_len df (ag (af 1) ah)) ak) ah))) (eU hr (af 1) (af 2)))))
 (ax (aG (aH F__law_filled (hr.mono (by first|lia|omega)) (ag (af 0) (ag (af 1) ah))))))),fun ds M Q h=>?_⟩
 ·obtain ⟨t,rfl,_⟩:=h;rfl
 ·obtain ⟨t,rfl,hd,hk,q⟩:=h
  have hnd:(aB [] (nums t)).Nodup:=gX List.nodup_nil
  have hlen:(aB [] (nums t)).length≤1000:=by
   have h1:=fW (nums t) []
   have h2:=ij t
   simp only [List.length_nil] at h1
   (first|lia|omega)
  unfold plainT at q
  rw [←uz] at q
  show ∀p,M p=none→_
  intro p hp
  refine ⟨t,rfl,hd,hk,fun l hl=>?_⟩
  obtain ⟨l1,l2⟩:=dA hl
  generalize aB [] (nums t)=ks at *
  refine ⟨_,ar,fun i τ M'=>(∃v2:Option D,τ=[some t.d,some (.ref p),v2])∧M' l=some (.lst (ks.map .int))∧M' p=some (.dic (bQ (nf 1 (ks.take i))))∧Sub M M',⟨⟨none,rfl⟩,ar,by rw [ay (Ne.symm l1),ar];rfl,(Sub.new hp).trans (Sub.new hl)⟩,fun i τ M' _ hW=>hW.2.1,?_,?_⟩
  ·rintro i d τ M' ed ⟨⟨v2,rfl⟩,hl',hp',hs'⟩
   rw [List.getElem?_map] at ed
   cases e:ks[i]? with
   |none=>rw [e] at ed;cases ed
   |some k =>
    rw [e] at ed
    cases ed
    have hi:i < ks.length:=(List.getElem?_eq_some_iff.mp e).1
    have hni:k ∉ ks.take i:=by
     intro z
     have h2:(ks.take (i+1)).Nodup:=hnd.sublist (List.take_sublist _ _)
     rw [List.take_add_one,e] at h2
     exact (List.nodup_append.mp h2).2.2 _ z _ (by simp) rfl
    have hfl:(bQ (nf 1 (ks.take i))).length=i:=by unfold bQ;rw [List.length_map,oZ,List.length_take];(first|lia|omega)
    refine ⟨_,.inl hp',?_⟩
    rw [hfl]
    refine ⟨_,_,rfl,hp',by rw [hfl];exact cC (by first|lia|omega),⟨_,rfl⟩,by rw [ay l1];exact hl',?_,fX hs' hp⟩
    rw [ar]
    have e2:D.tup [.str "blank",.int ((i:Int)+1)]=(Tree.blank ((1+(ks.take i).length:Nat):Int)).d:=by
     show D.tup [.str "blank",.int ((i:Int)+1)]=D.tup [.str "blank",.int ((1+(ks.take i).length:Nat):Int)]
     rw [List.length_take,Nat.min_eq_left (by first|lia|omega)]
     congr 3
     simp;(first|lia|omega)
    have e3:=kP (f:=nf 1 (ks.take i)) (k:=k) (t:=.blank ((1+(ks.take i).length:Nat):Int)) (by rw [mw,pos_none hni];rfl)
    have e4:ks.take (i+1)=ks.take i++[k]:=by rw [List.take_add_one,e];rfl
    rw [e4,pF,←e3,←e2]
  ·rintro τ M' ⟨⟨v2,rfl⟩,hl',hp',hs'⟩
   rw [List.length_map,List.take_length] at hp'
   exact ⟨t,p,_,rfl,hd,hk,.inl hp',M,hs',q⟩
noncomputable def pj (F:Fm) (e:Str):List D:=[.str F.x,.str F.y,.str F.z,.str F.p,.str e]
noncomputable def uI (p:Str):D→Option D
 |.int k=>some (Tree.block p [.blank (1+k),.blank (1+k)]).d
 |_=>none
theorem Ex (F:Fm) (n:Nat):((List.range ((n:Nat):Int).toNat).map fun i:Nat=>D.int (i:Int)).filterMap (uI F.p)=((List.range n).map F.twoP).map Tree.d:=by
 rw [Int.toNat_natCast,List.filterMap_map,List.map_map,←List.filterMap_eq_map]
 congr 1
 funext i
 show some (Tree.block F.p [.blank (1+(i:Int)),.blank (1+(i:Int))]).d=some (F.twoP i).d
 unfold Fm.twoP
 rw [Int.add_comm]
noncomputable def Hg:aS:=fun ds M Q=>∃(F:Fm) (e:Str) (ln:Addr) (n:Nat),ds=[.ref ln,.int n]∧M ln=some (.lst (pj F e))∧n≤20∧Q (F.twos n).d M
theorem GJ (T:Txt K mg):bu P w K mg base 1 "_law_twos" ["names", "many"] Hg:=by
 have m_range:=T.m_range
 have m_tuple:=T.m_tuple
 refine bW T.f__law_twos yL (fun ds M Q h=>?_) fun f cdv A outer s H E hr=>⟨_,(ax (aG (aM (ag aQ (ag (av (af 0) ak) (ag (dX iq rfl m_tuple hV (ag (rV (Nc:=["k", "names"]) (js:=[none,some 0]) (dN ["names", "many"] (au ib).names rfl rfl rfl rfl (by decide +kernel) (by decide +kernel) (by decide +kernel) rfl (by decide +kernel)) rfl m_range (ag (af 1) ah) (fun C s H fp=>(bE (i:=0) (by show List.Nodup (["k", "names"]:List Str);decide +kernel))) (fun C s H fp=>Or.inl ⟨rfl,rfl⟩) (fun C s H fp=>(aM (ag aQ (ag (av (af 1) ak) (ag (aL qc (aM (ag (aM (ag aQ (ag (aL bD ak (af 0)) ah))) ah)) ak) ah)))))) ah)) ah)))))),fun ds M Q h=>?_⟩
 ·obtain ⟨F,e,ln,n,rfl,_⟩:=h;rfl
 ·obtain ⟨F,e,ln,n,rfl,hln,hn,q⟩:=h
  refine ⟨_,.str F.x,hln,rfl,?_⟩
  refine ⟨⟨by first|lia|omega,by first|lia|omega⟩,⟨by rw [List.length_map,List.length_range];(first|lia|omega),uI F.p,fun d hd p acc hp=>?_,fun l hl=>?_⟩⟩
  ·obtain ⟨i,hi,rfl⟩:=List.mem_map.mp hd
   exact ⟨gB,_,.str F.p,Sub.new hp _ _ hln,rfl,⟨by simp,by decide,by decide⟩,rfl,rfl⟩
  ·rw [Ex]
   refine ⟨_,ar,M,Sub.new hl,?_⟩
   unfold Fm.twos at q
   rw [Tree.d,cy] at q
   exact q
noncomputable def fN (F:Fm):List D:=(List.range F.m).map fun i=>.int ((F.tm i:Nat):Int)
theorem qG {F:Fm} {k:Nat} (hk:k < F.m):bA (fN F) ((F.m:Int)-1-(k:Int))=some (.int ((F.tm (F.m-1-k):Nat):Int)):=by
 rw [show (F.m:Int)-1-(k:Int)=((F.m-1-k:Nat):Int) by first|lia|omega]
 refine jE ?_
 unfold fN
 rw [List.getElem?_map,List.getElem?_range (by first|lia|omega)]
 rfl
theorem iR (F:Fm):(fN F).length=F.m:=by unfold fN;rw [List.length_map,List.length_range]
theorem xr {F:Fm} (j:Nat):(F.zr (j+1)).knots=1+F.tm (F.m-1-j)*(F.zr j).knots:=by
 rw [Fm.zr,Tree.knots,pf]
 (first|lia|omega)
noncomputable def AF:aS:=fun ds M Q=>∃(F:Fm) (lt:Addr),ds=[.ref lt]∧M lt=some (.lst (fN F))∧F.ok∧Q (.int ((1+F.ks F.m:Nat):Int)) M
theorem E2 (T:Txt K mg):bu P w K mg base 1 "_law_knots" ["times"] AF:=by
 have m_len:=T.m_len
 have m_range:=T.m_range
 refine bW T.f__law_knots jo (fun ds M Q h=>?_) fun f cdv A outer s H E hr=>⟨_,(aq (aE (i:=1) jo.nd ak)
 (aq (aE (i:=2) jo.nd ak)
 (aq (qz PassesOwn.never rfl m_range (ag (cG dn rfl m_len df (ag (af 0) ah)) ah) (bE (i:=3) jo.nd) (aq (aE (i:=2) jo.nd (aL bD ak (aL j6 (av (af 0) (aL gH (aL gH (cG dn rfl m_len df (ag (af 0) ah)) ak) (af 3))) (af 2))))
 (ax (aE (i:=1) jo.nd (aL bD (af 1) (af 2))))))
 (ax (aG (af 1)))))),fun ds M Q h=>?_⟩
 ·obtain ⟨F,lt,rfl,_⟩:=h;rfl
 ·obtain ⟨F,lt,rfl,hlt,ao,q⟩:=h
  have h8:=ao.2.2.1
  refine ⟨_,hlt,?_⟩
  rw [iR]
  refine ⟨⟨by first|lia|omega,by first|lia|omega⟩,fun i τ M'=>(∃v:Option D,τ=[some (.ref lt),some (.int ((1+F.ks i:Nat):Int)),some (.int (((F.zr i).knots:Nat):Int)),v])∧M'=M,⟨⟨none,?_⟩,rfl⟩,?_,?_⟩
  ·have:(F.zr 0).knots=1:=by rw [Fm.zr];unfold Fm.last;split<;>rfl
   rw [this]
   rfl
  ·rintro i τ M' hi ⟨⟨v,rfl⟩,rfl⟩
   have hi':i < F.m:=by simpa using hi
   refine ⟨_,hlt,?_⟩
   rw [iR]
   refine ⟨_,_,hlt,qG hi',?_⟩
   have ht:=ao.2.2.2.2 (F.m-1-i)
   refine ⟨.inl ⟨by first|lia|omega,by first|lia|omega⟩,?_⟩
   refine ⟨⟨some (.int ((i:Nat):Int)),?_⟩,rfl⟩
   have e1:(1:Int)+((F.tm (F.m-1-i):Nat):Int)*(((F.zr i).knots:Nat):Int)=(((F.zr (i+1)).knots:Nat):Int):=by rw [xr];simp
   have e2:((1+F.ks i:Nat):Int)+(((F.zr (i+1)).knots:Nat):Int)=((1+F.ks (i+1):Nat):Int):=by rw [Fm.ks];(first|lia|omega)
   show ([some (.ref lt),some (.int (((1+F.ks i:Nat):Int)+(1+((F.tm (F.m-1-i):Nat):Int)*(((F.zr i).knots:Nat):Int)))),some (.int (1+((F.tm (F.m-1-i):Nat):Int)*(((F.zr i).knots:Nat):Int))),some (.int ((i:Nat):Int))]:List (Option D))=_
   rw [e1,e2]
  ·rintro τ M' ⟨⟨v,rfl⟩,rfl⟩
   rw [Int.toNat_natCast]
   exact ⟨_,Sub.refl _,q⟩
noncomputable def cI (F:Fm):List D:=(List.range (F.m+1)).map fun i=>(Tree.blank (F.bl i)).d
noncomputable def Fm.row (F:Fm) (k:Nat):List Tree:=(List.range k).map fun i=>F.zr (k-i)
theorem xE {F:Fm} (k:Nat):F.row (k+1)=F.zr (k+1)::F.row k:=by
 unfold Fm.row
 rw [List.range_succ_eq_map,List.map_cons,List.map_map]
 congr 1
 refine List.map_congr_left fun i hi=>?_
 show F.zr (k+1-(i+1))=_
 rw [Nat.add_sub_add_right]
theorem qw {a u:aF} {E:cp} {τ:aJ} {M:DH} (W:aJ→DH→Prop) (hu:∀τ' M',W τ' M'→u E τ' M') (h:∀R:aJ→DH→Prop,(∀τ' M',W τ' M'→R τ' M')→a { E with nx:=R } τ M):DL.jt a u E τ M:=h (u E) hu
theorem n9 (t:Tree):∀n,Tree.ds (List.replicate n t)=(List.replicate n [t.d]).flatten
 |0=>rfl
 |n+1=>by
  rw [List.replicate_succ,List.replicate_succ,Tree.ds,n9 t n]
  rfl
noncomputable def GF:aS:=fun ds M Q=>∃(F:Fm) (e:Str) (ln lb lt:Addr),ds=[.ref ln,.ref lb,.ref lt,.bl F.cl]∧M ln=some (.lst (pj F e))∧M lb=some (.lst (cI F))∧M lt=some (.lst (fN F))∧F.ok∧Q (Tree.block F.x (F.row F.m)).d M
theorem Ap (T:Txt K mg):bu P w K mg base 1 "_law_made" ["names", "blanks", "times", "closed"] GF:=by
 have m_len:=T.m_len
 have m_range:=T.m_range
 have m_tuple:=T.m_tuple
 refine bW T.f__law_made gx (fun ds M Q h=>?_) fun f cdv A outer s H E hr=>⟨_,(aq (aE (i:=4) gx.nd (av (af 1) (cG dn rfl m_len df (ag (af 2) ah))))
 (aq (bz (mJ (af 3)) (ax (aE (i:=4) gx.nd (aM (ag aQ (ag (av (af 0) ak) (ag (aM ah) ah)))))) bF)
 (aq (aE (i:=5) gx.nd (cq ah))
 (aq (qz PassesOwn.never rfl m_range (ag (cG dn rfl m_len df (ag (af 2) ah)) ah) (bE (i:=6) gx.nd) (aq (aE (i:=7) gx.nd (aL gH (aL gH (cG dn rfl m_len df (ag (af 2) ah)) ak) (af 6)))
 (aq (aE (i:=4) gx.nd (aM (ag aQ (ag (av (af 0) ak) (ag (aL qc (aM (ag (af 4) ah)) (av (af 2) (af 7))) ah)))))
 (ax (aE (i:=5) gx.nd (aL bD (cq (ag (af 4) ah)) (af 5)))))))
 (ax (aG (aM (ag aQ (ag (av (af 0) ak) (ag (dX iq rfl m_tuple hV (ag (af 5) ah)) ah)))))))))),fun ds M Q h=>?_⟩
 ·obtain ⟨F,e,ln,lb,lt,rfl,_⟩:=h;rfl
 ·obtain ⟨F,e,ln,lb,lt,rfl,hln,hlb,hlt,ao,q⟩:=h
  have h8:=ao.2.2.1
  refine ⟨_,hlt,?_⟩
  rw [iR]
  have hat:bA (cI F) ((F.m:Nat):Int)=some (Tree.blank (F.bl F.m)).d:=by
   refine jE ?_
   unfold cI
   rw [List.getElem?_map,List.getElem?_range (by first|lia|omega)]
   rfl
  refine ⟨_,_,hlb,hat,?_⟩
  dsimp only [DL.hName]
  refine qw (fun τ' M'=>M'=M∧τ'=[some (.ref ln),some (.ref lb),some (.ref lt),some (.bl F.cl),some F.last.d,none,none,none]) ?_ (fun R hR=>?_)
  ·rintro τ' M' ⟨rfl,rfl⟩
   show ∀l,M' l=none→_
   intro l0 hl0
   refine ⟨_,Sub.new hl0 _ _ hlt,?_⟩
   rw [iR]
   refine ⟨⟨by first|lia|omega,by first|lia|omega⟩,fun i τ M2=>(∃(lr:Addr) (v6 v7:Option D),M' lr=none∧M2 lr=some (.lst ((F.row i).map Tree.d))∧τ=[some (.ref ln),some (.ref lb),some (.ref lt),some (.bl F.cl),some (F.zr i).d,some (.ref lr),v6,v7])∧Sub M' M2,⟨⟨l0,none,none,hl0,ar,rfl⟩,Sub.new hl0⟩,?_,?_⟩
   ·rintro i τ M2 hi ⟨⟨lr,v6,v7,hlr0,hlr,rfl⟩,hS⟩
    have hi':i < F.m:=by simpa using hi
    have ht:=ao.2.2.2.2 (F.m-1-i)
    refine ⟨_,hS _ _ hlt,?_⟩
    rw [iR]
    refine ⟨_,.str F.y,hS _ _ hln,rfl,?_⟩
    refine ⟨_,_,hS _ _ hlt,qG hi',?_⟩
    refine ⟨⟨by simp,by first|lia|omega,by first|lia|omega⟩,?_⟩
    have ez:D.tup [.str (Str.ofString "block"),.str F.y,.tup (List.replicate ((F.tm (F.m-1-i):Nat):Int).toNat [(F.zr i).d]).flatten]=(F.zr (i+1)).d:=by
     rw [Int.toNat_natCast,←n9,Fm.zr,Tree.d]
    show ∀l,M2 l=none→_
    intro l1 hl1
    refine ⟨_,_,ar,Sub.new hl1 _ _ hlr,?_,fun l2 hl2=>?_⟩
    ·rw [List.length_map]
     have:(F.row i).length=i:=by unfold Fm.row;rw [List.length_map,List.length_range]
     rw [this]
     exact cL (by simp;(first|lia|omega))
    ·refine ⟨⟨l2,some (.int ((i:Nat):Int)),some (.int ((F.m:Int)-1-((i:Nat):Int))),kO (hS.trans (Sub.new hl1)) hl2,?_,by rw [←ez];rfl⟩,(hS.trans (Sub.new hl1)).trans (Sub.new hl2)⟩
     rw [ar,xE,List.map_cons,←ez]
     rfl
   ·rintro τ M2 ⟨⟨lr,v6,v7,hlr0,hlr,rfl⟩,hS⟩
    rw [Int.toNat_natCast] at hlr
    refine ⟨_,.str F.x,hS _ _ hln,rfl,?_⟩
    refine ⟨_,hlr,?_⟩
    rw [Tree.d,cy] at q
    exact ⟨_,hS,q⟩
  ·cases hc:F.cl with
   |true =>
    refine ⟨_,.str F.z,hln,rfl,?_⟩
    refine hR _ _ ⟨rfl,?_⟩
    have:F.last=.block F.z []:=by unfold Fm.last;rw [hc];rfl
    rw [this,hc]
    rfl
   |false =>
    refine hR _ _ ⟨rfl,?_⟩
    have:F.last=.blank (F.bl F.m):=by unfold Fm.last;rw [hc];rfl
    rw [this,hc]
    rfl
theorem mx {τ0:aJ} {i:Nat} {v:Option D} (h:τ0[i]?=some none):jf τ0 (τ0.set i v):=by
 refine ⟨List.length_set,fun j d e=>?_⟩
 rw [List.getElem?_set]
 by_cases hj:i=j
 ·subst hj;rw [h] at e;cases e
 ·rw [if_neg hj];exact e
noncomputable def jJ (b0:Int) (s:Bool) (i:Nat):Int:=b0+(if s then 9-(i:Int) else (i:Int))
noncomputable def xV:aS:=fun ds M Q=>∃ns:List Int,ds=[.rol (ns.map .int)]∧∀(m:Nat) (b0:Int) (s c:Bool) (ts:List Nat) lb lt M',1≤m→m≤8→ts.length=m→(∀t∈ts,1≤t∧t≤3)→Sub M M'→M' lb=some (.lst ((List.range (m+1)).map fun i=>(Tree.blank (jJ b0 s i)).d))→M' lt=some (.lst (ts.map fun t:Nat=>.int ((t:Nat):Int)))→Q (.tup [.ref lb,.ref lt,.bl c]) M'
theorem C2 (T:Txt K mg):bu P w K mg base 2 "_law_row" ["script"] xV:=by
 have m_range:=T.m_range
 have F__law_stream:=w8 (P:=P) (w:=w) (base:=base) T
 have F__law_cell_at:=uJ (P:=P) (w:=w) (base:=base) T
 refine bW T.f__law_row jy (fun ds M Q h=>?_) fun f cdv A outer s H E hr=>⟨_,(aq (aE (i:=1) jy.nd (aH F__law_stream (hr.mono (by first|lia|omega)) (ag (aH F__law_cell_at (hr.mono (by first|lia|omega)) (ag (af 0) (ag ak ah))) (ag ak ah))))
 (aq (aE (i:=2) jy.nd (aL bD ak (aL d3 (av (af 1) ak) ak)))
 (aq (aE (i:=3) jy.nd (aH F__law_cell_at (hr.mono (by first|lia|omega)) (ag (af 0) (ag ak ah))))
 (aq (sI (i:=4) jy.nd (Nc:=["k", "first", "xs"]) (js:=[none,some 3,some 1]) (dN ["script", "xs", "many", "first", "blanks", "times"] (au gb).names rfl rfl rfl rfl (by decide +kernel) (by decide +kernel) (by decide +kernel) rfl (by decide +kernel)) rfl m_range (ag (aL bD (af 2) ak) ah) (fun C s H fp=>(bE (i:=0) (by show List.Nodup (["k", "first", "xs"]:List Str);decide +kernel))) (fun C s H fp=>(aM (ag aQ (ag (aL bD (aL bD ak (aL d3 (af 1) (aL gH (aL zA ak ak) ak))) (av (cq (ag (af 0) (ag (aL gH ak (af 0)) ah))) (aL d3 (av (af 2) ak) ak))) ah)))))
 (aq (sI (i:=5) jy.nd (Nc:=["k", "script"]) (js:=[none,some 0]) (dN ["script", "xs", "many", "first", "blanks", "times"] (au gb).names rfl rfl rfl rfl (by decide +kernel) (by decide +kernel) (by decide +kernel) rfl (by decide +kernel)) rfl m_range (ag (af 2) ah) (fun C s H fp=>(bE (i:=0) (by show List.Nodup (["k", "script"]:List Str);decide +kernel))) (fun C s H fp=>(aL bD ak (aL d3 (av (aH F__law_stream (hr.mono (by first|lia|omega)) (ag (aL bD (aH F__law_cell_at (hr.mono (by first|lia|omega)) (ag (af 1) (ag (aL bD ak (af 0)) ah))) (af 0)) (ag ak ah))) ak) ak))))
 (ax (aG (aM (ag (af 4) (ag (af 5) (ag (jY (cv hr) (aL d3 (av (af 1) ak) ak) ak (bj _)) ah))))))))))),fun ds M Q h=>?_⟩
 ·obtain ⟨ns,rfl,_⟩:=h;rfl
 ·obtain ⟨ns,rfl,q⟩:=h
  refine ⟨ns,0,rfl,by decide,fun c0=>?_⟩
  refine ⟨c0,4,rfl,by decide,fun l1 xs hl1 hxl hx0=>?_⟩
  obtain ⟨x0,e0,p0⟩:=gT (k:=0) hxl (by decide) hx0
  obtain ⟨x1,e1,p1⟩:=gT (k:=1) hxl (by decide) hx0
  obtain ⟨x2,e2,p2⟩:=gT (k:=2) hxl (by decide) hx0
  have hS1:Sub M (aj M l1 (.lst (xs.map .int))):=Sub.new hl1
  have hX:aj M l1 (.lst (xs.map .int)) l1=some (.lst (xs.map .int)):=ar
  generalize aj M l1 (.lst (xs.map .int))=M1 at *
  refine ⟨_,_,hX,e0,by show (0:Int) < 8;decide,?_⟩
  obtain ⟨m,hm⟩:∃m:Nat,1+x0 % 8=(m:Int):=⟨(1+x0 % 8).toNat,by first|lia|omega⟩
  have hm1:1≤m∧m≤8:=⟨by first|lia|omega,by first|lia|omega⟩
  dsimp only [DL.hName,DL.qV]
  rw [hm]
  refine ⟨ns,1,rfl,by decide,fun first=>?_⟩
  have hpw:qk 10 9:=⟨by decide,by decide,by decide⟩
  have hbp:(0:Int) < (10:Int) ^ (9:Int).toNat-9:=by decide
  refine ⟨⟨by first|lia|omega,by first|lia|omega⟩,fun lb hlb=>?_⟩
  have hlbM:M lb=none:=kO hS1 hlb
  have nbl:l1≠lb:=fun z=>by rw [←z,hX] at hlb;cases hlb
  refine ⟨fun i zs M'=>zs=(List.range i).map (fun k=>(Tree.blank (jJ (1+first % ((10:Int) ^ (9:Int).toNat-9)) (decide (x1 % 2=1)) k)).d)∧M' lb=some (.lst zs)∧Sub M1 M',⟨rfl,ar,Sub.new hlb⟩,?_,?_⟩
  ·rintro i zs M' hi ⟨rfl,h2,h3⟩
   refine ⟨by rw [List.length_map,List.length_range],mx rfl,?_⟩
   refine ⟨hpw,hbp,?_⟩
   show ∀p,M' p=none→_
   intro lp hlp
   have hlb2:=Sub.new (o:=.lst [.int (i:Int),.int (9-(i:Int))]) hlp _ _ h2
   refine ⟨_,_,Sub.new hlp _ _ (h3 _ _ hX),e1,by show (0:Int) < 2;decide,?_⟩
   show gw (D.ref lp) (.int (x1 % 2)) _ _
   rcases (show x1 % 2=0∨x1 % 2=1 by first|lia|omega) with h|h
   ·rw [h] at hlb2 ⊢
    refine ⟨_,.int (i:Int),ar,rfl,hlb2,?_,ar,fX (h3.trans (Sub.new hlp)) hlb⟩
    rw [List.range_succ,List.map_append]
    rfl
   ·rw [h] at hlb2 ⊢
    refine ⟨_,.int (9-(i:Int)),ar,rfl,hlb2,?_,ar,fX (h3.trans (Sub.new hlp)) hlb⟩
    rw [List.range_succ,List.map_append]
    rfl
  ·rintro zs M2 ⟨rfl,h2,h3⟩
   have em:((m:Int)+1).toNat=m+1:=by (first|lia|omega)
   rw [em] at h2
   generalize 1+first % ((10:Int) ^ (9:Int).toNat-9)=b0 at *
   clear hpw hbp
   refine ⟨⟨by first|lia|omega,by first|lia|omega⟩,fun lt hlt=>?_⟩
   have hltb:lb≠lt:=fun z=>by rw [←z,h2] at hlt;cases hlt
   refine ⟨fun i zs M'=>(∃ts:List Nat,ts.length=i∧(∀t∈ts,1≤t∧t≤3)∧zs=ts.map fun t:Nat=>D.int ((t:Nat):Int))∧M' lt=some (.lst zs)∧Sub M2 M',⟨⟨[],rfl,fun t h=>(nomatch h),rfl⟩,ar,Sub.new hlt⟩,?_,?_⟩
   ·rintro i zs M' hi ⟨⟨ts,t1,t2,rfl⟩,g2,g3⟩
    refine ⟨by rw [List.length_map];exact t1,mx rfl,?_⟩
    refine ⟨ns,2+(i:Int),rfl,by first|lia|omega,fun c=>?_⟩
    refine ⟨c+(i:Int),1,rfl,by decide,fun ly ys hly hyl hy0=>?_⟩
    obtain ⟨y0,f0,py⟩:=gT (k:=0) hyl (by decide) hy0
    refine ⟨_,_,ar,f0,by show (0:Int) < 3;decide,?_⟩
    obtain ⟨t,ht⟩:∃t:Nat,1+y0 % 3=(t:Int):=⟨(1+y0 % 3).toNat,by first|lia|omega⟩
    refine ⟨Sub.new hly _ _ g2,⟨ts++[t],by rw [List.length_append,t1];rfl,fun u hu=>?_,?_⟩,ar,fX (g3.trans (Sub.new hly)) hlt⟩
    ·rcases List.mem_append.mp hu with hu|hu
     ·exact t2 u hu
     ·rw [List.mem_singleton.mp hu];(first|lia|omega)
    ·rw [List.map_append]
     show _++[D.int (1+y0 % 3)]=_++[D.int (t:Int)]
     rw [ht]
   ·rintro zs M' ⟨⟨ts,t1,t2,rfl⟩,g2,g3⟩
    have em2:((m:Nat):Int).toNat=m:=by (first|lia|omega)
    rw [em2] at t1
    refine ⟨_,_,g3 _ _ (h3 _ _ hX),e2,by show (0:Int) < 2;decide,?_⟩
    exact ⟨_,Sub.refl _,q m b0 _ _ ts lb lt M' hm1.1 hm1.2 t1 t2 (hS1.trans (h3.trans g3)) (g3 _ _ h2) g2⟩
noncomputable def pD (a b c d:Str) (m:Nat) (b0:Int) (s cl:Bool) (ts:List Nat):Fm:=⟨a,b,c,d,m,jJ b0 s,fun i=>ts.getD i 1,cl⟩
theorem yd {a b c d:Str} {m:Nat} {b0:Int} {s cl:Bool} {ts:List Nat} (h:a≠c) (h1:1≤m) (h2:m≤8) (h3:∀t∈ts,1≤t∧t≤3):(pD a b c d m b0 s cl ts).ok:=by
 refine ⟨h,h1,h2,fun i j hi hj e=>?_,fun i=>?_⟩
 ·have hi':i≤m:=hi
  have hj':j≤m:=hj
  have e':jJ b0 s i=jJ b0 s j:=e
  unfold jJ at e'
  cases s with
  |true=>rw [if_pos rfl,if_pos rfl] at e';(first|lia|omega)
  |false=>rw [if_neg (by decide),if_neg (by decide)] at e';(first|lia|omega)
 ·show 1≤ts.getD i 1∧ts.getD i 1≤3
  rw [List.getD_eq_getElem?_getD]
  cases e:ts[i]? with
  |none=>exact ⟨by decide,by decide⟩
  |some t=>exact h3 t (List.mem_of_getElem? e)
theorem Cb {a b c d:Str} {m:Nat} {b0:Int} {s cl:Bool} {ts:List Nat} (h:ts.length=m):ts.map (fun t:Nat=>D.int ((t:Nat):Int))=fN (pD a b c d m b0 s cl ts):=by
 unfold fN
 refine List.ext_getElem? fun i=>?_
 show _=((List.range m).map fun i=>D.int ((ts.getD i 1:Nat):Int))[i]?
 rw [List.getElem?_map,List.getElem?_map]
 rcases Nat.lt_or_ge i m with hi|hi
 ·rw [List.getElem?_range hi,List.getElem?_eq_getElem (by first|lia|omega)]
  show some _=some (D.int ((ts.getD i 1:Nat):Int))
  rw [List.getD_eq_getElem?_getD,List.getElem?_eq_getElem (by first|lia|omega)]
  rfl
 ·rw [List.getElem?_eq_none (by first|lia|omega),List.getElem?_eq_none (by rw [List.length_range];exact hi)]
  rfl
theorem xG {α:Type} (xs:List α) {a b:Nat} (h:b≤xs.length) (hab:a≤b):DL.cutD xs (some (a:Int)) (some (b:Int))=(xs.drop a).take (b-a):=by
 unfold DL.cutD
 rw [HT.jT,HT.jT,Nat.min_eq_left h,Nat.min_eq_left (by first|lia|omega)]
theorem uw (F:Fm) (h:1≤F.m):DL.cutD (cI F) (some 1) (some (F.m:Int))++[F.last.d]=(List.range F.m).map fun i=>(F.next i).d:=by
 have hl:(cI F).length=F.m+1:=by unfold cI;rw [List.length_map,List.length_range]
 rw [show (1:Int)=((1:Nat):Int) from rfl,xG (cI F) (by first|lia|omega) h]
 obtain ⟨n,hn⟩:∃n,F.m=n+1:=⟨F.m-1,by first|lia|omega⟩
 have e1:((cI F).drop 1).take (F.m-1)=(List.range n).map fun i=>(Tree.blank (F.bl (i+1))).d:=by
  unfold cI
  rw [List.range_succ_eq_map,List.map_cons,List.drop_succ_cons,List.drop_zero,List.map_map,←List.map_take,List.take_range,hn]
  rw [show min (n+1-1) (n+1)=n by first|lia|omega]
  rfl
 rw [e1]
 have e2:(List.range F.m).map (fun i=>(F.next i).d)=(List.range n).map (fun i=>(F.next i).d)++[F.last.d]:=by
  rw [hn,List.range_succ,List.map_append]
  congr 1
  show [(F.next n).d]=_
  unfold Fm.next
  rw [if_neg (by first|lia|omega)]
 rw [e2]
 congr 1
 refine List.map_congr_left fun i hi=>?_
 have:=List.mem_range.mp hi
 unfold Fm.next
 rw [if_pos (by first|lia|omega)]
theorem jS {f:Nat→D} {n i:Nat} (h:i < n):bA ((List.range n).map f) ((i:Nat):Int)=some (f i):=by
 refine jE ?_
 rw [List.getElem?_map,List.getElem?_range h]
 rfl
noncomputable def D4 (F:Fm):D→Option D
 |.int k=>some (F.yT k.toNat).d
 |_=>none
noncomputable def E9 (F:Fm):D→Option D
 |.int k=>some (F.pT k.toNat).d
 |_=>none
theorem xg {g:Nat→D} {f:D→Option D} (h:∀i:Nat,f (.int (i:Int))=some (g i)) (n:Nat):((List.range ((n:Nat):Int).toNat).map fun i:Nat=>D.int (i:Int)).filterMap f=(List.range n).map g:=by
 rw [Int.toNat_natCast,List.filterMap_map,←List.filterMap_eq_map]
 congr 1
 funext i
 exact h i
theorem nS (a b:List Tree):Tree.ds (a++b)=Tree.ds a++Tree.ds b:=by rw [cy,cy,cy,List.map_append]
noncomputable def vh (p:Str) (d:D):Option D:=some (.tup [.str (Str.ofString "block"),.str p,.tup [d,d]])
theorem FJ (F:Fm):(Tree.ds (F.row F.m)).filterMap (vh F.p)=Tree.ds ((List.range F.m).map F.dbl):=by
 rw [cy,cy,List.filterMap_map,List.map_map]
 unfold Fm.row
 rw [List.filterMap_map,←List.filterMap_eq_map]
 rfl
theorem wk {τ:aJ} {M:DH} {Q:KD} {ds:List D} {x:D} (i:Nat) (k:Int) (h1:τ[i]?=some (some (.tup ds))) (h2:bA ds k=some x) (q:Q x M):dF gw (cQ i) (eC (.int k)) τ M Q:=by
 show lu τ[i]? _
 rw [h1]
 show fK (bA ds k) _
 rw [h2]
 exact q
theorem GW (T:Txt K mg) {qual:Str} {f:Addr} {fd:FuncData} (F:e8 K "law" qual dQ f fd):cn P w K mg base cY mU f fd ["script"] (dS K j8):=by
 have m_int:=T.m_int
 have m_len:=T.m_len
 have m_range:=T.m_range
 have m_tuple:=T.m_tuple
 have F__law_names:=y2 (P:=P) (w:=w) (base:=base) T
 have F__law_cell_at:=uJ (P:=P) (w:=w) (base:=base) T
 have F__law_row:=C2 (P:=P) (w:=w) (base:=base) T
 have F__law_twos:=GJ (P:=P) (w:=w) (base:=base) T
 have F__law_made:=Ap (P:=P) (w:=w) (base:=base) T
 have F__law_knots:=E2 (P:=P) (w:=w) (base:=base) T
 have F_by_widest:=Av (P:=P) (w:=w) (base:=base) T
 have F_widest:=(lH (P:=P) (w:=w) (base:=base) T).nox
 have F__law_refused:=yI (P:=P) (w:=w) (base:=base) T
 have F__law_refused_by_base:=DN (P:=P) (w:=w) (base:=base) T
 have F__law_plain:=Ih (P:=P) (w:=w) (base:=base) T 60
 have F__law_filled:=nU (P:=P) (w:=w) (base:=base) T 20
 refine kZ F cM (fun ds M Q h=>?_) fun cdv A outer s H E hr=>⟨_,(aq (aE (i:=1) cM.nd (aH F__law_names (hr.mono (by first|lia|omega)) (ag (aH F__law_cell_at (hr.mono (by first|lia|omega)) (ag (af 0) (ag ak ah))) ah)))
 (aq (dq (aH F__law_row (hr.mono (by first|lia|omega)) (ag (af 0) ah)) (j5 rfl (eN (bE (i:=2) cM.nd) (eN (bE (i:=3) cM.nd) (eN (bE (i:=4) cM.nd) kF))) Fj))
 (aq (aE (i:=5) cM.nd (cG dn rfl m_len df (ag (af 3) ah)))
 (aq (aE (i:=6) cM.nd (av (cq (ag (av (af 2) (af 5)) (ag (aM (ag aQ (ag (av (af 1) ak) (ag (aM ah) ah)))) ah))) (dX vA rfl m_int wg (ag (af 4) ah))))
 (aq (aE (i:=7) cM.nd (aL bD (gg fZ (af 2) (fC ak) (fC (af 5))) (cq (ag (af 6) ah))))
 (aq (aE (i:=8) cM.nd (rV (Nc:=["k", "names", "times", "nexts"]) (js:=[none,some 1,some 3,some 7]) (dN ["script", "names", "blanks", "times", "closed", "many", "last", "nexts", "blocks", "pairs", "one", "other", "due", "leaf", "barred", "found", "doubled", "ring"] (au dQ).names rfl rfl rfl rfl (by decide +kernel) (by decide +kernel) (by decide +kernel) rfl (by decide +kernel)) rfl m_range (ag (af 5) ah) (fun C s H fp=>(bE (i:=0) (by show List.Nodup (["k", "names", "times", "nexts"]:List Str);decide +kernel))) (fun C s H fp=>Or.inl ⟨rfl,rfl⟩) (fun C s H fp=>(aM (ag aQ (ag (av (af 1) ak) (ag (aL qc (aM (ag (av (af 3) (af 0)) ah)) (av (af 2) (af 0))) ah)))))))
 (aq (Dz (i:=9) cM.nd (Nc:=["k", "names", "blanks", "blocks"]) (js:=[none,some 1,some 2,some 8]) (dN ["script", "names", "blanks", "times", "closed", "many", "last", "nexts", "blocks", "pairs", "one", "other", "due", "leaf", "barred", "found", "doubled", "ring"] (au dQ).names rfl rfl rfl rfl (by decide +kernel) (by decide +kernel) (by decide +kernel) rfl (by decide +kernel)) rfl m_range (ag (af 5) ah) (fun C s H fp=>(bE (i:=0) (by show List.Nodup (["k", "names", "blanks", "blocks"]:List Str);decide +kernel))) (fun C s H fp=>Or.inl ⟨rfl,rfl⟩) (fun C s H fp=>(aM (ag aQ (ag (av (af 1) ak) (ag (aM (ag (av (af 2) (af 0)) (ag (av (af 3) (af 0)) ah))) ah))))))
 (aq (aE (i:=10) cM.nd (aM (ag aQ (ag (av (af 1) ak) (ag (dX iq rfl m_tuple hV (ag (af 9) ah)) ah)))))
 (aq (aE (i:=11) cM.nd (aH F__law_twos (hr.mono (by first|lia|omega)) (ag (af 1) (ag (af 5) ah))))
 (aq (aE (i:=12) cM.nd (aH F__law_made (hr.mono (by first|lia|omega)) (ag (af 1) (ag (af 2) (ag (af 3) (ag (af 4) ah))))))
 (aq (aE (i:=13) cM.nd (aM (ag aQ (ag (av (af 1) ak) (ag (aM ah) ah)))))
 (aq (bz (bg jH (aL bD (aL bD ak (af 5)) (aL j6 ak (aL gH (aH F__law_knots (hr.mono (by first|lia|omega)) (ag (af 3) ah)) ak))) ak (bj _)) (aq (bz (bg iK (aH F_by_widest (hr.mono (by first|lia|omega)) (ag (af 10) (ag (af 11) (ag (af 13) ah)))) cF (bj _)) (ax (aG eJ)) bF)
 (aq (aE (i:=14) cM.nd (aM (ag aQ (ag (av (af 1) ak) (ag (aL bD (av (af 10) ak) (aM (ag (aM (ag aQ (ag (av (af 1) ak) (ag (aM ah) ah)))) ah))) ah)))))
 (aq (bz (bg (gJ hr) (av (aH F_widest (hr.mono (by first|lia|omega)) (ag (af 14) (ag (aM (ag aQ (ag (av (af 1) ak) (ag (aL bD (av (af 11) ak) (aM (ag (af 13) ah))) ah)))) ah))) ak) aQ (bj _)) (ax (aG eJ)) bF)
 (ax (aG (we (aH F__law_refused (hr.mono (by first|lia|omega)) (ag (af 10) (ag (af 11) ah))) (tY (aH F__law_refused_by_base (hr.mono (by first|lia|omega)) (ag (af 10) (ag (af 11) ah)))))))))) bF)
 (aq (aE (i:=15) cM.nd (aH F_widest (hr.mono (by first|lia|omega)) (ag (af 10) (ag (af 11) ah))))
 (aq (aE (i:=16) cM.nd (aM (ag aQ (ag (av (af 1) ak) (ag (dX iq rfl m_tuple hV (ag (jN (Nc:=["part", "names"]) (js:=[none,some 1]) (dN ["script", "names", "blanks", "times", "closed", "many", "last", "nexts", "blocks", "pairs", "one", "other", "due", "leaf", "barred", "found", "doubled", "ring"] (au dQ).names rfl rfl rfl rfl (by decide +kernel) (by decide +kernel) (by decide +kernel) rfl (by decide +kernel)) rfl (av (af 12) ak) (fun C s H fp=>(bE (i:=0) (by show List.Nodup (["part", "names"]:List Str);decide +kernel))) (fun C s H fp=>Or.inl ⟨rfl,rfl⟩) (fun C s H fp=>(aM (ag aQ (ag (av (af 1) ak) (ag (aM (ag (af 0) (ag (af 0) ah))) ah)))))) ah)) ah)))))
 (aq (bz (PW.pt (lq (bg (gJ hr) (av (af 15) ak) aQ (bj _)) (lK (bg (gJ hr) (av (af 15) ak) (aH F__law_plain (hr.mono (by first|lia|omega)) (ag (af 16) ah)) (bj _))))) (ax (aG eJ)) bF)
 (aq (bz (PW.pt (lq (bg (gJ hr) (aH F__law_filled (hr.mono (by first|lia|omega)) (ag (af 10) (ag (av (af 15) ak) ah))) (av (af 15) ak) (bj _)) (lK (bg (gJ hr) (aH F__law_filled (hr.mono (by first|lia|omega)) (ag (af 11) (ag (av (af 15) ak) ah))) (av (af 15) ak) (bj _))))) (ax (aG eJ)) bF)
 (aq (bz (mJ (af 4)) (ax (aG eJ)) bF)
 (aq (aE (i:=17) cM.nd (aM (ag aQ (ag (av (af 1) ak) (ag (dX iq rfl m_tuple hV (ag (aL bD (af 9) (cq (ag (aM (ag aQ (ag (av (af 1) ak) (ag (aM (ag (av (af 2) (af 5)) (ag (av (af 8) ak) ah))) ah)))) ah))) ah)) ah)))))
 (aq (bz (bg iK (aH F_by_widest (hr.mono (by first|lia|omega)) (ag (af 17) (ag (aH F__law_twos (hr.mono (by first|lia|omega)) (ag (af 1) (ag (aL bD (af 5) ak) ah))) (ag (af 17) ah)))) cF (bj _)) (ax (aG eJ)) bF)
 (ax (aG (jY (cv hr) (av (aH F_widest (hr.mono (by first|lia|omega)) (ag (af 17) (ag (aH F__law_twos (hr.mono (by first|lia|omega)) (ag (af 1) (ag (aL bD (af 5) ak) ah))) ah))) ak) aQ (bj _))))))))))))))))))))))),fun ds M Q h=>?_⟩
 ·obtain ⟨ns,rfl,_⟩:=h;rfl
 ·obtain ⟨ns,rfl,hl,q⟩:=h
  clear F
  refine ⟨ns,1,rfl,by decide,fun c1=>?_⟩
  refine ⟨c1,rfl,fun ln nm hln hnm=>?_⟩
  obtain ⟨na,nb,nc,nd,ne,rfl,hac⟩:=hnm
  have hS1:Sub M (aj M ln (.lst [.str na,.str nb,.str nc,.str nd,.str ne])):=Sub.new hln
  have hN1:aj M ln (.lst [.str na,.str nb,.str nc,.str nd,.str ne]) ln=some (.lst [.str na,.str nb,.str nc,.str nd,.str ne]):=ar
  generalize aj M ln (.lst [.str na,.str nb,.str nc,.str nd,.str ne])=M1 at *
  refine ⟨ns,rfl,fun m b0 sb cl ts lb lt M2 hm1 hm2 htl hts s2 hlb hlt=>?_⟩
  obtain ⟨F,hF⟩:∃F,F=pD na nb nc nd m b0 sb cl ts:=⟨_,rfl⟩
  have ao:F.ok:=by rw [hF];exact yd hac hm1 hm2 hts
  have hN2:M2 ln=some (.lst (pj F ne)):=by rw [hF];exact s2 _ _ hN1
  have hT2:M2 lt=some (.lst (fN F)):=by rw [hlt,hF,Cb htl]
  have hB2:M2 lb=some (.lst (cI F)):=by rw [hlb,hF];rfl
  have em:m=F.m:=by rw [hF];rfl
  have ec:cl=F.cl:=by rw [hF];rfl
  subst ec em
  have hS2:Sub M M2:=hS1.trans s2
  clear hlb hlt s2 hN1 hS1 htl hts hF hac hln
  have h1:=ao.2.1
  have h8:=ao.2.2.1
  refine ⟨_,hT2,?_⟩
  rw [iR]
  have hbm:bA (cI F) ((F.m:Nat):Int)=some (Tree.blank (F.bl F.m)).d:=jS (by first|lia|omega)
  refine ⟨_,_,hB2,hbm,?_⟩
  refine ⟨_,.str F.z,hN2,rfl,?_⟩
  show ∀l,M2 l=none→_
  intro l3 hl3
  have hla:bA [(Tree.blank (F.bl F.m)).d,(Tree.block F.z []).d] (if F.cl then 1 else 0)=some F.last.d:=by
   unfold Fm.last
   cases F.cl<;>rfl
  have s3:=Sub.new (o:=.lst [(Tree.blank (F.bl F.m)).d,(Tree.block F.z []).d]) hl3
  refine ⟨_,F.last.d,ar,hla,?_⟩
  have hN3:=s3 _ _ hN2
  have hT3:=s3 _ _ hT2
  have hB3:=s3 _ _ hB2
  have hS3:=hS2.trans s3
  show (fun M':DH=>_) (aj M2 l3 (.lst [(Tree.blank (F.bl F.m)).d,(Tree.block F.z []).d]))
  generalize aj M2 l3 (.lst [(Tree.blank (F.bl F.m)).d,(Tree.block F.z []).d])=M3 at *
  clear hN2 hT2 hB2 hS2 hl3 s3
  refine ⟨_,hB3,fun l4 hl4=>?_⟩
  show ∀l,aj M3 l4 (.lst (DL.cutD (cI F) (some 1) (some (F.m:Int)))) l=none→_
  intro l5 hl5
  refine ⟨_,_,Sub.new hl5 _ _ ar,ar,?_,fun l6 hl6=>?_⟩
  ·have:=congrArg List.length (uw F h1)
   rw [List.length_append,List.length_map,List.length_range] at this
   exact cL (by first|lia|omega)
  have hX6:aj (aj (aj M3 l4 (.lst (DL.cutD (cI F) (some 1) (some (F.m:Int))))) l5 (.lst [F.last.d])) l6 (.lst (DL.cutD (cI F) (some 1) (some (F.m:Int))++[F.last.d])) l6=some (.lst ((List.range F.m).map fun i=>(F.next i).d)):=by rw [ar,uw F h1]
  have s6:Sub M3 (aj (aj (aj M3 l4 (.lst (DL.cutD (cI F) (some 1) (some (F.m:Int))))) l5 (.lst [F.last.d])) l6 (.lst (DL.cutD (cI F) (some 1) (some (F.m:Int))++[F.last.d]))):=((Sub.new hl4).trans (Sub.new hl5)).trans (Sub.new hl6)
  generalize aj (aj (aj M3 l4 (.lst (DL.cutD (cI F) (some 1) (some (F.m:Int))))) l5 (.lst [F.last.d])) l6 (.lst (DL.cutD (cI F) (some 1) (some (F.m:Int))++[F.last.d]))=M6 at *
  have hN6:=s6 _ _ hN3
  have hT6:=s6 _ _ hT3
  have hB6:=s6 _ _ hB3
  have hS6:=hS3.trans s6
  clear hN3 hT3 hB3 hS3 s6 hl4 hl5 hl6
  refine ⟨⟨by first|lia|omega,by first|lia|omega⟩,⟨by rw [List.length_map,List.length_range];(first|lia|omega),D4 F,fun d hd p acc hp=>?_,fun lk hlk=>?_⟩⟩
  ·obtain ⟨i,hi,rfl⟩:=List.mem_map.mp hd
   have hi':i < F.m:=by simpa using hi
   have ht:=ao.2.2.2.2 i
   refine ⟨mx rfl,_,.str F.y,Sub.new hp _ _ hN6,rfl,_,_,Sub.new hp _ _ hX6,jS hi',_,_,Sub.new hp _ _ hT6,jS hi',⟨by simp,by first|lia|omega,by first|lia|omega⟩,rfl,?_⟩
   show some (F.yT ((i:Nat):Int).toNat).d=_
   rw [Int.toNat_natCast]
   unfold Fm.yT
   rw [Tree.d,n9,Int.toNat_natCast]
  rw [xg (g:=fun i=>(F.yT i).d) fun i=>rfl]
  have hK7:aj M6 lk (.lst ((List.range F.m).map fun i=>(F.yT i).d)) lk=some (.lst ((List.range F.m).map fun i=>(F.yT i).d)):=ar
  have s7:=Sub.new (o:=.lst ((List.range F.m).map fun i=>(F.yT i).d)) hlk
  have hN7:=s7 _ _ hN6
  have hT7:=s7 _ _ hT6
  have hB7:=s7 _ _ hB6
  have hS7:=hS6.trans s7
  generalize aj M6 lk (.lst ((List.range F.m).map fun i=>(F.yT i).d))=M7 at *
  clear hN6 hT6 hB6 hS6 s7 hlk hX6
  refine ⟨⟨by first|lia|omega,by first|lia|omega⟩,⟨by rw [List.length_map,List.length_range];(first|lia|omega),E9 F,fun d hd p acc hp=>?_,fun lp hlp=>?_⟩⟩
  ·obtain ⟨i,hi,rfl⟩:=List.mem_map.mp hd
   have hi':i < F.m:=by simpa using hi
   exact ⟨mx rfl,_,.str F.p,Sub.new hp _ _ hN7,rfl,_,_,Sub.new hp _ _ hB7,jS (by first|lia|omega),_,_,Sub.new hp _ _ hK7,jS hi',rfl,rfl⟩
  rw [xg (g:=fun i=>(F.pT i).d) fun i=>rfl]
  have eP:(List.range F.m).map (fun i=>(F.pT i).d)=F.pairs.map Tree.d:=by unfold Fm.pairs;rw [List.map_map];rfl
  rw [eP]
  have hP8:aj M7 lp (.lst (F.pairs.map Tree.d)) lp=some (.lst (F.pairs.map Tree.d)):=ar
  have s8:=Sub.new (o:=.lst (F.pairs.map Tree.d)) hlp
  have hN8:=s8 _ _ hN7
  have hT8:=s8 _ _ hT7
  have hB8:=s8 _ _ hB7
  have hK8:=s8 _ _ hK7
  have hS8:=hS7.trans s8
  generalize aj M7 lp (.lst (F.pairs.map Tree.d))=M8 at *
  clear hN7 hT7 hB7 hK7 hS7 s8 hlp
  dsimp only [DL.hName]
  refine qw (fun τ' M'=>M'=M8∧τ'=[some (.rol (ns.map .int)),some (.ref ln),some (.ref lb),some (.ref lt),some (.bl F.cl),some (.int F.m),some F.last.d,some (.ref l6),some (.ref lk),some (.ref lp),some F.one.d,none,none,none,none,none,none,none]) ?rest1 (fun R hR=>?here1)
  case here1 =>
   refine ⟨_,.str F.x,hN8,rfl,_,hP8,hR _ _ ⟨rfl,?_⟩⟩
   have:F.one.d=.tup [.str (Str.ofString "block"),.str F.x,.tup (F.pairs.map Tree.d)]:=by unfold Fm.one;rw [Tree.d,cy]
   rw [this]
   rfl
  rintro τ' M' ⟨rfl,rfl⟩
  refine ⟨F,ne,ln,F.m,rfl,hN8,by first|lia|omega,?_⟩
  refine ⟨F,ne,ln,lb,lt,rfl,hN8,hB8,hT8,ao,?_⟩
  refine ⟨_,.str F.z,hN8,rfl,?_⟩
  refine ⟨F,lt,rfl,hT8,ao,?_⟩
  have hkn:=vV (F:=F)
  refine ⟨.inl ⟨by decide,by decide⟩,?_⟩
  show if decide ((400:Int) < 1+(F.m:Int)+2*(((1+F.ks F.m:Nat):Int)-1))=true then _ else _
  by_cases hg:400 < F.db.knots
  ·refine fO (by first|lia|omega) ?_
   have hgr:great F.db:=.inl hg
   have hwm:∀{M0:DH} {Q0:KD},dZ mg [F.one.d,(F.twos F.m).d] M0 Q0 (EL mg):=fun {M0 Q0}=>rC ao (fun _=>rfl) (fun z=>absurd hgr z)
   refine ⟨F.one,F.twos F.m,.block F.z [],rfl,hwm,?_⟩
   refine ⟨_,.str F.x,hN8,rfl,?_⟩
   refine ⟨_,.str F.x,hN8,rfl,?_⟩
   have hpl:(Tree.ds F.pairs).length=F.m:=by rw [cy,List.length_map];unfold Fm.pairs;rw [List.length_map,List.length_range]
   refine ⟨by rw [hpl];exact cL (by simp;(first|lia|omega)),?_⟩
   refine ⟨_,.str F.x,hN8,rfl,?_⟩
   have htl:(Tree.ds ((List.range F.m).map F.twoP)).length=F.m:=by rw [cy,List.length_map,List.length_map,List.length_range]
   refine ⟨by rw [htl];exact cL (by simp;(first|lia|omega)),?_⟩
   have eB:F.barred.d=.tup [.str (Str.ofString "block"),.str F.x,.tup (Tree.ds F.pairs++[(Tree.block F.x []).d])]:=by unfold Fm.barred;rw [Tree.d,nS];rfl
   have eBO:F.barredO.d=.tup [.str (Str.ofString "block"),.str F.x,.tup (Tree.ds ((List.range F.m).map F.twoP)++[(Tree.block F.z []).d])]:=by unfold Fm.barredO;rw [Tree.d,nS];rfl
   have hwb:dZ mg [.tup [.str (Str.ofString "block"),.str F.x,.tup (Tree.ds F.pairs++[(Tree.block F.x []).d])],.tup [.str (Str.ofString "block"),.str F.x,.tup (Tree.ds ((List.range F.m).map F.twoP)++[(Tree.block F.z []).d])]] M' QN (fun _ _=>False):=by
    rw [←eB,←eBO]
    exact Ce ao fun x M' _=>⟨x,rfl⟩
   refine ⟨_,_,hwb,?_,fun c z=>z⟩
   rintro d M9 s9 ⟨x,rfl⟩
   refine ⟨F.one,F.twos F.m,rfl,hwm,?_⟩
   refine ⟨F.one,F.twos F.m,rfl,hwm,?_⟩
   exact ⟨M,hS8.trans s9,q⟩
  ·refine gD (by first|lia|omega) ?_
   have hng:¬great F.db:=fun z=>by
    have:=pw ao
    rcases z with z|z<;>(first|lia|omega)
   have hwm:dZ mg [F.one.d,(F.twos F.m).d] M' (fun d M9=>∃l1 l2 f1 f2,d=.tup [.str (Str.ofString "form"),(plainT F.db).d,.ref l1,.ref l2]∧M9 l1=some (.dic (bQ f1))∧M9 l2=some (.dic (bQ f2))∧bC (look f1) F.one=plainT F.db∧bC (look f2) (F.twos F.m)=plainT F.db) (fun _ _=>False):=rC ao (fun z=>absurd z hng) fun _ l1 l2 f1 f2 M9 _ e1 e2 e3 e4=>⟨l1,l2,f1,f2,rfl,e1,e2,e3,e4⟩
   refine ⟨_,_,hwm,?_,fun c z=>z⟩
   rintro d M9 s9 ⟨l1,l2,f1,f2,rfl,e1,e2,e3,e4⟩
   have hN9:=s9 _ _ hN8
   have hB9:=s9 _ _ hB8
   have hK9:=s9 _ _ hK8
   have hP9:=s9 _ _ hP8
   have hS9:=hS8.trans s9
   have hdd:=pw ao
   have hpd:=xo F.db
   have hos:F.one.depth≤20∧F.one.knots≤400:=by
    have hlen:F.pairs.length=F.m:=by unfold Fm.pairs;rw [List.length_map,List.length_range]
    refine fw (fun t ht=>?_) (by rw [hlen];(first|lia|omega))
    obtain ⟨i,hi,rfl⟩:=List.mem_map.mp ht
    have h3:=iB ao i
    have h4:=gR ao i
    unfold Fm.pT
    simp only [Tree.depth,Tree.depths,Tree.knots,Tree.knotss]
    (first|lia|omega)
   have hts:(F.twos F.m).depth≤20∧(F.twos F.m).knots≤400:=fw (md _) (by rw [List.length_map,List.length_range];(first|lia|omega))
   clear hwm s9 hN8 hB8 hK8 hP8 hT8 hS8
   dsimp only [DL.hName]
   refine qw (fun τ' M2=>Sub M9 M2∧∃v12 v13:Option D,τ'=[some (.rol (ns.map .int)),some (.ref ln),some (.ref lb),some (.ref lt),some (.bl F.cl),some (.int F.m),some F.last.d,some (.ref l6),some (.ref lk),some (.ref lp),some F.one.d,some (F.twos F.m).d,v12,v13,none,some (.tup [.str (Str.ofString "form"),(plainT F.db).d,.ref l1,.ref l2]),some F.db.d,none]) ?rest3 (fun R hR=>?here3)
   case here3 =>
    refine ⟨_,.str F.x,hN9,rfl,?_⟩
    have hlr:(Tree.ds (F.row F.m)).length≤1000000:=by
     rw [cy,List.length_map]
     unfold Fm.row
     rw [List.length_map,List.length_range]
     (first|lia|omega)
    refine ⟨hlr,vh F.p,fun d hd p acc hp=>?_,fun l hl=>?_⟩
    ·exact ⟨gB,_,.str F.p,Sub.new hp _ _ hN9,rfl,rfl,rfl⟩
    ·rw [FJ]
     refine ⟨_,ar,hR _ _ ⟨Sub.new hl,some (Tree.block F.x (F.row F.m)).d,some (Tree.block F.z []).d,?_⟩⟩
     have:F.db.d=.tup [.str (Str.ofString "block"),.str F.x,.tup (Tree.ds ((List.range F.m).map F.dbl))]:=by unfold Fm.db;rw [Tree.d]
     rw [this]
     rfl
   rintro τ' M2 ⟨t2,v12,v13,rfl⟩
   have hN:=t2 _ _ hN9
   have hB:=t2 _ _ hB9
   have hK:=t2 _ _ hK9
   have hP:=t2 _ _ hP9
   have hS:=hS9.trans t2
   have e1:=t2 _ _ e1
   have e2:=t2 _ _ e2
   clear t2 hN9 hB9 hK9 hP9 hS9
   refine ⟨F.db,rfl,hdd,by first|lia|omega,?_⟩
   refine jW (x:=plainT F.db) (y:=plainT F.db) (by first|lia|omega) ?_
   rw [iT]
   refine ⟨F.one,l1,f1,rfl,hos.1,by first|lia|omega,.inl e1,?_⟩
   rw [e3]
   refine wk 15 1 rfl rfl ?_
   refine jW (x:=plainT F.db) (y:=plainT F.db) (by first|lia|omega) ?_
   rw [iT]
   refine ⟨F.twos F.m,l2,f2,rfl,hts.1,by first|lia|omega,.inl e2,?_⟩
   rw [e4]
   refine wk 15 1 rfl rfl ?_
   refine jW (x:=plainT F.db) (y:=plainT F.db) (by first|lia|omega) ?_
   rw [iT]
   show if F.cl=true then _ else _
   by_cases hc:F.cl=true
   ·rw [if_pos hc]
    exact ⟨M,hS,q⟩
   ·rw [if_neg hc]
    have hc:F.cl=false:=by revert hc;cases F.cl<;>simp
    refine ⟨_,.str F.x,hN,rfl,?_⟩
    refine ⟨_,.str F.p,hN,rfl,?_⟩
    refine ⟨_,_,hB,hbm,?_⟩
    refine ⟨_,_,hK,jS (i:=0) (by first|lia|omega),?_⟩
    show ∀l,M2 l=none→_
    intro l7 hl7
    have hpl:(F.pairs.map Tree.d).length=F.m:=by rw [List.length_map];unfold Fm.pairs;rw [List.length_map,List.length_range]
    refine ⟨_,_,Sub.new hl7 _ _ hP,ar,by rw [hpl];exact cL (by simp;(first|lia|omega)),fun l8 hl8=>?_⟩
    refine ⟨_,ar,?_⟩
    have eR:F.ring.d=.tup [.str (Str.ofString "block"),.str F.x,.tup (F.pairs.map Tree.d++[.tup [.str (Str.ofString "block"),.str F.p,.tup [(Tree.blank (F.bl F.m)).d,(F.yT 0).d]]])]:=by unfold Fm.ring;rw [Tree.d,nS,cy];rfl
    have s8:=(Sub.new (o:=.lst [.tup [.str (Str.ofString "block"),.str F.p,.tup [(Tree.blank (F.bl F.m)).d,(F.yT 0).d]]]) hl7).trans (Sub.new (o:=.lst (F.pairs.map Tree.d++[.tup [.str (Str.ofString "block"),.str F.p,.tup [(Tree.blank (F.bl F.m)).d,(F.yT 0).d]]])) hl8)
    clear hl8
    generalize aj (aj M2 l7 (.lst [.tup [.str (Str.ofString "block"),.str F.p,.tup [(Tree.blank (F.bl F.m)).d,(F.yT 0).d]]])) l8 (.lst (F.pairs.map Tree.d++[.tup [.str (Str.ofString "block"),.str F.p,.tup [(Tree.blank (F.bl F.m)).d,(F.yT 0).d]]]))=M5 at *
    have hN5:=s8 _ _ hN
    refine ⟨F,ne,ln,F.m+1,rfl,hN5,by first|lia|omega,?_⟩
    refine ⟨F.ring,F.twos (F.m+1),F.ring,by rw [eR],rG ao hc (fun x M' _=>⟨x,rfl⟩),?_⟩
    refine ⟨F,ne,ln,F.m+1,rfl,hN5,by first|lia|omega,?_⟩
    have hwr:dZ mg [.tup [.str (Str.ofString "block"),.str F.x,.tup (F.pairs.map Tree.d++[.tup [.str (Str.ofString "block"),.str F.p,.tup [(Tree.blank (F.bl F.m)).d,(F.yT 0).d]]])],(F.twos (F.m+1)).d] M5 QN (fun _ _=>False):=by
     rw [←eR]
     exact rG ao hc fun x M' _=>⟨x,rfl⟩
    refine ⟨_,_,hwr,?_,fun c z=>z⟩
    rintro d M4 s4 ⟨x,rfl⟩
    exact ⟨M,(hS.trans s8).trans s4,q⟩
end
theorem all_mk {l:PySem.W.OpenLaw} {w:World} {K:PySem.W.Frag} {h:Heap} {mg:Str→Option Value} {fa:Addr} (X:K.In h) (G:h.Ns mainGlobals mg) (hfa:mg "law" = some (.ref fa))
  {oC0:Addr} {od0 an0:Option Addr} {sl0:Array (Option Value)} {oc0 kV0 dc0 pm0 cd0 ct0:Value} {f0:Addr} {od1 an1:Option Addr} {sl1:Array (Option Value)} {oc1 kV1 dc1 pm1 cd1 ct1:Value} {f1:Addr} {od2 an2:Option Addr} {sl2:Array (Option Value)} {oc2 kV2 dc2 pm2 cd2 ct2:Value} {f2:Addr} {od3 an3:Option Addr} {sl3:Array (Option Value)} {oc3 kV3 dc3 pm3 cd3 ct3:Value} {f3:Addr} {od4 an4:Option Addr} {sl4:Array (Option Value)} {oc4 kV4 dc4 pm4 cd4 ct4:Value} {f4:Addr} {od5 an5:Option Addr} {sl5:Array (Option Value)} {oc5 kV5 dc5 pm5 cd5 ct5:Value} {f5:Addr} {od6 an6:Option Addr} {sl6:Array (Option Value)} {oc6 kV6 dc6 pm6 cd6 ct6:Value} {f6:Addr} {od7 an7:Option Addr} {sl7:Array (Option Value)} {oc7 kV7 dc7 pm7 cd7 ct7:Value} {f7:Addr} {od8 an8:Option Addr} {sl8:Array (Option Value)} {oc8 kV8 dc8 pm8 cd8 ct8:Value} {f8:Addr} {od9 an9:Option Addr} {sl9:Array (Option Value)} {oc9 kV9 dc9 pm9 cd9 ct9:Value} {f9:Addr} {od10 an10:Option Addr} {sl10:Array (Option Value)} {oc10 kV10 dc10 pm10 cd10 ct10:Value} {f10:Addr} {od11 an11:Option Addr} {sl11:Array (Option Value)} {oc11 kV11 dc11 pm11 cd11 ct11:Value} {f11:Addr} {od12 an12:Option Addr} {sl12:Array (Option Value)} {oc12 kV12 dc12 pm12 cd12 ct12:Value} {f12:Addr} {od13 an13:Option Addr} {sl13:Array (Option Value)} {oc13 kV13 dc13 pm13 cd13 ct13:Value} {f13:Addr} {od14 an14:Option Addr} {sl14:Array (Option Value)} {oc14 kV14 dc14 pm14 cd14 ct14:Value} {f14:Addr} {od15 an15:Option Addr} {sl15:Array (Option Value)} {oc15 kV15 dc15 pm15 cd15 ct15:Value} {f15:Addr} {od16 an16:Option Addr} {sl16:Array (Option Value)} {oc16 kV16 dc16 pm16 cd16 ct16:Value} {f16:Addr} {od17 an17:Option Addr} {sl17:Array (Option Value)} {oc17 kV17 dc17 pm17 cd17 ct17:Value} {f17:Addr} {od18 an18:Option Addr} {sl18:Array (Option Value)} {oc18 kV18 dc18 pm18 cd18 ct18:Value} {f18:Addr} {od19 an19:Option Addr} {sl19:Array (Option Value)} {oc19 kV19 dc19 pm19 cd19 ct19:Value} {f19:Addr} {od20 an20:Option Addr} {sl20:Array (Option Value)} {oc20 kV20 dc20 pm20 cd20 ct20:Value} {f20:Addr} {od21 an21:Option Addr} {sl21:Array (Option Value)} {oc21 kV21 dc21 pm21 cd21 ct21:Value} {f21:Addr} {od22 an22:Option Addr} {sl22:Array (Option Value)} {oc22 kV22 dc22 pm22 cd22 ct22:Value} {f22:Addr} {od23 an23:Option Addr} {sl23:Array (Option Value)} {oc23 kV23 dc23 pm23 cd23 ct23:Value} {f23:Addr} {od24 an24:Option Addr} {sl24:Array (Option Value)} {oc24 kV24 dc24 pm24 cd24 ct24:Value} {f24:Addr} {od25 an25:Option Addr} {sl25:Array (Option Value)} {oc25 kV25 dc25 pm25 cd25 ct25:Value} {f25:Addr} {od26 an26:Option Addr} {sl26:Array (Option Value)} {oc26 kV26 dc26 pm26 cd26 ct26:Value} {f26:Addr} {od27 an27:Option Addr} {sl27:Array (Option Value)} {oc27 kV27 dc27 pm27 cd27 ct27:Value} {f27:Addr} {od28 an28:Option Addr} {sl28:Array (Option Value)} {oc28 kV28 dc28 pm28 cd28 ct28:Value} {f28:Addr} {od29 an29:Option Addr} {sl29:Array (Option Value)} {oc29 kV29 dc29 pm29 cd29 ct29:Value} {f29:Addr} {od30 an30:Option Addr} {sl30:Array (Option Value)} {oc30 kV30 dc30 pm30 cd30 ct30:Value} {f30:Addr} {od31 an31:Option Addr} {sl31:Array (Option Value)} {oc31 kV31 dc31 pm31 cd31 ct31:Value} {f31:Addr} {od32 an32:Option Addr} {sl32:Array (Option Value)} {oc32 kV32 dc32 pm32 cd32 ct32:Value} {f32:Addr} {od33 an33:Option Addr} {sl33:Array (Option Value)} {oc33 kV33 dc33 pm33 cd33 ct33:Value} {f33:Addr} {od34 an34:Option Addr} {sl34:Array (Option Value)} {oc34 kV34 dc34 pm34 cd34 ct34:Value} {f34:Addr} {od35 an35:Option Addr} {sl35:Array (Option Value)} {oc35 kV35 dc35 pm35 cd35 ct35:Value} {f35:Addr} {od36 an36:Option Addr} {sl36:Array (Option Value)} {oc36 kV36 dc36 pm36 cd36 ct36:Value} {f36:Addr} {od37 an37:Option Addr} {sl37:Array (Option Value)} {oc37 kV37 dc37 pm37 cd37 ct37:Value} {f37:Addr} {od38 an38:Option Addr} {sl38:Array (Option Value)} {oc38 kV38 dc38 pm38 cd38 ct38:Value} {f38:Addr} {od39 an39:Option Addr} {sl39:Array (Option Value)} {oc39 kV39 dc39 pm39 cd39 ct39:Value} {f39:Addr} {tk0:Tok} {tk1:Tok} {xa0 xa1 xa2:Addr}
  (ka0:PySem.W.nsIn K mainGlobals "Ties" = some (some (.ref oC0))) (kb0:PySem.W.plainGet K oC0 Str.empty=true) (kc0:PySem.W.hasDictIn K oC0=true) (kd0:PySem.W.plainOver K oC0=true) (ke0:PySem.W.findIn K (.ref oC0) "__setattr__" = some (some (.builtin "object.__setattr__"))) (kf0:PySem.W.makesIn K oC0=true) (kg0:PySem.W.keepIn K (.ref oC0)=true)
  (kh0_0:PySem.W.findIn K (.ref oC0) "links" = some none)
  (kh0_1:PySem.W.findIn K (.ref oC0) "steps" = some none)
  (a0:PySem.W.nsIn K mainGlobals "parts_of" = some (some (.ref f0))) (l0:K.lookup f0=some ⟨oc0,od0,.func (PySem.W.fnOf "parts_of" "parts_of" (bc i0) (aU i0) (au i0) .none kV0 dc0 pm0 an0 cd0 ct0),sl0⟩) (c0:PySem.W.codeIn K cd0 "parts_of" = true) (k0:PySem.W.keepIn K (.ref f0)=true)
  (a1:PySem.W.nsIn K mainGlobals "knots_of" = some (some (.ref f1))) (l1:K.lookup f1=some ⟨oc1,od1,.func (PySem.W.fnOf "knots_of" "knots_of" (bc iQ) (aU iQ) (au iQ) .none kV1 dc1 pm1 an1 cd1 ct1),sl1⟩) (c1:PySem.W.codeIn K cd1 "knots_of" = true) (k1:PySem.W.keepIn K (.ref f1)=true)
  (a2:PySem.W.nsIn K mainGlobals "depth_of" = some (some (.ref f2))) (l2:K.lookup f2=some ⟨oc2,od2,.func (PySem.W.fnOf "depth_of" "depth_of" (bc jM) (aU jM) (au jM) .none kV2 dc2 pm2 an2 cd2 ct2),sl2⟩) (c2:PySem.W.codeIn K cd2 "depth_of" = true) (k2:PySem.W.keepIn K (.ref f2)=true)
  (a3:PySem.W.nsIn K mainGlobals "gather_blanks" = some (some (.ref f3))) (l3:K.lookup f3=some ⟨oc3,od3,.func (PySem.W.fnOf "gather_blanks" "gather_blanks" (bc iD) (aU iD) (au iD) .none kV3 dc3 pm3 an3 cd3 ct3),sl3⟩) (c3:PySem.W.codeIn K cd3 "gather_blanks" = true) (k3:PySem.W.keepIn K (.ref f3)=true)
  (a4:PySem.W.nsIn K mainGlobals "blanks_of" = some (some (.ref f4))) (l4:K.lookup f4=some ⟨oc4,od4,.func (PySem.W.fnOf "blanks_of" "blanks_of" (bc iO) (aU iO) (au iO) .none kV4 dc4 pm4 an4 cd4 ct4),sl4⟩) (c4:PySem.W.codeIn K cd4 "blanks_of" = true) (k4:PySem.W.keepIn K (.ref f4)=true)
  (a5:PySem.W.nsIn K mainGlobals "exchanged" = some (some (.ref f5))) (l5:K.lookup f5=some ⟨oc5,od5,.func (PySem.W.fnOf "exchanged" "exchanged" (bc jz) (aU jz) (au jz) .none kV5 dc5 pm5 an5 cd5 ct5),sl5⟩) (c5:PySem.W.codeIn K cd5 "exchanged" = true) (k5:PySem.W.keepIn K (.ref f5)=true)
  (a6:PySem.W.nsIn K mainGlobals "refuse_too_great" = some (some (.ref f6))) (l6:K.lookup f6=some ⟨oc6,od6,.func (PySem.W.fnOf "refuse_too_great" "refuse_too_great" (bc jC) (aU jC) (au jC) .none kV6 dc6 pm6 an6 cd6 ct6),sl6⟩) (c6:PySem.W.codeIn K cd6 "refuse_too_great" = true) (k6:PySem.W.keepIn K (.ref f6)=true)
  (a7:PySem.W.nsIn K mainGlobals "filled" = some (some (.ref f7))) (l7:K.lookup f7=some ⟨oc7,od7,.func (PySem.W.fnOf "filled" "filled" (bc i9) (aU i9) (au i9) .none kV7 dc7 pm7 an7 cd7 ct7),sl7⟩) (c7:PySem.W.codeIn K cd7 "filled" = true) (k7:PySem.W.keepIn K (.ref f7)=true)
  (a8:PySem.W.nsIn K mainGlobals "plain" = some (some (.ref f8))) (l8:K.lookup f8=some ⟨oc8,od8,.func (PySem.W.fnOf "plain" "plain" (bc iz) (aU iz) (au iz) .none kV8 dc8 pm8 an8 cd8 ct8),sl8⟩) (c8:PySem.W.codeIn K cd8 "plain" = true) (k8:PySem.W.keepIn K (.ref f8)=true)
  (a9:PySem.W.nsIn K mainGlobals "same_head" = some (some (.ref f9))) (l9:K.lookup f9=some ⟨oc9,od9,.func (PySem.W.fnOf "same_head" "same_head" (bc jn) (aU jn) (au jn) .none kV9 dc9 pm9 an9 cd9 ct9),sl9⟩) (c9:PySem.W.codeIn K cd9 "same_head" = true) (k9:PySem.W.keepIn K (.ref f9)=true)
  (a10:PySem.W.nsIn K mainGlobals "blank_clash" = some (some (.ref f10))) (l10:K.lookup f10=some ⟨oc10,od10,.func (PySem.W.fnOf "blank_clash" "blank_clash" (bc jK) (aU jK) (au jK) .none kV10 dc10 pm10 an10 cd10 ct10),sl10⟩) (c10:PySem.W.codeIn K cd10 "blank_clash" = true) (k10:PySem.W.keepIn K (.ref f10)=true)
  (a11:PySem.W.nsIn K mainGlobals "clash_from" = some (some (.ref f11))) (l11:K.lookup f11=some ⟨oc11,od11,.func (PySem.W.fnOf "clash_from" "clash_from" (bc i7) (aU i7) (au i7) .none kV11 dc11 pm11 an11 cd11 ct11),sl11⟩) (c11:PySem.W.codeIn K cd11 "clash_from" = true) (k11:PySem.W.keepIn K (.ref f11)=true)
  (a12:PySem.W.nsIn K mainGlobals "fitting" = some (some (.ref f12))) (l12:K.lookup f12=some ⟨oc12,od12,.func (PySem.W.fnOf "fitting" "fitting" (bc ja) (aU ja) (au ja) .none kV12 dc12 pm12 an12 cd12 ct12),sl12⟩) (c12:PySem.W.codeIn K cd12 "fitting" = true) (k12:PySem.W.keepIn K (.ref f12)=true)
  (a13:PySem.W.nsIn K mainGlobals "apart" = some (some (.ref f13))) (l13:K.lookup f13=some ⟨oc13,od13,.func (PySem.W.fnOf "apart" "apart" (bc ji) (aU ji) (au ji) .none kV13 dc13 pm13 an13 cd13 ct13),sl13⟩) (c13:PySem.W.codeIn K cd13 "apart" = true) (k13:PySem.W.keepIn K (.ref f13)=true)
  (a14:PySem.W.nsIn K mainGlobals "unlike_blocks" = some (some (.ref f14))) (l14:K.lookup f14=some ⟨oc14,od14,.func (PySem.W.fnOf "unlike_blocks" "unlike_blocks" (bc iM) (aU iM) (au iM) .none kV14 dc14 pm14 an14 cd14 ct14),sl14⟩) (c14:PySem.W.codeIn K cd14 "unlike_blocks" = true) (k14:PySem.W.keepIn K (.ref f14)=true)
  (a15:PySem.W.nsIn K mainGlobals "blanks_within" = some (some (.ref f15))) (l15:K.lookup f15=some ⟨oc15,od15,.func (PySem.W.fnOf "blanks_within" "blanks_within" (bc jc) (aU jc) (au jc) .none kV15 dc15 pm15 an15 cd15 ct15),sl15⟩) (c15:PySem.W.codeIn K cd15 "blanks_within" = true) (k15:PySem.W.keepIn K (.ref f15)=true)
  (a16:PySem.W.nsIn K mainGlobals "arranged" = some (some (.ref f16))) (l16:K.lookup f16=some ⟨oc16,od16,.func (PySem.W.fnOf "arranged" "arranged" (bc gI) (aU gI) (au gI) .none kV16 dc16 pm16 an16 cd16 ct16),sl16⟩) (c16:PySem.W.codeIn K cd16 "arranged" = true) (k16:PySem.W.keepIn K (.ref f16)=true)
  (a17:PySem.W.nsIn K mainGlobals "settled" = some (some (.ref f17))) (l17:K.lookup f17=some ⟨oc17,od17,.func (PySem.W.fnOf "settled" "settled" (bc gp) (aU gp) (au gp) .none kV17 dc17 pm17 an17 cd17 ct17),sl17⟩) (c17:PySem.W.codeIn K cd17 "settled" = true) (k17:PySem.W.keepIn K (.ref f17)=true)
  (a18:PySem.W.nsIn K mainGlobals "widest" = some (some (.ref f18))) (l18:K.lookup f18=some ⟨oc18,od18,.func (PySem.W.fnOf "widest" "widest" (bc jQ) (aU jQ) (au jQ) .none kV18 dc18 pm18 an18 cd18 ct18),sl18⟩) (c18:PySem.W.codeIn K cd18 "widest" = true) (k18:PySem.W.keepIn K (.ref f18)=true)
  (a19:PySem.W.nsIn K mainGlobals "by_widest" = some (some (.ref f19))) (l19:K.lookup f19=some ⟨oc19,od19,.func (PySem.W.fnOf "by_widest" "by_widest" (bc jd) (aU jd) (au jd) .none kV19 dc19 pm19 an19 cd19 ct19),sl19⟩) (c19:PySem.W.codeIn K cd19 "by_widest" = true) (k19:PySem.W.keepIn K (.ref f19)=true)
  (a20:PySem.W.nsIn K mainGlobals "_law_cell_at" = some (some (.ref f20))) (l20:K.lookup f20=some ⟨oc20,od20,.func (PySem.W.fnOf "_law_cell_at" "_law_cell_at" (bc je) (aU je) (au je) .none kV20 dc20 pm20 an20 cd20 ct20),sl20⟩) (c20:PySem.W.codeIn K cd20 "_law_cell_at" = true) (k20:PySem.W.keepIn K (.ref f20)=true)
  (a21:PySem.W.nsIn K mainGlobals "_law_stream" = some (some (.ref f21))) (l21:K.lookup f21=some ⟨oc21,od21,.func (PySem.W.fnOf "_law_stream" "_law_stream" (bc jA) (aU jA) (au jA) .none kV21 dc21 pm21 an21 cd21 ct21),sl21⟩) (c21:PySem.W.codeIn K cd21 "_law_stream" = true) (k21:PySem.W.keepIn K (.ref f21)=true)
  (a22:PySem.W.nsIn K mainGlobals "_law_names" = some (some (.ref f22))) (l22:K.lookup f22=some ⟨oc22,od22,.func (PySem.W.fnOf "_law_names" "_law_names" (bc gU) (aU gU) (au gU) .none kV22 dc22 pm22 an22 cd22 ct22),sl22⟩) (c22:PySem.W.codeIn K cd22 "_law_names" = true) (k22:PySem.W.keepIn K (.ref f22)=true)
  (a23:PySem.W.nsIn K mainGlobals "_law_filled" = some (some (.ref f23))) (l23:K.lookup f23=some ⟨oc23,od23,.func (PySem.W.fnOf "_law_filled" "_law_filled" (bc il) (aU il) (au il) .none kV23 dc23 pm23 an23 cd23 ct23),sl23⟩) (c23:PySem.W.codeIn K cd23 "_law_filled" = true) (k23:PySem.W.keepIn K (.ref f23)=true)
  (a24:PySem.W.nsIn K mainGlobals "_law_blanks" = some (some (.ref f24))) (l24:K.lookup f24=some ⟨oc24,od24,.func (PySem.W.fnOf "_law_blanks" "_law_blanks" (bc hJ) (aU hJ) (au hJ) .none kV24 dc24 pm24 an24 cd24 ct24),sl24⟩) (c24:PySem.W.codeIn K cd24 "_law_blanks" = true) (k24:PySem.W.keepIn K (.ref f24)=true)
  (a25:PySem.W.nsIn K mainGlobals "_law_plain" = some (some (.ref f25))) (l25:K.lookup f25=some ⟨oc25,od25,.func (PySem.W.fnOf "_law_plain" "_law_plain" (bc iS) (aU iS) (au iS) .none kV25 dc25 pm25 an25 cd25 ct25),sl25⟩) (c25:PySem.W.codeIn K cd25 "_law_plain" = true) (k25:PySem.W.keepIn K (.ref f25)=true)
  (a26:PySem.W.nsIn K mainGlobals "_law_row" = some (some (.ref f26))) (l26:K.lookup f26=some ⟨oc26,od26,.func (PySem.W.fnOf "_law_row" "_law_row" (bc gb) (aU gb) (au gb) .none kV26 dc26 pm26 an26 cd26 ct26),sl26⟩) (c26:PySem.W.codeIn K cd26 "_law_row" = true) (k26:PySem.W.keepIn K (.ref f26)=true)
  (a27:PySem.W.nsIn K mainGlobals "_law_made" = some (some (.ref f27))) (l27:K.lookup f27=some ⟨oc27,od27,.func (PySem.W.fnOf "_law_made" "_law_made" (bc iA) (aU iA) (au iA) .none kV27 dc27 pm27 an27 cd27 ct27),sl27⟩) (c27:PySem.W.codeIn K cd27 "_law_made" = true) (k27:PySem.W.keepIn K (.ref f27)=true)
  (a28:PySem.W.nsIn K mainGlobals "_law_knots" = some (some (.ref f28))) (l28:K.lookup f28=some ⟨oc28,od28,.func (PySem.W.fnOf "_law_knots" "_law_knots" (bc iU) (aU iU) (au iU) .none kV28 dc28 pm28 an28 cd28 ct28),sl28⟩) (c28:PySem.W.codeIn K cd28 "_law_knots" = true) (k28:PySem.W.keepIn K (.ref f28)=true)
  (a29:PySem.W.nsIn K mainGlobals "_law_refused" = some (some (.ref f29))) (l29:K.lookup f29=some ⟨oc29,od29,.func (PySem.W.fnOf "_law_refused" "_law_refused" (bc jD) (aU jD) (au jD) .none kV29 dc29 pm29 an29 cd29 ct29),sl29⟩) (c29:PySem.W.codeIn K cd29 "_law_refused" = true) (k29:PySem.W.keepIn K (.ref f29)=true)
  (a30:PySem.W.nsIn K mainGlobals "_law_refused_by_base" = some (some (.ref f30))) (l30:K.lookup f30=some ⟨oc30,od30,.func (PySem.W.fnOf "_law_refused_by_base" "_law_refused_by_base" (bc iP) (aU iP) (au iP) .none kV30 dc30 pm30 an30 cd30 ct30),sl30⟩) (c30:PySem.W.codeIn K cd30 "_law_refused_by_base" = true) (k30:PySem.W.keepIn K (.ref f30)=true)
  (a31:PySem.W.nsIn K mainGlobals "_law_twos" = some (some (.ref f31))) (l31:K.lookup f31=some ⟨oc31,od31,.func (PySem.W.fnOf "_law_twos" "_law_twos" (bc ib) (aU ib) (au ib) .none kV31 dc31 pm31 an31 cd31 ct31),sl31⟩) (c31:PySem.W.codeIn K cd31 "_law_twos" = true) (k31:PySem.W.keepIn K (.ref f31)=true)
  (a32:PySem.W.nsIn K mainGlobals "law" = some (some (.ref f32))) (l32:K.lookup f32=some ⟨oc32,od32,.func (PySem.W.fnOf "law" "law" (bc dQ) (aU dQ) (au dQ) .none kV32 dc32 pm32 an32 cd32 ct32),sl32⟩) (c32:PySem.W.codeIn K cd32 "law" = true) (k32:PySem.W.keepIn K (.ref f32)=true)
  (a33:PySem.W.findIn K (.ref oC0) "__init__" = some (some (.ref f33))) (i33:PySem.W.isFn K (.ref f33)=true) (l33:K.lookup f33=some ⟨oc33,od33,.func (PySem.W.fnOf "__init__" "Ties.__init__" (bc iL) (aU iL) (au iL) .none kV33 dc33 pm33 an33 cd33 ct33),sl33⟩) (c33:PySem.W.codeIn K cd33 "Ties.__init__" = true) (k33:PySem.W.keepIn K (.ref f33)=true)
  (a34:PySem.W.findIn K (.ref oC0) "noted" = some (some (.ref f34))) (i34:PySem.W.isFn K (.ref f34)=true) (l34:K.lookup f34=some ⟨oc34,od34,.func (PySem.W.fnOf "noted" "Ties.noted" (bc iV) (aU iV) (au iV) .none kV34 dc34 pm34 an34 cd34 ct34),sl34⟩) (c34:PySem.W.codeIn K cd34 "Ties.noted" = true) (k34:PySem.W.keepIn K (.ref f34)=true)
  (a35:PySem.W.findIn K (.ref oC0) "turned" = some (some (.ref f35))) (i35:PySem.W.isFn K (.ref f35)=true) (l35:K.lookup f35=some ⟨oc35,od35,.func (PySem.W.fnOf "turned" "Ties.turned" (bc jL) (aU jL) (au jL) .none kV35 dc35 pm35 an35 cd35 ct35),sl35⟩) (c35:PySem.W.codeIn K cd35 "Ties.turned" = true) (k35:PySem.W.keepIn K (.ref f35)=true)
  (a36:PySem.W.findIn K (.ref oC0) "linked" = some (some (.ref f36))) (i36:PySem.W.isFn K (.ref f36)=true) (l36:K.lookup f36=some ⟨oc36,od36,.func (PySem.W.fnOf "linked" "Ties.linked" (bc jG) (aU jG) (au jG) .none kV36 dc36 pm36 an36 cd36 ct36),sl36⟩) (c36:PySem.W.codeIn K cd36 "Ties.linked" = true) (k36:PySem.W.keepIn K (.ref f36)=true)
  (a37:PySem.W.findIn K (.ref oC0) "root_of" = some (some (.ref f37))) (i37:PySem.W.isFn K (.ref f37)=true) (l37:K.lookup f37=some ⟨oc37,od37,.func (PySem.W.fnOf "root_of" "Ties.root_of" (bc i8) (aU i8) (au i8) .none kV37 dc37 pm37 an37 cd37 ct37),sl37⟩) (c37:PySem.W.codeIn K cd37 "Ties.root_of" = true) (k37:PySem.W.keepIn K (.ref f37)=true)
  (a38:PySem.W.findIn K (.ref oC0) "tie_roots" = some (some (.ref f38))) (i38:PySem.W.isFn K (.ref f38)=true) (l38:K.lookup f38=some ⟨oc38,od38,.func (PySem.W.fnOf "tie_roots" "Ties.tie_roots" (bc jO) (aU jO) (au jO) .none kV38 dc38 pm38 an38 cd38 ct38),sl38⟩) (c38:PySem.W.codeIn K cd38 "Ties.tie_roots" = true) (k38:PySem.W.keepIn K (.ref f38)=true)
  (a39:PySem.W.findIn K (.ref oC0) "tie" = some (some (.ref f39))) (i39:PySem.W.isFn K (.ref f39)=true) (l39:K.lookup f39=some ⟨oc39,od39,.func (PySem.W.fnOf "tie" "Ties.tie" (bc jP) (aU jP) (au jP) .none kV39 dc39 pm39 an39 cd39 ct39),sl39⟩) (c39:PySem.W.codeIn K cd39 "Ties.tie" = true) (k39:PySem.W.keepIn K (.ref f39)=true)
  (z0:PySem.W.nsIn K mainGlobals "ValueError" = some none)
  (z1:PySem.W.nsIn K mainGlobals "enumerate" = some none)
  (z2:PySem.W.nsIn K mainGlobals "int" = some none)
  (z3:PySem.W.nsIn K mainGlobals "isinstance" = some none)
  (z4:PySem.W.nsIn K mainGlobals "len" = some none)
  (z5:PySem.W.nsIn K mainGlobals "list" = some none)
  (z6:PySem.W.nsIn K mainGlobals "max" = some none)
  (z7:PySem.W.nsIn K mainGlobals "range" = some none)
  (z8:PySem.W.nsIn K mainGlobals "reversed" = some none)
  (z9:PySem.W.nsIn K mainGlobals "tuple" = some none)
  (z10:PySem.W.nsIn K mainGlobals "zip" = some none)
  (y0:PySem.W.nsIn K mainGlobals "MOST_TOLD_DEPTH" = some (some (.int 60 tk0)))
  (y1:PySem.W.nsIn K mainGlobals "MOST_TOLD_KNOTS" = some (some (.int 400 tk1)))
  (q0:PySem.W.nsIn K mainGlobals "FormError" = some (some (.ref xa0))) (e0:PySem.W.excIn K xa0 iw "ValueError.__new__" = true)
  (q1:PySem.W.nsIn K mainGlobals "BadText" = some (some (.ref xa1))) (e1:PySem.W.excIn K xa1 iw "ValueError.__new__" = true)
  (q2:PySem.W.nsIn K mainGlobals "TooLong" = some (some (.ref xa2))) (e2:PySem.W.excIn K xa2 iw "ValueError.__new__" = true)
  (kt:xh K [xa0,xa1,xa2]=([[true,false,false],[true,true,false],[true,false,true]]:List (List Bool)).map fun r=>r.map some) (ia:sN K [xa0,xa1,xa2]=([[true,false,false],[true,true,false],[true,false,true]]:List (List Bool)).map fun r=>r.map some)
  (ve:([xa0,xa1,xa2]:List Addr).map (fun c=>PySem.W.kitOne K (.ref c) (.type "ValueError"))=([xa0,xa1,xa2]:List Addr).map fun _=>some true)
  (fc:([xa0,xa1,xa2]:List Addr).map (fun c=>PySem.W.findIn K (.ref c) "__class__")=([xa0,xa1,xa2]:List Addr).map fun _=>some (some (.builtin "object.__class__")))
  (fg:([xa0,xa1,xa2]:List Addr).map (fun c=>PySem.W.findIn K (.ref c) "__getattribute__")=([xa0,xa1,xa2]:List Addr).map fun _=>some (some (.builtin "BaseException.__getattribute__")))
  (fga:([xa0,xa1,xa2]:List Addr).map (fun c=>PySem.W.findIn K (.ref c) "__getattr__")=([xa0,xa1,xa2]:List Addr).map fun _=>some none)
  : ∃fd:FuncData,(∀(s:Shared) (v:Value),BindsTo s fd ⟨[v],[]⟩ [("script",v)])∧∀base:Heap,K.In base→base.Ns mainGlobals mg→cn l.prog w K mg base cY mU fa fd ["script"] (dS K j8):=by
 have e:=hfa.symm.trans (PySem.W.mg_of X G a32)
 cases e
 have ph0:=PySem.W.mg_of X G ka0
 have ch0:=lW ph0
 have F0:=bq (st:=i0) l0 c0 k0
 have b0:=F0.binds (ps:=["tree"]) fun _ _ _ _ _ _=>dv fun _=>rfl
 have F1:=bq (st:=iQ) l1 c1 k1
 have b1:=F1.binds (ps:=["tree"]) fun _ _ _ _ _ _=>dv fun _=>rfl
 have F2:=bq (st:=jM) l2 c2 k2
 have b2:=F2.binds (ps:=["tree"]) fun _ _ _ _ _ _=>dv fun _=>rfl
 have F3:=bq (st:=iD) l3 c3 k3
 have b3:=F3.binds (ps:=["tree", "found"]) fun _ _ _ _ _ _=>cJ fun _ _=>rfl
 have F4:=bq (st:=iO) l4 c4 k4
 have b4:=F4.binds (ps:=["tree"]) fun _ _ _ _ _ _=>dv fun _=>rfl
 have F5:=bq (st:=jz) l5 c5 k5
 have b5:=F5.binds (ps:=["tree", "filling"]) fun _ _ _ _ _ _=>cJ fun _ _=>rfl
 have F6:=bq (st:=jC) l6 c6 k6
 have b6:=F6.binds (ps:=["tree"]) fun _ _ _ _ _ _=>dv fun _=>rfl
 have F7:=bq (st:=i9) l7 c7 k7
 have b7:=F7.binds (ps:=["tree", "filling"]) fun _ _ _ _ _ _=>cJ fun _ _=>rfl
 have F8:=bq (st:=iz) l8 c8 k8
 have b8:=F8.binds (ps:=["tree"]) fun _ _ _ _ _ _=>dv fun _=>rfl
 have F9:=bq (st:=jn) l9 c9 k9
 have b9:=F9.binds (ps:=["one", "other"]) fun _ _ _ _ _ _=>cJ fun _ _=>rfl
 have F10:=bq (st:=jK) l10 c10 k10
 have b10:=F10.binds (ps:=["number", "tree", "place", "stood"]) fun _ _ _ _ _ _=>mM fun _ _ _ _=>rfl
 have F11:=bq (st:=i7) l11 c11 k11
 have b11:=F11.binds (ps:=["form", "tree", "place", "stood"]) fun _ _ _ _ _ _=>mM fun _ _ _ _=>rfl
 have F12:=bq (st:=ja) l12 c12 k12
 have b12:=F12.binds (ps:=["form", "tree"]) fun _ _ _ _ _ _=>cJ fun _ _=>rfl
 have F13:=bq (st:=ji) l13 c13 k13
 have b13:=F13.binds (ps:=["one", "other"]) fun _ _ _ _ _ _=>cJ fun _ _=>rfl
 have F14:=bq (st:=iM) l14 c14 k14
 have b14:=F14.binds (ps:=["one", "other"]) fun _ _ _ _ _ _=>cJ fun _ _=>rfl
 have F15:=bq (st:=jc) l15 c15 k15
 have b15:=F15.binds (ps:=["root"]) fun _ _ _ _ _ _=>dv fun _=>rfl
 have F16:=bq (st:=gI) l16 c16 k16
 have b16:=F16.binds (ps:=["inner"]) fun _ _ _ _ _ _=>dv fun _=>rfl
 have F17:=bq (st:=gp) l17 c17 k17
 have b17:=F17.binds (ps:=["one", "other"]) fun _ _ _ _ _ _=>cJ fun _ _=>rfl
 have F18:=bq (st:=jQ) l18 c18 k18
 have b18:=F18.binds (ps:=["one", "other"]) fun _ _ _ _ _ _=>cJ fun _ _=>rfl
 have F19:=bq (st:=jd) l19 c19 k19
 have b19:=F19.binds (ps:=["one", "other", "tree"]) fun _ _ _ _ _ _=>nI fun _ _ _=>rfl
 have F20:=bq (st:=je) l20 c20 k20
 have b20:=F20.binds (ps:=["script", "k"]) fun _ _ _ _ _ _=>cJ fun _ _=>rfl
 have F21:=bq (st:=jA) l21 c21 k21
 have b21:=F21.binds (ps:=["cell", "many"]) fun _ _ _ _ _ _=>cJ fun _ _=>rfl
 have F22:=bq (st:=gU) l22 c22 k22
 have b22:=F22.binds (ps:=["cell"]) fun _ _ _ _ _ _=>dv fun _=>rfl
 have F23:=bq (st:=il) l23 c23 k23
 have b23:=F23.binds (ps:=["tree", "filling"]) fun _ _ _ _ _ _=>cJ fun _ _=>rfl
 have F24:=bq (st:=hJ) l24 c24 k24
 have b24:=F24.binds (ps:=["tree"]) fun _ _ _ _ _ _=>dv fun _=>rfl
 have F25:=bq (st:=iS) l25 c25 k25
 have b25:=F25.binds (ps:=["tree"]) fun _ _ _ _ _ _=>dv fun _=>rfl
 have F26:=bq (st:=gb) l26 c26 k26
 have b26:=F26.binds (ps:=["script"]) fun _ _ _ _ _ _=>dv fun _=>rfl
 have F27:=bq (st:=iA) l27 c27 k27
 have b27:=F27.binds (ps:=["names", "blanks", "times", "closed"]) fun _ _ _ _ _ _=>mM fun _ _ _ _=>rfl
 have F28:=bq (st:=iU) l28 c28 k28
 have b28:=F28.binds (ps:=["times"]) fun _ _ _ _ _ _=>dv fun _=>rfl
 have F29:=bq (st:=jD) l29 c29 k29
 have b29:=F29.binds (ps:=["one", "other"]) fun _ _ _ _ _ _=>cJ fun _ _=>rfl
 have F30:=bq (st:=iP) l30 c30 k30
 have b30:=F30.binds (ps:=["one", "other"]) fun _ _ _ _ _ _=>cJ fun _ _=>rfl
 have F31:=bq (st:=ib) l31 c31 k31
 have b31:=F31.binds (ps:=["names", "many"]) fun _ _ _ _ _ _=>cJ fun _ _=>rfl
 have F33:=bq (st:=iL) l33 c33 k33
 have b33:=F33.binds (ps:=["self"]) fun _ _ _ _ _ _=>dv fun _=>rfl
 have F34:=bq (st:=iV) l34 c34 k34
 have b34:=F34.binds (ps:=["self", "step"]) fun _ _ _ _ _ _=>cJ fun _ _=>rfl
 have F35:=bq (st:=jL) l35 c35 k35
 have b35:=F35.binds (ps:=["self", "number"]) fun _ _ _ _ _ _=>cJ fun _ _=>rfl
 have F36:=bq (st:=jG) l36 c36 k36
 have b36:=F36.binds (ps:=["self", "first", "second"]) fun _ _ _ _ _ _=>nI fun _ _ _=>rfl
 have F37:=bq (st:=i8) l37 c37 k37
 have b37:=F37.binds (ps:=["self", "tree"]) fun _ _ _ _ _ _=>cJ fun _ _=>rfl
 have F38:=bq (st:=jO) l38 c38 k38
 have b38:=F38.binds (ps:=["self", "left", "right", "number"]) fun _ _ _ _ _ _=>mM fun _ _ _ _=>rfl
 have F39:=bq (st:=jP) l39 c39 k39
 have b39:=F39.binds (ps:=["self", "one", "other"]) fun _ _ _ _ _ _=>nI fun _ _ _=>rfl
 have p0:=PySem.W.mg_of X G q0
 have cc0:=lW p0
 have p1:=PySem.W.mg_of X G q1
 have cc1:=lW p1
 have p2:=PySem.W.mg_of X G q2
 have cc2:=lW p2
 have xtab:fe K [cl mg "FormError",cl mg "BadText",cl mg "TooLong"] [[true,false,false],[true,true,false],[true,false,true]]:=by
  rw [cc0,cc1,cc2]
  refine ⟨fun c hc=>?_,kt,ia,ve,fc,fg,fga⟩
  simp only [List.mem_cons,List.not_mem_nil,or_false] at hc
  rcases hc with rfl|rfl|rfl<;>assumption
 have TX:Txt K mg:={ n_Ties:=by rw [ch0];exact ph0,c_Ties:=by rw [ch0];exact ⟨kb0,kc0,kd0,ke0⟩,a_Ties_links:=by rw [ch0];exact kh0_0,a_Ties_steps:=by rw [ch0];exact kh0_1,f_parts_of:=⟨_,_,F0,b0,PySem.W.mg_of X G a0⟩,f_knots_of:=⟨_,_,F1,b1,PySem.W.mg_of X G a1⟩,f_depth_of:=⟨_,_,F2,b2,PySem.W.mg_of X G a2⟩,f_gather_blanks:=⟨_,_,F3,b3,PySem.W.mg_of X G a3⟩,f_blanks_of:=⟨_,_,F4,b4,PySem.W.mg_of X G a4⟩,f_exchanged:=⟨_,_,F5,b5,PySem.W.mg_of X G a5⟩,f_refuse_too_great:=⟨_,_,F6,b6,PySem.W.mg_of X G a6⟩,f_filled:=⟨_,_,F7,b7,PySem.W.mg_of X G a7⟩,f_plain:=⟨_,_,F8,b8,PySem.W.mg_of X G a8⟩,f_same_head:=⟨_,_,F9,b9,PySem.W.mg_of X G a9⟩,f_blank_clash:=⟨_,_,F10,b10,PySem.W.mg_of X G a10⟩,f_clash_from:=⟨_,_,F11,b11,PySem.W.mg_of X G a11⟩,f_fitting:=⟨_,_,F12,b12,PySem.W.mg_of X G a12⟩,f_apart:=⟨_,_,F13,b13,PySem.W.mg_of X G a13⟩,f_unlike_blocks:=⟨_,_,F14,b14,PySem.W.mg_of X G a14⟩,f_blanks_within:=⟨_,_,F15,b15,PySem.W.mg_of X G a15⟩,f_arranged:=⟨_,_,F16,b16,PySem.W.mg_of X G a16⟩,f_settled:=⟨_,_,F17,b17,PySem.W.mg_of X G a17⟩,f_widest:=⟨_,_,F18,b18,PySem.W.mg_of X G a18⟩,f_by_widest:=⟨_,_,F19,b19,PySem.W.mg_of X G a19⟩,f__law_cell_at:=⟨_,_,F20,b20,PySem.W.mg_of X G a20⟩,f__law_stream:=⟨_,_,F21,b21,PySem.W.mg_of X G a21⟩,f__law_names:=⟨_,_,F22,b22,PySem.W.mg_of X G a22⟩,f__law_filled:=⟨_,_,F23,b23,PySem.W.mg_of X G a23⟩,f__law_blanks:=⟨_,_,F24,b24,PySem.W.mg_of X G a24⟩,f__law_plain:=⟨_,_,F25,b25,PySem.W.mg_of X G a25⟩,f__law_row:=⟨_,_,F26,b26,PySem.W.mg_of X G a26⟩,f__law_made:=⟨_,_,F27,b27,PySem.W.mg_of X G a27⟩,f__law_knots:=⟨_,_,F28,b28,PySem.W.mg_of X G a28⟩,f__law_refused:=⟨_,_,F29,b29,PySem.W.mg_of X G a29⟩,f__law_refused_by_base:=⟨_,_,F30,b30,PySem.W.mg_of X G a30⟩,f__law_twos:=⟨_,_,F31,b31,PySem.W.mg_of X G a31⟩,f_Ties___init__:=by rw [ch0];exact ⟨_,_,F33,b33,⟨kf0,a33,i33,kg0⟩⟩,f_Ties_noted:=by rw [ch0];exact ⟨_,_,F34,b34,⟨a34,i34,k34⟩⟩,f_Ties_turned:=by rw [ch0];exact ⟨_,_,F35,b35,⟨a35,i35,k35⟩⟩,f_Ties_linked:=by rw [ch0];exact ⟨_,_,F36,b36,⟨a36,i36,k36⟩⟩,f_Ties_root_of:=by rw [ch0];exact ⟨_,_,F37,b37,⟨a37,i37,k37⟩⟩,f_Ties_tie_roots:=by rw [ch0];exact ⟨_,_,F38,b38,⟨a38,i38,k38⟩⟩,f_Ties_tie:=by rw [ch0];exact ⟨_,_,F39,b39,⟨a39,i39,k39⟩⟩,m_ValueError:=PySem.W.mg_none_of X G z0,m_enumerate:=PySem.W.mg_none_of X G z1,m_int:=PySem.W.mg_none_of X G z2,m_isinstance:=PySem.W.mg_none_of X G z3,m_len:=PySem.W.mg_none_of X G z4,m_list:=PySem.W.mg_none_of X G z5,m_max:=PySem.W.mg_none_of X G z6,m_range:=PySem.W.mg_none_of X G z7,m_reversed:=PySem.W.mg_none_of X G z8,m_tuple:=PySem.W.mg_none_of X G z9,m_zip:=PySem.W.mg_none_of X G z10,g_MOST_TOLD_DEPTH:=⟨_,PySem.W.mg_of X G y0⟩,g_MOST_TOLD_KNOTS:=⟨_,PySem.W.mg_of X G y1⟩,n_FormError:=by rw [cc0];exact p0,n_BadText:=by rw [cc1];exact p1,n_TooLong:=by rw [cc2];exact p2,xc:=xtab }
 refine ⟨PySem.W.fnOf "law" "law" (bc dQ) (aU dQ) (au dQ) .none kV32 dc32 pm32 an32 cd32 ct32,fun s v=>.of_eq rfl,fun base _ _=>?_⟩
 exact GW TX (bq (st:=dQ) l32 c32 k32)
theorem walk {l:PySem.W.OpenLaw} {q:Program} {loose:List Str} {XP:(Str→Option Value)→Heap→Prop} {YP:World→Heap→Prop} {d:DefRec} {K:Params→PySem.W.Frag} (hn:l.most=some 63) (hdf:d.params.defaults=[])
  (hY:∀(w:World) (h:Heap),YP w h→(K w.params).In h)
  (F:∀(w:World) (mg:Str→Option Value) (fa:Addr) (h:Heap),(K w.params).In h→h.Ns mainGlobals mg→mg d.name=some (.ref fa) →
   ∃fd:FuncData,(∀(s:Shared) (u:Value),BindsTo s fd ⟨[u],[]⟩ [("script",u)])∧∀base:Heap,(K w.params).In base→base.Ns mainGlobals mg→cn l.prog w (K w.params) mg base cY mU fa fd ["script"] (dS (K w.params) j8)) :
  PySem.W.WalkO q loose XP YP l.row.toRowW d [] (fun f vs=>PySem.call f vs) :=
 L2.zD (n:=63) (k:=mU) (x:= "script") (CX:=fun _=>cY) (sp:=fun w=>dS (K w.params) j8) hn (by decide) hdf ⟨rfl,by decide,by decide⟩ hY F (fun _ _ a ns hl hO hS=>zH hO hl hS) fun _ _ _ _ _ z=>z
end Law
namespace PySem.W.Fast
theorem tw15875220385299009385:True:=⟨⟩
theorem te15875220385299009385:True:=⟨⟩
theorem tw117472026846910018:True:=⟨⟩
theorem te117472026846910018:True:=⟨⟩
theorem tw6873095278780525277:True:=⟨⟩
theorem te6873095278780525277:True:=⟨⟩
theorem tw17852278859614473804:True:=⟨⟩
theorem te17852278859614473804:True:=⟨⟩
theorem tw637401786718978981:True:=⟨⟩
theorem te637401786718978981:True:=⟨⟩
theorem tw17344494498469249319:True:=⟨⟩
theorem te17344494498469249319:True:=⟨⟩
theorem tw3333432100151004927:True:=⟨⟩
theorem te3333432100151004927:True:=⟨⟩
theorem tw3925170121603148608:True:=⟨⟩
theorem te3925170121603148608:True:=⟨⟩
theorem tw11350219078210836428:True:=⟨⟩
theorem te11350219078210836428:True:=⟨⟩
theorem tw17805932128235216549:True:=⟨⟩
theorem te17805932128235216549:True:=⟨⟩
theorem tw7734452041548450487:True:=⟨⟩
theorem te7734452041548450487:True:=⟨⟩
theorem tw4148659537234369984:True:=⟨⟩
theorem te4148659537234369984:True:=⟨⟩
theorem tw15388093376823427885:True:=⟨⟩
theorem te15388093376823427885:True:=⟨⟩
theorem tw2788357350355741225:True:=⟨⟩
theorem te2788357350355741225:True:=⟨⟩
theorem tw9943141739543541716:True:=⟨⟩
theorem te9943141739543541716:True:=⟨⟩
theorem tw12614036086103038275:True:=⟨⟩
theorem te12614036086103038275:True:=⟨⟩
theorem tw15432024997801058138:True:=⟨⟩
theorem te15432024997801058138:True:=⟨⟩
theorem tw3894261379946681562:True:=⟨⟩
theorem te3894261379946681562:True:=⟨⟩
theorem tw3718566851478274701:True:=⟨⟩
theorem te3718566851478274701:True:=⟨⟩
theorem tw5015675543103051124:True:=⟨⟩
theorem te5015675543103051124:True:=⟨⟩
theorem tw12427204792803846845:True:=⟨⟩
theorem te12427204792803846845:True:=⟨⟩
theorem tw7542397164453202208:True:=⟨⟩
theorem te7542397164453202208:True:=⟨⟩
theorem tw8076225065010771370:True:=⟨⟩
theorem te8076225065010771370:True:=⟨⟩
theorem tw11586399430416931390:True:=⟨⟩
theorem te11586399430416931390:True:=⟨⟩
theorem tw7957077828169105784:True:=⟨⟩
theorem te7957077828169105784:True:=⟨⟩
theorem tw8943991007957972943:True:=⟨⟩
theorem te8943991007957972943:True:=⟨⟩
theorem tw15648032672111846105:True:=⟨⟩
theorem te15648032672111846105:True:=⟨⟩
theorem tw16707381690046032073:True:=⟨⟩
theorem te16707381690046032073:True:=⟨⟩
theorem tw6123916913271252024:True:=⟨⟩
theorem te6123916913271252024:True:=⟨⟩
theorem tw8246309485150155261:True:=⟨⟩
theorem te8246309485150155261:True:=⟨⟩
theorem tw8037703876008397360:True:=⟨⟩
theorem te8037703876008397360:True:=⟨⟩
theorem tw1661080347842751607:True:=⟨⟩
theorem te1661080347842751607:True:=⟨⟩
theorem tw1730426572732064570:True:=⟨⟩
theorem te1730426572732064570:True:=⟨⟩
theorem tw11775057066539637045:True:=⟨⟩
theorem te11775057066539637045:True:=⟨⟩
theorem tw17536923183645476187:True:=⟨⟩
theorem te17536923183645476187:True:=⟨⟩
theorem tw11192913207687388598:True:=⟨⟩
theorem te11192913207687388598:True:=⟨⟩
theorem tw9002625702747827881:True:=⟨⟩
theorem te9002625702747827881:True:=⟨⟩
theorem tw15726804919557408494:True:=⟨⟩
theorem te15726804919557408494:True:=⟨⟩
theorem tw2328319089012280703:True:=⟨⟩
theorem te2328319089012280703:True:=⟨⟩
theorem tw6865603007427541887:True:=⟨⟩
theorem te6865603007427541887:True:=⟨⟩
theorem tw11298752955105534610:True:=⟨⟩
theorem te11298752955105534610:True:=⟨⟩
theorem tw16364179092844215409:True:=⟨⟩
theorem te16364179092844215409:True:=⟨⟩
end PySem.W.Fast
open PySem PySem.W PyProof.Rows
set_option maxRecDepth 100000 in
set_option maxHeartbeats 0 in
theorem PySem.Challenge.cw_commonform_k42_widest_that_doubles_holds : PySem.Challenge.rw_commonform_k42_widest_that_doubles.Holds := by
  w_on; o_law; k_head; (case hw => w_witness2)
  k_fill
  refine Law.walk (l := PySem.Challenge.rw_commonform_k42_widest_that_doubles) rfl rfl (fun w h Y => PySem.W.kIn_of Y) ?F
  case F =>
    intro w mg fa h KX G hmg
    refine' Law.all_mk KX G hmg ?ka0 ?kb0 ?kc0 ?kd0 ?ke0 ?kf0 ?kg0 ?kh0_0 ?kh0_1 ?a0 ?l0 ?c0 ?k0 ?a1 ?l1 ?c1 ?k1 ?a2 ?l2 ?c2 ?k2 ?a3 ?l3 ?c3 ?k3 ?a4 ?l4 ?c4 ?k4 ?a5 ?l5 ?c5 ?k5 ?a6 ?l6 ?c6 ?k6 ?a7 ?l7 ?c7 ?k7 ?a8 ?l8 ?c8 ?k8 ?a9 ?l9 ?c9 ?k9 ?a10 ?l10 ?c10 ?k10 ?a11 ?l11 ?c11 ?k11 ?a12 ?l12 ?c12 ?k12 ?a13 ?l13 ?c13 ?k13 ?a14 ?l14 ?c14 ?k14 ?a15 ?l15 ?c15 ?k15 ?a16 ?l16 ?c16 ?k16 ?a17 ?l17 ?c17 ?k17 ?a18 ?l18 ?c18 ?k18 ?a19 ?l19 ?c19 ?k19 ?a20 ?l20 ?c20 ?k20 ?a21 ?l21 ?c21 ?k21 ?a22 ?l22 ?c22 ?k22 ?a23 ?l23 ?c23 ?k23 ?a24 ?l24 ?c24 ?k24 ?a25 ?l25 ?c25 ?k25 ?a26 ?l26 ?c26 ?k26 ?a27 ?l27 ?c27 ?k27 ?a28 ?l28 ?c28 ?k28 ?a29 ?l29 ?c29 ?k29 ?a30 ?l30 ?c30 ?k30 ?a31 ?l31 ?c31 ?k31 ?a32 ?l32 ?c32 ?k32 ?a33 ?i33 ?l33 ?c33 ?k33 ?a34 ?i34 ?l34 ?c34 ?k34 ?a35 ?i35 ?l35 ?c35 ?k35 ?a36 ?i36 ?l36 ?c36 ?k36 ?a37 ?i37 ?l37 ?c37 ?k37 ?a38 ?i38 ?l38 ?c38 ?k38 ?a39 ?i39 ?l39 ?c39 ?k39 ?z0 ?z1 ?z2 ?z3 ?z4 ?z5 ?z6 ?z7 ?z8 ?z9 ?z10 ?y0 ?y1 ?q0 ?e0 ?q1 ?e1 ?q2 ?e2 ?kt ?ia ?ve ?fc ?fg ?fga
    (case ka0 => k_is)
    (case kb0 => k_is)
    (case kc0 => k_is)
    (case kd0 => k_is)
    (case ke0 => k_is)
    (case kf0 => k_is)
    (case kg0 => k_is)
    (case kh0_0 => k_is)
    (case kh0_1 => k_is)
    (case a0 => k_is)
    (case l0 => k_is)
    (case c0 => k_is)
    (case k0 => k_is)
    (case a1 => k_is)
    (case l1 => k_is)
    (case c1 => k_is)
    (case k1 => k_is)
    (case a2 => k_is)
    (case l2 => k_is)
    (case c2 => k_is)
    (case k2 => k_is)
    (case a3 => k_is)
    (case l3 => k_is)
    (case c3 => k_is)
    (case k3 => k_is)
    (case a4 => k_is)
    (case l4 => k_is)
    (case c4 => k_is)
    (case k4 => k_is)
    (case a5 => k_is)
    (case l5 => k_is)
    (case c5 => k_is)
    (case k5 => k_is)
    (case a6 => k_is)
    (case l6 => k_is)
    (case c6 => k_is)
    (case k6 => k_is)
    (case a7 => k_is)
    (case l7 => k_is)
    (case c7 => k_is)
    (case k7 => k_is)
    (case a8 => k_is)
    (case l8 => k_is)
    (case c8 => k_is)
    (case k8 => k_is)
    (case a9 => k_is)
    (case l9 => k_is)
    (case c9 => k_is)
    (case k9 => k_is)
    (case a10 => k_is)
    (case l10 => k_is)
    (case c10 => k_is)
    (case k10 => k_is)
    (case a11 => k_is)
    (case l11 => k_is)
    (case c11 => k_is)
    (case k11 => k_is)
    (case a12 => k_is)
    (case l12 => k_is)
    (case c12 => k_is)
    (case k12 => k_is)
    (case a13 => k_is)
    (case l13 => k_is)
    (case c13 => k_is)
    (case k13 => k_is)
    (case a14 => k_is)
    (case l14 => k_is)
    (case c14 => k_is)
    (case k14 => k_is)
    (case a15 => k_is)
    (case l15 => k_is)
    (case c15 => k_is)
    (case k15 => k_is)
    (case a16 => k_is)
    (case l16 => k_is)
    (case c16 => k_is)
    (case k16 => k_is)
    (case a17 => k_is)
    (case l17 => k_is)
    (case c17 => k_is)
    (case k17 => k_is)
    (case a18 => k_is)
    (case l18 => k_is)
    (case c18 => k_is)
    (case k18 => k_is)
    (case a19 => k_is)
    (case l19 => k_is)
    (case c19 => k_is)
    (case k19 => k_is)
    (case a20 => k_is)
    (case l20 => k_is)
    (case c20 => k_is)
    (case k20 => k_is)
    (case a21 => k_is)
    (case l21 => k_is)
    (case c21 => k_is)
    (case k21 => k_is)
    (case a22 => k_is)
    (case l22 => k_is)
    (case c22 => k_is)
    (case k22 => k_is)
    (case a23 => k_is)
    (case l23 => k_is)
    (case c23 => k_is)
    (case k23 => k_is)
    (case a24 => k_is)
    (case l24 => k_is)
    (case c24 => k_is)
    (case k24 => k_is)
    (case a25 => k_is)
    (case l25 => k_is)
    (case c25 => k_is)
    (case k25 => k_is)
    (case a26 => k_is)
    (case l26 => k_is)
    (case c26 => k_is)
    (case k26 => k_is)
    (case a27 => k_is)
    (case l27 => k_is)
    (case c27 => k_is)
    (case k27 => k_is)
    (case a28 => k_is)
    (case l28 => k_is)
    (case c28 => k_is)
    (case k28 => k_is)
    (case a29 => k_is)
    (case l29 => k_is)
    (case c29 => k_is)
    (case k29 => k_is)
    (case a30 => k_is)
    (case l30 => k_is)
    (case c30 => k_is)
    (case k30 => k_is)
    (case a31 => k_is)
    (case l31 => k_is)
    (case c31 => k_is)
    (case k31 => k_is)
    (case a32 => k_is)
    (case l32 => k_is)
    (case c32 => k_is)
    (case k32 => k_is)
    (case a33 => k_is)
    (case i33 => k_is)
    (case l33 => k_is)
    (case c33 => k_is)
    (case k33 => k_is)
    (case a34 => k_is)
    (case i34 => k_is)
    (case l34 => k_is)
    (case c34 => k_is)
    (case k34 => k_is)
    (case a35 => k_is)
    (case i35 => k_is)
    (case l35 => k_is)
    (case c35 => k_is)
    (case k35 => k_is)
    (case a36 => k_is)
    (case i36 => k_is)
    (case l36 => k_is)
    (case c36 => k_is)
    (case k36 => k_is)
    (case a37 => k_is)
    (case i37 => k_is)
    (case l37 => k_is)
    (case c37 => k_is)
    (case k37 => k_is)
    (case a38 => k_is)
    (case i38 => k_is)
    (case l38 => k_is)
    (case c38 => k_is)
    (case k38 => k_is)
    (case a39 => k_is)
    (case i39 => k_is)
    (case l39 => k_is)
    (case c39 => k_is)
    (case k39 => k_is)
    (case z0 => k_is)
    (case z1 => k_is)
    (case z2 => k_is)
    (case z3 => k_is)
    (case z4 => k_is)
    (case z5 => k_is)
    (case z6 => k_is)
    (case z7 => k_is)
    (case z8 => k_is)
    (case z9 => k_is)
    (case z10 => k_is)
    (case y0 => k_is)
    (case y1 => k_is)
    (case q0 => k_is)
    (case e0 => k_exc)
    (case q1 => k_is)
    (case e1 => k_exc)
    (case q2 => k_is)
    (case e2 => k_exc)
    (case kt => rfl)
    (case ia => rfl)
    (case ve => rfl)
    (case fc => rfl)
    (case fg => rfl)
    (case fga => rfl)
