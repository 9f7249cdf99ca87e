package defn

import (
	"reflect"
	"slices"
	"strings"
	"testing"

	"switchyard/api"
	"switchyard/lex"
)

// anyDef fills a choreography by chance with what it may have.
func anyDef(t *testing.T, r *dice) api.Def {
	var d api.Def
	fill(t, r, "", reflect.ValueOf(&d).Elem())
	return d
}

// fill fills a part of a choreography, by the name of its field.
func fill(t *testing.T, r *dice, field string, v reflect.Value) {
	names := strings.Fields("a b c start final in on int true len x_1 Z")
	trees := strings.Fields(`a 'x "\x00" 17 (a||b)&&c a+b*(c-1) 1<a !a msg.for==[1,-2] at(push([],1),len("x")) set`)
	switch v.Kind() {
	case reflect.Struct:
		if v.Type() == reflect.TypeFor[api.Expr]() {
			if field == "To" || field == "By" || r.below(2) == 0 {
				v.Set(reflect.ValueOf(tree(t, trees[r.below(len(trees))])))
			}
			return
		}
		for i := range v.NumField() {
			fill(t, r, v.Type().Field(i).Name, v.Field(i))
		}
		if a, ok := v.Addr().Interface().(*api.Attr); ok {
			*a = api.Attr{Name: a.Name, Kind: api.Int + r.below(5)}
			if a.Kind == api.Sym {
				a.Enum = []string{"a", "color", "start", "len"}[r.below(4)]
			}
		}
	case reflect.Slice:
		n := r.below(4)
		if field == "Syms" || field == "By" {
			n++
		}
		v.Set(reflect.MakeSlice(v.Type(), n, n+r.below(2)))
		for i := range n {
			fill(t, r, field, v.Index(i))
		}
	case reflect.String:
		v.SetString(names[r.below(len(names))])
		if field == "On" && r.below(2) == 0 {
			v.SetString("")
		}
	case reflect.Bool:
		v.SetBool(r.below(2) == 0)
	case reflect.Int, reflect.Int64:
		v.SetInt([]int64{0, 0, 1, 2, 1000, 1<<31 - 1}[r.below(6)])
	}
}

// TestAgain: the text of a choreography declares it.
func TestAgain(t *testing.T) {
	r := new(dice(11))
	count := 0
	for range 1500 {
		d := anyDef(t, r)
		s, bad := Print(d)
		if bad == api.ErrLong {
			continue
		}
		count++
		want(t, "error", bad, api.OK)
		parses(t, s, d)
		spaced(t, s)
	}
	want(t, "most have a text", count > 1000, true)
}

// spaced checks the spaces and lines of a text, as far as its tokens tell
// them: those of expressions do not.
func spaced(t *testing.T, s string) {
	t.Helper()
	want(t, "lines end", s == "" || strings.HasSuffix(s, "\n"), true)
	for _, line := range strings.Split(strings.TrimSuffix(s, "\n"), "\n") {
		begin := strings.TrimPrefix(line, "\t")
		l, _, bad := lex.Scan(begin)
		want(t, "error of Scan", bad, api.OK)
		if len(l) == 1 {
			continue // an empty text
		}
		inside := slices.Contains(strings.Fields("attr key state in out move sees may"), l[0].Text) && l[0].Kind == api.TokName
		want(t, "a byte 9 ahead of "+begin, strings.HasPrefix(line, "\t"), inside)
		want(t, "the end of "+line, slices.Contains([]string{";", "{", "}"}, l[len(l)-2].Text), true)
		if !strings.ContainsAny(begin, `[!"-*=<|&'+`) || l[0].Text == "enum" {
			want(t, "spaces", begin, respaced(l))
		}
	}
}

// respaced is the text of tokens with the spaces that it is to have.
func respaced(l []api.Token) string {
	var out strings.Builder
	for i, token := range l[:len(l)-1] {
		sign := ""
		if token.Kind == api.TokSign {
			sign = token.Text
		}
		before := ""
		if i > 0 && l[i-1].Kind == api.TokSign {
			before = l[i-1].Text
		}
		none := i == 0 || strings.Contains(" , ; : ) . .. ( ", " "+sign+" ") && sign != "" || strings.Contains(" . .. ( ", " "+before+" ") && before != ""
		if !none {
			out.WriteByte(' ')
		}
		out.WriteString(lex.Spell(token))
	}
	return out.String()
}

// TestWords: names like the words of the grammar, wherever a name may stand.
func TestWords(t *testing.T) {
	for _, word := range strings.Fields("enum artifact channel milestone role attr key state start final in out move on after when set send by for spawn carry sees may where int bool text list names range def expr") {
		s := strings.ReplaceAll(`enum X { X, X }
artifact X {
	attr X int;
	attr Y X;
	key X, X;
	state X start;
	state X start final;
	state X final;
	state X;
	in X 0..1;
	out X 0..1;
	move X: X -> X;
	move X: X -> X on X after 1 when X set X = X set X = X send X send X;
	move X: X -> X when X;
	move X: X -> X when X send X;
	move X: X -> X set X = 'X send X;
}
channel X: X.X -> X.X by X for 0..1;
channel X: X.X -> X.X by X, X, msg.X for 0..1 spawn carry X, X;
milestone X: X X -> X by X for 0..1;
milestone X: X X -> X by X for 0..1 when X;
role X {
	sees X;
	sees X(X);
	sees X(X, X) in X, X where X;
	sees X in X;
	sees X where X;
	may X;
	may X.X;
}
`, "X", word)
		d, _, bad := Parse(s)
		want(t, "error of names "+word, bad, api.OK)
		want(t, "names "+word, d.Types[0].Moves[1].On+d.Channels[1].ToPort+d.Groups[0].By+d.Roles[0].Sees[2].States[1], strings.Repeat(word, 4))
		both(t, d, s)
	}
}

// TestScan: what layer 7 refuses, and what stands ahead of it.
func TestScan(t *testing.T) {
	for _, s := range []string{"^#", "enum e { a } ^#", "enum e { a ^@ }", "enum ^e23456789012345678901234x { a }", "artifact a { in p ^00..1; }", "enum e { ^' }", "enum e { ^'1 }", "^\"", "^\"\\q\"", "artifact a { in p 0..^9223372036854775808; }", "^&", "enum e { a } / / ^#", "^\x00", "enum e { a }^\xff"} {
		fails(t, s, api.ErrToken)
	}
	// A place where Scan refuses goes ahead of all others.
	fails(t, "enum { } ^#", api.ErrToken)
	fails(t, "x ^01", api.ErrToken)
	fails(t, "role r { may a. ; } // #\n ^#", api.ErrToken)
	fails(t, "artifact a { move m: b -> c when "+row(201)+"; } ^#", api.ErrToken)
	fails(t, "^x // #", api.ErrSyntax)
	const short = "enum e { a }"
	for _, blank := range []string{" ", "\n", "//"} {
		full := short + strings.Repeat(blank, api.MaxSource)
		parses(t, full[:api.MaxSource], api.Def{Enums: []api.Enum{{Name: "e", Syms: []string{"a"}}}})
		wrong(t, full[:api.MaxSource+1], 0, api.ErrLong)
		wrong(t, full+full, 0, api.ErrLong)
	}
	wrong(t, strings.Repeat("#", api.MaxSource+1), 0, api.ErrLong)
	wrong(t, strings.Repeat("x", api.MaxSource+1), 0, api.ErrLong)
	wrong(t, strings.Repeat("x ", api.MaxSource/2), 0, api.ErrSyntax)
	wrong(t, "enum e {"+strings.Repeat(" ", api.MaxSource-8), api.MaxSource, api.ErrSyntax)
}

// TestMany: no number of declarations and parts is too great for this layer.
func TestMany(t *testing.T) {
	many := func(s string, n int) string { return strings.Repeat(s, n) }
	d, _, bad := Parse(many("enum e{a}", 888))
	want(t, "error", bad, api.OK)
	want(t, "enums", len(d.Enums), 888)
	_, bad = Print(d)
	want(t, "its text is longer", bad, api.ErrLong)
	d, _, bad = Parse("artifact a{" + many("key k,l;state s;in p 0..1;", 100) + "move m:s->s set a=1" + many(" set b=2", 100) + many(" send p", 100) + ";}")
	want(t, "error", bad, api.OK)
	one := d.Types[0]
	want(t, "parts", [5]int{len(one.Key), len(one.States), len(one.Ports), len(one.Moves[0].Sets), len(one.Moves[0].Sends)}, [5]int{200, 100, 100, 101, 100})
	again(t, d)
	d, _, bad = Parse("channel c:a.b->d.e by 1" + many(",x", 500) + " for 0..1 carry a" + many(",b", 500) + ";role r{sees a(b" + many(",c", 300) + ")in d" + many(",e", 300) + ";" + many("may a.b;", 200) + "}")
	want(t, "error", bad, api.OK)
	role := d.Roles[0]
	want(t, "parts", [5]int{len(d.Channels[0].By), len(d.Channels[0].Carry), len(role.Sees[0].Attrs), len(role.Sees[0].States), len(role.May)}, [5]int{501, 501, 301, 301, 200})
	again(t, d)
}

// lists calls visit with each list of a choreography.
func lists(v reflect.Value, visit func(list reflect.Value)) {
	switch v.Kind() {
	case reflect.Struct:
		for i := range v.NumField() {
			lists(v.Field(i), visit)
		}
	case reflect.Slice:
		visit(v)
		for i := range v.Len() {
			lists(v.Index(i), visit)
		}
	}
}

// TestMemory: no call changes what another one answered, nor what it is given.
func TestMemory(t *testing.T) {
	d := full(t)
	text, bad := Print(d)
	want(t, "error", bad, api.OK)
	want(t, "the argument stays", same(d, full(t)), true)
	first, _, _ := Parse(text)
	second, _, _ := Parse(text)
	lists(reflect.ValueOf(&first).Elem(), func(l reflect.Value) {
		all := l.Slice(0, l.Cap())
		for i := l.Len(); i < all.Len(); i++ { // what is spare is nobody else's
			fill(t, new(dice(1)), "By", all.Index(i))
		}
	})
	want(t, "spare memory", same(first, d), true)
	lists(reflect.ValueOf(&first).Elem(), func(l reflect.Value) { l.SetZero() })
	want(t, "another answer", same(second, d), true)
	third, _, _ := Parse(text)
	want(t, "a later answer", same(third, d), true)
	later, _ := Print(third)
	want(t, "a later text", later, text)
}
