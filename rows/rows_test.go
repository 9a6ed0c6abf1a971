package rows_test

import (
	"fmt"
	"math"
	"slices"
	"strings"
	"testing"
	"unsafe"

	"chandler/api"
	"chandler/pack"
	"chandler/rows"
	"chandler/tree"
)

// text is one of so many bytes.
func text(length int) string { return strings.Repeat("x", length) }

// row is one of numbers and texts.
func row(values ...any) rows.Row {
	var r rows.Row
	for _, v := range values {
		r = append(r, value(v))
	}
	return r
}

func value(v any) rows.Value {
	switch x := v.(type) {
	case int:
		return rows.Value{N: int64(x)}
	case string:
		return rows.Value{S: x}
	}
	return v.(rows.Value)
}

// table is one of the name a, with a column of numbers for each i, and one of texts for each t.
func table(columns string, keys, index int) rows.Table {
	t := rows.Table{Name: 'a', Keys: keys, Index: index}
	for _, c := range columns {
		kind := rows.Int
		if c == 't' {
			kind = rows.Text
		}
		t.Columns = append(t.Columns, kind)
	}
	return t
}

// named is the table with another name.
func named(name byte, t rows.Table) rows.Table {
	t.Name = name
	return t
}

// tables are all that are fit, of the name a and of one to three columns.
func tables() []rows.Table {
	var all []rows.Table
	for _, columns := range []string{"i", "t", "ii", "it", "ti", "tt", "iii", "iit", "iti", "itt", "tii", "tit", "tti", "ttt"} {
		for keys := 1; keys <= len(columns); keys++ {
			for index := -1; index < len(columns); index++ {
				all = append(all, table(columns, keys, index))
			}
		}
	}
	return all
}

// unfitTables are all kinds of tables that aren't fit; a row of a number and a text has a value for each column of most of them.
func unfitTables() []rows.Table {
	var all []rows.Table
	for _, name := range []byte{0, 1, ' ', '0', 'A', 'Z', 'a' - 1, 'z' + 1, 128, 'a' + 128, 255} {
		all = append(all, named(name, table("it", 1, -1)))
	}
	for _, kind := range []rows.Kind{math.MinInt, -1, 2, 3, math.MaxInt} {
		for at := range 2 {
			t := table("it", 1, -1)
			t.Columns[at] = kind
			all = append(all, t)
		}
	}
	for _, keys := range []int{math.MinInt, -1, 0, 3, math.MaxInt} {
		all = append(all, table("it", keys, -1), table("it", keys, 0))
	}
	for _, index := range []int{math.MinInt, -2, 2, 3, math.MaxInt} {
		all = append(all, table("it", 1, index), table("it", 2, index))
	}
	return append(all, rows.Table{}, rows.Table{Name: 'a', Index: -1}, table("", 0, -1), table("", 1, -1), table("", 1, 0), table("", -1, 0))
}

// combined are all rows with one of these values in each column, numbers or texts as the column's kind.
func combined(t rows.Table, numbers, texts []any) []rows.Row {
	all := []rows.Row{{}}
	for _, kind := range t.Columns {
		values := numbers
		if kind == rows.Text {
			values = texts
		}
		var longer []rows.Row
		for _, r := range all {
			for _, v := range values {
				longer = append(longer, append(slices.Clone(r), value(v)))
			}
		}
		all = longer
	}
	return all
}

// keyForm is what the chapter's words say of it.
func keyForm(kind rows.Kind, v rows.Value) string {
	if kind == rows.Int {
		return pack.Ordered(v.N)
	}
	return v.S + "\x00"
}

// byWords are the pairs of a row as the chapter's words say them (the index's one has no key, if there is none), and whether the row fits a table that is fit.
func byWords(t rows.Table, r rows.Row) (own, index api.Pair, fits bool) {
	if len(r) != len(t.Columns) {
		return own, index, false
	}
	own.Key, index.Key = string(rune(t.Name))+"\x00", ""
	if t.Index >= 0 {
		index.Key = string(rune(t.Name)) + "\x01" + keyForm(t.Columns[t.Index], r[t.Index])
	}
	fits = true
	for i, kind := range t.Columns {
		v := r[i]
		fits = fits && (kind == rows.Int && v.S == "" || kind == rows.Text && v.N == 0)
		fits = fits && ((i >= t.Keys && i != t.Index) || !strings.Contains(v.S, "\x00"))
		switch {
		case i < t.Keys:
			own.Key += keyForm(kind, v)
			if t.Index >= 0 {
				index.Key += keyForm(kind, v)
			}
		case kind == rows.Int:
			own.Value += pack.Int(v.N)
		default:
			own.Value += pack.Text(v.S)
		}
	}
	return own, index, fits && len(own.Key) <= 48 && len(index.Key) <= 48 && len(own.Value) <= 200
}

// brief tells a value, or how it begins.
func brief(v any) string {
	s := fmt.Sprint(v)
	return s[:min(len(s), 200)]
}

func wantEncoded(t *testing.T, x rows.Table, r rows.Row, want api.Pair) {
	t.Helper()
	if p, e := rows.Encode(x, r); p != want || e != api.OK {
		t.Errorf("Encode(%s, %s) = %q, %d, want %q", brief(x), brief(r), p, e, want)
	}
	if got, e := rows.Decode(x, want); !slices.Equal(got, r) || e != api.OK {
		t.Errorf("Decode(%s, %q) = %v, %d, want %s", brief(x), want, got, e, brief(r))
	}
}

func wantNotEncoded(t *testing.T, x rows.Table, r rows.Row) {
	t.Helper()
	if p, e := rows.Encode(x, r); p != (api.Pair{}) || e != api.ErrRow {
		t.Errorf("Encode(%s, %s) = %q, %d, want none, %d", brief(x), brief(r), p, e, api.ErrRow)
	}
}

func wantNotDecoded(t *testing.T, x rows.Table, p api.Pair) {
	t.Helper()
	if r, e := rows.Decode(x, p); len(r) != 0 || e != api.ErrRow {
		t.Errorf("Decode(%s, %.99q) = %v, %d, want none, %d", brief(x), p, r, e, api.ErrRow)
	}
}

// TestEncode holds P6.1 by pairs that are written out.
func TestEncode(t *testing.T) {
	least, greatest := rows.Value{N: math.MinInt64}, rows.Value{N: math.MaxInt64}
	zeros, ones := strings.Repeat("\x00", 8), strings.Repeat("\xff", 8)
	for _, c := range []struct {
		t          rows.Table
		r          rows.Row
		key, value string
	}{
		{table("it", 1, 1), row(5, "x"), "a\x00\x80\x00\x00\x00\x00\x00\x00\x05", "\x01x"}, // the chapter's example
		{table("i", 1, -1), row(0), "a\x00\x80" + zeros[1:], ""},
		{table("i", 1, 0), row(-1), "a\x00\x7f" + ones[1:], ""},
		{table("i", 1, -1), row(least), "a\x00" + zeros, ""},
		{table("i", 1, 0), row(greatest), "a\x00" + ones, ""},
		{named('z', table("t", 1, 0)), row(""), "z\x00\x00", ""},
		{named('m', table("t", 1, -1)), row("\xff\x01"), "m\x00\xff\x01\x00", ""},
		{table("tt", 2, 1), row("", ""), "a\x00\x00\x00", ""},
		{table("tt", 2, -1), row("a", "b"), "a\x00a\x00b\x00", ""},
		{table("tt", 1, -1), row("a", "b"), "a\x00a\x00", "\x01b"},
		{table("tt", 1, 0), row("a", "\x00"), "a\x00a\x00", "\x01\x00"},
		{table("tttt", 1, 2), row("", "\x00", "", "a\x00b"), "a\x00\x00", "\x01\x00\x00\x03a\x00b"},
		{table("tit", 3, 1), row("a", 258, "b"), "a\x00a\x00\x80\x00\x00\x00\x00\x00\x01\x02b\x00", ""},
		{table("iiii", 1, -1), row(1, 0, -1, 150), "a\x00\x80\x00\x00\x00\x00\x00\x00\x01", "\x00\x01\xac\x02"},
		{table("tii", 1, 1), row("k", least, greatest), "a\x00k\x00", strings.Repeat("\xff", 9) + "\x01\xfe" + ones + "\x01"},
		{table("tiit", 2, 1), row("k", -2, -64, text(130)), "a\x00k\x00\x7f" + ones[1:7] + "\xfe", "\x7f\x82\x01" + text(130)},
	} {
		wantEncoded(t, c.t, c.r, api.Pair{Key: c.key, Value: c.value})
	}
}

// TestEncodeByWords holds P6.1 by the chapter's words, at tables and rows of all kinds.
func TestEncodeByWords(t *testing.T) {
	numbers := []any{rows.Value{N: math.MinInt64}, -70, 0, rows.Value{N: math.MaxInt64}, rows.Value{S: "x"}}
	texts := []any{"", "a", "b\x00", text(14), text(40), text(197), rows.Value{N: 1}, rows.Value{N: -1, S: "a"}}
	fitting, others := 0, 0
	for _, x := range tables() {
		for _, r := range combined(x, numbers, texts) {
			own, _, fits := byWords(x, r)
			if fits {
				fitting++
				wantEncoded(t, x, r, own)
			} else {
				others++
				wantNotEncoded(t, x, r)
			}
		}
	}
	if fitting < 1000 || others < 1000 {
		t.Errorf("%d rows fit, %d don't", fitting, others)
	}
}

// TestValues holds P6.1 of rows with too few or too many values, and of values that aren't as their columns'.
func TestValues(t *testing.T) {
	for _, x := range tables() {
		all := combined(x, []any{1}, []any{"a"})[0]
		wantNotEncoded(t, x, nil)
		wantNotEncoded(t, x, rows.Row{})
		for n := range all {
			wantNotEncoded(t, x, all[:n])
		}
		for _, v := range []rows.Value{{}, {N: 1}, {S: "a"}} {
			wantNotEncoded(t, x, append(slices.Clone(all), v))
		}
		for i, kind := range x.Columns {
			r := slices.Clone(all)
			if r[i] = value("a"); kind == rows.Text {
				r[i] = value(1)
			}
			wantNotEncoded(t, x, r)
			r[i] = rows.Value{N: 1, S: "a"}
			wantNotEncoded(t, x, r)
			r[i] = rows.Value{N: math.MinInt64, S: "\x00"}
			wantNotEncoded(t, x, r)
		}
	}
}

// TestZeroBytes holds P6.1 of texts with zero bytes: none in a key, nor in the index's column, any elsewhere.
func TestZeroBytes(t *testing.T) {
	for _, zero := range []string{"\x00", "a\x00", "\x00a", "a\x00b", "\x00\x00\x00"} {
		for _, index := range []int{-1, 0, 1} {
			wantNotEncoded(t, table("tttt", 2, index), row(zero, "b", "c", "d"))
			wantNotEncoded(t, table("tttt", 2, index), row("a", zero, "c", "d"))
			own, _, _ := byWords(table("tttt", 2, -1), row("a", "b", zero, zero))
			wantEncoded(t, table("tttt", 2, index), row("a", "b", zero, zero), own)
		}
		own, _, _ := byWords(table("tttt", 2, -1), row("a", "b", zero, "d"))
		wantNotEncoded(t, table("tttt", 2, 2), row("a", "b", zero, "d"))
		wantNotDecoded(t, table("tttt", 2, 2), own)
		wantEncoded(t, table("tttt", 2, 3), row("a", "b", zero, "d"), own)
	}
}

// TestLimits holds P6.1 of keys and values at their limits and one byte over.
func TestLimits(t *testing.T) {
	long := func(columns string, keys, index int, values ...any) (rows.Table, rows.Row) {
		return table(columns, keys, index), row(values...)
	}
	for i, c := range []struct {
		of   func(length int) (rows.Table, rows.Row)
		most int
	}{
		{func(n int) (rows.Table, rows.Row) { return long("t", 1, -1, text(n)) }, 45},
		{func(n int) (rows.Table, rows.Row) { return long("t", 1, 0, text(n)) }, 22}, // twice in the index's key: 2 + 2 * (22 + 1) = 48
		{func(n int) (rows.Table, rows.Row) { return long("ti", 1, -1, text(n), 7) }, 45},
		{func(n int) (rows.Table, rows.Row) { return long("ti", 1, 1, text(n), 7) }, 37},
		{func(n int) (rows.Table, rows.Row) { return long("ti", 2, -1, text(n), 7) }, 37},
		{func(n int) (rows.Table, rows.Row) { return long("ti", 2, 1, text(n), 7) }, 29},
		{func(n int) (rows.Table, rows.Row) { return long("it", 1, 1, 7, text(n)) }, 37},
		{func(n int) (rows.Table, rows.Row) { return long("it", 1, 0, 7, text(n)) }, 198}, // its length takes two bytes
		{func(n int) (rows.Table, rows.Row) { return long("it", 1, -1, 7, text(n)) }, 198},
		{func(n int) (rows.Table, rows.Row) { return long("tt", 1, 1, text(n), text(n)) }, 22},
		{func(n int) (rows.Table, rows.Row) { return long("ttt", 1, 1, "k", "", text(n)) }, 197},
		{func(n int) (rows.Table, rows.Row) { return long("ttt", 1, -1, "k", text(100), text(n)) }, 98},
		{func(n int) (rows.Table, rows.Row) { return long("tti", 1, -1, "k", text(n), math.MinInt64) }, 188},
		{func(n int) (rows.Table, rows.Row) { // as many keys of one byte
			return table(strings.Repeat("t", n+1), n+1, -1), make(rows.Row, n+1)
		}, 45},
		{func(n int) (rows.Table, rows.Row) {
			return table(strings.Repeat("i", n+1), n+1, -1), make(rows.Row, n+1)
		}, 4},
		{func(n int) (rows.Table, rows.Row) {
			return table(strings.Repeat("i", n+1), n+1, n), make(rows.Row, n+1)
		}, 3},
		{func(n int) (rows.Table, rows.Row) { return table(strings.Repeat("i", n+1), 1, n), make(rows.Row, n+1) }, 200},
		{func(n int) (rows.Table, rows.Row) { return table(strings.Repeat("t", n+1), 1, -1), make(rows.Row, n+1) }, 200},
	} {
		for _, n := range []int{c.most - 1, c.most} {
			x, r := c.of(n)
			own, _, fits := byWords(x, r)
			if !fits {
				t.Errorf("%d: the row of length %d is to fit", i, n)
			}
			wantEncoded(t, x, r, own)
		}
		for _, n := range []int{c.most + 1, c.most + 2, c.most + 1000} {
			x, r := c.of(n)
			own, _, _ := byWords(x, r)
			wantNotEncoded(t, x, r)
			wantNotDecoded(t, x, own)
		}
	}
	wantNotEncoded(t, table("t", 1, -1), row(text(1<<20)))
	wantNotEncoded(t, table("it", 1, -1), row(1, text(1<<20)))
	many := make(rows.Row, 1<<20)
	wantNotEncoded(t, table(strings.Repeat("t", len(many)), 1, 0), many)
	wantNotEncoded(t, table(strings.Repeat("i", len(many)), len(many), -1), many)
}

// TestUnfitTables holds P6.1 of tables that aren't fit, whatever the row and the pair.
func TestUnfitTables(t *testing.T) {
	for _, x := range unfitTables() {
		for _, r := range []rows.Row{nil, {}, row(1), row(1, "a"), row("a", 1), row(1, 1), row("a", "a"), row(0, ""), row(1, "a", 1)} {
			wantNotEncoded(t, x, r)
		}
		for _, key := range []string{"", "a", "a\x00", string([]byte{x.Name, 0}), string([]byte{x.Name, 0}) + pack.Ordered(1), string([]byte{x.Name, 0}) + pack.Ordered(1) + "a\x00"} {
			for _, s := range []string{"", "\x01a", "\x02\x01a"} {
				wantNotDecoded(t, x, api.Pair{Key: key, Value: s})
			}
		}
	}
	for name := range 256 {
		x := named(byte(name), table("it", 1, -1))
		key := string([]byte{byte(name), 0}) + pack.Ordered(1)
		if name < 'a' || name > 'z' {
			wantNotEncoded(t, x, row(1, "a"))
			wantNotDecoded(t, x, api.Pair{Key: key, Value: "\x01a"})
		} else {
			wantEncoded(t, x, row(1, "a"), api.Pair{Key: key, Value: "\x01a"})
		}
	}
}

// TestDecodeOthers holds P6.1 of pairs that are nearly a row's.
func TestDecodeOthers(t *testing.T) {
	x := table("itit", 2, 3)
	p, e := rows.Encode(x, row(7, "key", 300, "text"))
	if e != api.OK {
		t.Fatalf("Encode: %d", e)
	}
	for n := range p.Key {
		wantNotDecoded(t, x, api.Pair{Key: p.Key[:n], Value: p.Value})
		wantNotDecoded(t, x, api.Pair{Key: p.Key[n+1:], Value: p.Value})
	}
	for n := range p.Value {
		wantNotDecoded(t, x, api.Pair{Key: p.Key, Value: p.Value[:n]})
		if n > 0 { // without its first digit alone 300 is another number
			wantNotDecoded(t, x, api.Pair{Key: p.Key, Value: p.Value[n+1:]})
		}
	}
	for _, more := range []string{"\x00", "\x01", "a", "\x01a", text(30), text(1 << 20)} {
		wantNotDecoded(t, x, api.Pair{Key: p.Key + more, Value: p.Value})
		wantNotDecoded(t, x, api.Pair{Key: p.Key, Value: p.Value + more})
	}
	for _, begin := range []string{"a\x01", "b\x00", "A\x00", "\x00\x00", "\x00a"} {
		wantNotDecoded(t, x, api.Pair{Key: begin + p.Key[2:], Value: p.Value})
	}
	for _, s := range []string{
		"", "\x00\x00\x00", "\xd8\x84\x00\x04text", "\xd8\x04\x84\x00text", "\xd8\x04\x05text", "\xd8\x04\x03text",
		"\xd8\x04\x04te\x00t", "\xd8\x04\x04\x00ext", "\x04text\xd8\x04", strings.Repeat("\xff", 9) + "\x02\x00", strings.Repeat("\x80", 200),
		"\x00\x2a" + text(42),
	} {
		wantNotDecoded(t, x, api.Pair{Key: p.Key, Value: s})
	}
	_, index, _ := byWords(x, row(7, "key", 300, "text"))
	wantNotDecoded(t, x, index)
	wantNotDecoded(t, x, api.Pair{Key: index.Key, Value: p.Value})
	wantNotDecoded(t, x, api.Pair{})
}

// textsOf are all texts of up to so many of these bytes.
func textsOf(bytes string, most int) []string {
	all, longest := []string{""}, []string{""}
	for range most {
		var longer []string
		for _, s := range longest {
			for i := range len(bytes) {
				longer = append(longer, s+bytes[i:i+1])
			}
		}
		longest = longer
		all = append(all, longer...)
	}
	return all
}

// TestDecodeAll holds P6.1 of Decode at all short pairs of texts: each is decoded just if it is the pair of one of the rows.
func TestDecodeAll(t *testing.T) {
	short := textsOf("\x00\x01\x02a", 3)
	var texts []any
	for _, s := range textsOf("\x00\x01\x02a", 2) {
		texts = append(texts, s)
	}
	for _, x := range []rows.Table{table("t", 1, 0), table("tt", 1, -1), table("tt", 1, 0), table("tt", 1, 1), table("tt", 2, 0), table("tt", 2, 1)} {
		known := map[api.Pair]rows.Row{}
		for _, r := range combined(x, nil, texts) {
			if own, _, fits := byWords(x, r); fits {
				known[own] = r
			}
		}
		decoded := 0
		for _, key := range short {
			for _, s := range short {
				p := api.Pair{Key: "a\x00" + key, Value: s}
				if r, ok := known[p]; ok {
					decoded++
					wantEncoded(t, x, r, p)
				} else {
					wantNotDecoded(t, x, p)
				}
			}
		}
		if decoded == 0 {
			t.Errorf("no pair is one of %v", x)
		}
	}
}

// TestDecodeNumbers holds P6.1 of Decode at all short values of a number, and keys of all lengths.
func TestDecodeNumbers(t *testing.T) {
	x := table("ii", 1, -1)
	for _, s := range textsOf("\x00\x01\x02\x7f\x80\x81\xff", 4) {
		p := api.Pair{Key: "a\x00" + pack.Ordered(-7), Value: s}
		if n, behind, e := pack.ReadInt(s, 0); e == api.OK && behind == len(s) {
			wantEncoded(t, x, rows.Row{{N: -7}, {N: n}}, p)
		} else {
			wantNotDecoded(t, x, p)
		}
	}
	for _, b := range []string{"\x00", "\x01", "\x7f", "\x80", "\xff"} {
		for n := range 60 {
			if n != 8 {
				wantNotDecoded(t, x, api.Pair{Key: "a\x00" + strings.Repeat(b, n), Value: "\x00"})
			}
		}
	}
}

// TestNewMemory holds that texts and lists that are handed in are not changed, nor what lies behind them, and that those that are answered are new.
func TestNewMemory(t *testing.T) {
	x := table("ttt", 1, 1)
	columns := append(slices.Clone(x.Columns), 7, 7)
	x.Columns = columns[:3]
	fresh := append(row("the key", "an index", "a text"), row(8, "\x00")...)
	old := append(row("the key", "another", "a text"), row(9)...)
	columnsBefore, freshBefore, oldBefore := slices.Clone(columns), slices.Clone(fresh), slices.Clone(old)
	p, _ := rows.Encode(x, fresh[:3])
	again, _ := rows.Encode(x, fresh[:3])
	one, _ := rows.Decode(x, p)
	two, _ := rows.Decode(x, p)
	changes, _ := rows.Changes(x, old[:3], fresh[:3])
	if len(one) != 3 || len(two) != 3 || len(changes) != 3 {
		t.Fatalf("Decode = %v, %v, Changes = %+v", one, two, changes)
	}
	if !slices.Equal(columns, columnsBefore) || !slices.Equal(fresh, freshBefore) || !slices.Equal(old, oldBefore) {
		t.Errorf("what was handed in was changed: %v, %v, %v", columns, fresh, old)
	}
	answered := []string{p.Key, p.Value, again.Key, again.Value}
	for _, c := range changes {
		answered = append(answered, c.Key, c.Value)
	}
	for _, v := range slices.Concat(one, two) {
		answered = append(answered, v.S)
	}
	met := map[*byte]bool{}
	for _, v := range slices.Concat(fresh, old) {
		met[unsafe.StringData(v.S)] = true
	}
	for i, s := range answered {
		if s != "" && met[unsafe.StringData(s)] {
			t.Errorf("the text %d, %q, shares its memory with another one", i, s)
		}
		met[unsafe.StringData(s)] = true
	}
	for i := range one[:cap(one)] {
		one[:cap(one)][i] = rows.Value{N: 1, S: "overwritten"}
	}
	if !slices.Equal(two, fresh[:3]) {
		t.Errorf("two answers share memory: %v", two)
	}
}

// TestNoHold holds P1, and the zero results beside an error, at tables, rows, pairs and values of all kinds.
func TestNoHold(t *testing.T) {
	numbers, texts := []any{math.MinInt, 3, rows.Value{S: "x"}}, []any{"", "a\x00", "abc", rows.Value{N: 2}}
	all := []rows.Row{nil, {}, make(rows.Row, 300)}
	for _, columns := range []string{"i", "t", "it", "ti", "tit"} {
		all = append(all, combined(table(columns, 1, -1), numbers, texts)...)
	}
	var pairs []api.Pair
	for _, s := range []string{"", "a", "a\x00", "a\x01", "a\x00\x00", "a\x00" + pack.Ordered(3), "a\x00abc\x00", "a\x01abc\x00abc\x00", text(60)} {
		pairs = append(pairs, api.Pair{Key: s}, api.Pair{Key: s, Value: s}, api.Pair{Key: s, Value: "\x00"}, api.Pair{Key: s, Value: "\x03abc"})
	}
	some := newTree(t)
	for _, p := range pairs {
		some.Apply(tree.Change{Key: p.Key, Value: p.Value})
	}
	for _, x := range append(append(tables(), unfitTables()...), table(strings.Repeat("it", 1000), 1999, 1999)) {
		for _, p := range pairs {
			if r, e := rows.Decode(x, p); e != api.OK && len(r) != 0 {
				t.Errorf("Decode = %v beside %d", r, e)
			}
		}
		for i, r := range all {
			if p, e := rows.Encode(x, r); e != api.OK && p != (api.Pair{}) {
				t.Errorf("Encode = %q beside %d", p, e)
			}
			if c, e := rows.Changes(x, r, all[i*7%len(all)]); e != api.OK && len(c) != 0 {
				t.Errorf("Changes = %+v beside %d", c, e)
			}
		}
		for _, held := range []*tree.Tree{nil, newTree(t), some} {
			if r, e := rows.All(held, x); e != api.OK && len(r) != 0 {
				t.Errorf("All = %v beside %d", r, e)
			}
			for _, v := range []rows.Value{{}, {N: 3}, {N: math.MinInt64}, {S: "abc"}, {S: "\x00"}, {S: text(1 << 10)}, {N: 3, S: "abc"}} {
				if r, e := rows.Find(held, x, v); e != api.OK && len(r) != 0 {
					t.Errorf("Find = %v beside %d", r, e)
				}
			}
		}
	}
}
