package rows_test

import (
	"fmt"
	"maps"
	"math"
	"slices"
	"testing"

	"chandler/api"
	"chandler/pack"
	"chandler/rows"
	"chandler/sector"
	"chandler/tree"
)

// newTree is one without keys on a disk of its own.
func newTree(t *testing.T) *tree.Tree {
	t.Helper()
	x, e := tree.Open(sector.New(2000), 200)
	if e != api.OK {
		t.Fatalf("tree.Open: %d", e)
	}
	return x
}

func apply(t *testing.T, held *tree.Tree, changes ...tree.Change) {
	t.Helper()
	if e := held.Apply(changes...); e != api.OK {
		t.Fatalf("Apply of %+v: %d", changes, e)
	}
}

// put lets the tree have the rows, which weren't there.
func put(t *testing.T, held *tree.Tree, x rows.Table, all ...rows.Row) {
	t.Helper()
	for _, r := range all {
		own, index, fits := byWords(x, r)
		if !fits {
			t.Fatalf("%v is no row of %v", r, x)
		}
		apply(t, held, tree.Change{Key: own.Key, Value: own.Value})
		if index.Key != "" {
			apply(t, held, tree.Change{Key: index.Key})
		}
	}
}

func wantAll(t *testing.T, held *tree.Tree, x rows.Table, want ...rows.Row) {
	t.Helper()
	if got, e := rows.All(held, x); !equal(got, want) || e != api.OK {
		t.Errorf("All of %s = %v, %d, want %v", brief(x), got, e, want)
	}
}

func wantFound(t *testing.T, held *tree.Tree, x rows.Table, v rows.Value, want ...rows.Row) {
	t.Helper()
	if got, e := rows.Find(held, x, v); !equal(got, want) || e != api.OK {
		t.Errorf("Find of %s in %s = %v, %d, want %v", brief(v), brief(x), got, e, want)
	}
}

func wantNotAll(t *testing.T, held *tree.Tree, x rows.Table) {
	t.Helper()
	if got, e := rows.All(held, x); len(got) != 0 || e != api.ErrRow {
		t.Errorf("All of %s = %v, %d, want none, %d", brief(x), got, e, api.ErrRow)
	}
}

func wantNotFound(t *testing.T, held *tree.Tree, x rows.Table, v rows.Value) {
	t.Helper()
	if got, e := rows.Find(held, x, v); len(got) != 0 || e != api.ErrRow {
		t.Errorf("Find of %s in %s = %v, %d, want none, %d", brief(v), brief(x), got, e, api.ErrRow)
	}
}

func equal(a, b []rows.Row) bool {
	return slices.EqualFunc(a, b, func(a, b rows.Row) bool { return slices.Equal(a, b) })
}

// wantHeld asks that the tree has the pairs of these rows of the table alone, and tells them; known has them by their keys.
func wantHeld(t *testing.T, held *tree.Tree, x rows.Table, known map[string]rows.Row) {
	t.Helper()
	var all []rows.Row
	found := map[rows.Value][]rows.Row{{}: nil}
	count := 0
	for _, key := range slices.Sorted(maps.Keys(known)) {
		r := known[key]
		own, index, _ := byWords(x, r)
		all = append(all, r)
		count++
		if s, there := held.Get(own.Key); s != own.Value || !there {
			t.Errorf("the tree has %q, %v of the row %v", s, there, r)
		}
		if x.Index < 0 {
			continue
		}
		found[r[x.Index]] = append(found[r[x.Index]], r)
		count++
		if s, there := held.Get(index.Key); s != "" || !there {
			t.Errorf("the tree has %q, %v of the index of %v", s, there, r)
		}
	}
	if held.Len() != count {
		t.Errorf("the tree has %d pairs, want %d of %d rows of %v", held.Len(), count, len(all), x)
	}
	wantAll(t, held, x, all...)
	for v, some := range found {
		if x.Index >= 0 {
			wantFound(t, held, x, v, some...)
		}
	}
}

// TestExample holds the chapter's example.
func TestExample(t *testing.T) {
	x := table("it", 1, 1)
	changes, e := rows.Changes(x, nil, row(5, "x"))
	key := "a\x00\x80\x00\x00\x00\x00\x00\x00\x05"
	if !slices.Equal(changes, []tree.Change{{Key: key, Value: "\x01x"}, {Key: "a\x01x\x00" + key[2:]}}) || e != api.OK {
		t.Errorf("Changes = %+v, %d", changes, e)
	}
	held := newTree(t)
	apply(t, held, changes...)
	wantFound(t, held, x, value("x"), row(5, "x"))
	wantAll(t, held, x, row(5, "x"))
}

// TestOrder holds P6.3 of the order of the rows, by numbers at both ends and below 0, and by texts.
func TestOrder(t *testing.T) {
	held := newTree(t)
	numbers := []rows.Row{row(math.MinInt64), row(math.MinInt64 + 1), row(-256), row(-1), row(0), row(1), row(255), row(256), row(math.MaxInt64)}
	var indexed []rows.Row
	for i, r := range numbers {
		indexed = append(indexed, row(r[0], "v", -i))
	}
	texts := []rows.Row{row("", "", 4), row("", "a", 3), row("", "\xff", 4), row("\x01", "", 4), row("a", "", 4), row("a", "b", 4), row("a\x01", "", 5), row("aa", "", 4), row("b", "", 4), row("\xff", "", 4), row("\xff\xff", "", 4)}
	one, two, three := table("i", 1, -1), named('b', table("iti", 1, 1)), named('c', table("tti", 2, 2))
	for i := range 11 {
		at := i * 7 % 11
		if at < len(numbers) {
			put(t, held, one, numbers[at])
			put(t, held, two, indexed[at])
		}
		put(t, held, three, texts[at])
	}
	wantAll(t, held, one, numbers...)
	wantAll(t, held, two, indexed...)
	wantAll(t, held, three, texts...)
	wantFound(t, held, two, value("v"), indexed...)
	wantFound(t, held, two, value(""))
	wantFound(t, held, two, value("v\x01"))
	wantFound(t, held, three, value(3), texts[1])
	wantFound(t, held, three, value(4), slices.Concat(texts[:1], texts[2:6], texts[7:])...)
	wantFound(t, held, three, value(5), texts[6])
	wantFound(t, held, three, value(-4))
}

// TestMany holds P6.3 of any number of rows, with pairs of others right ahead of them and behind.
func TestMany(t *testing.T) {
	for _, n := range []int{0, 1, 2, 31, 32, 33, 63, 64, 65, 96, 130} {
		for _, others := range []bool{false, true} {
			held, x := newTree(t), named('m', table("iti", 1, 1))
			var all, same []rows.Row
			for i := range n {
				all = append(all, row(i-50, fmt.Sprint("v", i/100), i))
				if i < 100 {
					same = append(same, all[i])
				}
			}
			put(t, held, x, all...)
			if others {
				apply(t, held, tree.Change{Key: "m"}, tree.Change{Key: "m\x02"}, tree.Change{Key: "l\xff"}, tree.Change{Key: "n"}, tree.Change{Key: "n\x00"}, tree.Change{Key: "n\x01v0\x00"})
				put(t, held, named('l', table("iti", 1, 1)), row(-50, "v0", 1), row(7, "v0", 1))
				put(t, held, x, row(n, "v", 0), row(n+1, "v0\x01", 0), row(n+2, "v1\xff", 0))
			}
			wantFound(t, held, x, value("v0"), same...)
			wantFound(t, held, x, value("v1"), all[len(same):]...)
			if others {
				all = append(all, row(n, "v", 0), row(n+1, "v0\x01", 0), row(n+2, "v1\xff", 0))
			}
			wantAll(t, held, x, all...)
		}
	}
}

// TestNear holds P6.3 where the least key behind the last row's, or behind its index's, is that of no row, behind any number of rows.
func TestNear(t *testing.T) {
	held, x := newTree(t), table("it", 1, 1)
	var all []rows.Row
	for i := range 70 {
		all = append(all, row(i, "x"))
		put(t, held, x, all[i])
		own, index, _ := byWords(x, all[i])
		apply(t, held, tree.Change{Key: own.Key + "\x00", Value: own.Value})
		wantNotAll(t, held, x)
		wantFound(t, held, x, value("x"), all...)
		apply(t, held, tree.Change{Key: own.Key + "\x00", Gone: true}, tree.Change{Key: index.Key + "\x00"})
		wantAll(t, held, x, all...)
		wantNotFound(t, held, x, value("x"))
		apply(t, held, tree.Change{Key: index.Key + "\x00", Gone: true})
	}
}

// TestTables holds that each table of a tree has its own rows alone.
func TestTables(t *testing.T) {
	held := newTree(t)
	all := tables()[:26]
	for i := range all {
		all[i].Name = byte('a' + i)
		put(t, held, all[i], combined(all[i], []any{i, -i - 1}, []any{"", "b"})...)
	}
	for i, x := range all {
		known := map[string]rows.Row{}
		for _, r := range combined(x, []any{i, -i - 1}, []any{"", "b"}) {
			p, _, _ := byWords(x, r)
			known[p.Key] = r // of those with the same key the last one was put
		}
		var want []rows.Row
		for _, key := range slices.Sorted(maps.Keys(known)) {
			want = append(want, known[key])
		}
		wantAll(t, held, x, want...)
	}
}

// TestNotRows holds P6.3 of All where a pair begins as a row's, and isn't one: in the order of the keys ahead of the rows, between them, or behind.
func TestNotRows(t *testing.T) {
	x := table("it", 1, 1)
	five, six := "a\x00"+pack.Ordered(5), "a\x00"+pack.Ordered(6)
	for _, c := range []tree.Change{
		{Key: "a\x00"}, {Key: "a\x00", Value: "\x01x"}, {Key: "a\x00\x00", Value: "\x01x"}, {Key: "a\x00\xff", Value: "\x01x"},
		{Key: five[:9], Value: "\x01x"}, {Key: five + "\x00", Value: "\x01x"}, {Key: six + "\xff"}, {Key: "a\x00" + text(46), Value: "\x01x"},
		{Key: five}, {Key: five, Value: "\x00\x00"}, {Key: five, Value: "\x01"}, {Key: five, Value: "\x02x"}, {Key: five, Value: "\x01xy"},
		{Key: five, Value: "\x81\x00x"}, {Key: five, Value: "\x01\x00"}, {Key: six, Value: "\x26" + text(38)}, {Key: six, Value: "\xc5\x01" + text(197)},
	} {
		held := newTree(t)
		put(t, held, x, row(5, "x"), row(-5, "x"), row(6, "y"))
		apply(t, held, c)
		wantNotAll(t, held, x)
		for _, other := range []rows.Table{named('b', x), named('z', x)} {
			wantAll(t, held, other)
		}
	}
	for _, c := range []tree.Change{{Key: "a"}, {Key: "a\x02"}, {Key: "`\x00"}, {Key: "`\xff"}, {Key: "b"}, {Key: "b\x00"}, {Key: "b\x00" + five[2:]}, {Key: "A\x00"}, {Key: "\x00a"}} {
		held := newTree(t)
		put(t, held, x, row(5, "x"), row(-5, "x"), row(6, "y"))
		apply(t, held, c)
		wantAll(t, held, x, row(-5, "x"), row(5, "x"), row(6, "y"))
		wantFound(t, held, x, value("x"), row(-5, "x"), row(5, "x"))
	}
}

// TestNotIndexed holds P6.3 of Find where a pair begins as an index's with the value, and isn't one, or where the row that it names isn't there.
func TestNotIndexed(t *testing.T) {
	x := table("iti", 1, 1)
	begin, five, nine := "a\x01x\x00", pack.Ordered(5), pack.Ordered(9)
	for i, c := range []tree.Change{
		{Key: begin}, {Key: begin + "\x00"}, {Key: begin + "\xff"}, {Key: begin + five[:7]}, {Key: begin + five + "\x00"}, {Key: begin + five + five}, {Key: begin + text(44)},
		{Key: begin + five, Value: "\x00"}, {Key: begin + five, Value: "x"}, {Key: begin + nine, Value: text(200)},
		{Key: begin + nine}, {Key: begin + pack.Ordered(-9)}, {Key: begin + pack.Ordered(0)},
		// That row has another value, so the one that is named isn't there.
		{Key: begin + pack.Ordered(6)}, {Key: "a\x00" + five, Value: "\x01y\x00"},
		// The row is gone, or isn't one any more, and the index's pair is left.
		{Key: "a\x00" + five, Gone: true}, {Key: "a\x00" + five}, {Key: "a\x00" + five, Value: "\x01x"}, {Key: "a\x00" + five, Value: "\x01x\x00\x00"},
		{Key: "a\x00" + five, Value: "\x02x\x00\x00"}, {Key: "a\x00" + five, Value: "\x01x\x80\x00"},
	} {
		held := newTree(t)
		put(t, held, x, row(5, "x", 0), row(-5, "x", 1), row(6, "y", 2))
		wantFound(t, held, x, value("x"), row(-5, "x", 1), row(5, "x", 0))
		apply(t, held, c)
		if got, e := rows.Find(held, x, value("x")); len(got) != 0 || e != api.ErrRow {
			t.Errorf("%d: Find = %v, %d, want none, %d", i, got, e, api.ErrRow)
		}
		// What isn't named isn't asked.
		wantFound(t, held, x, value("y"), row(6, "y", 2))
		wantFound(t, held, x, value("z"))
	}
}

// TestNotThere holds P6.3 of Find where the row that an index names isn't there, though it has no bytes but its key.
func TestNotThere(t *testing.T) {
	for _, x := range []rows.Table{table("it", 2, 1), table("it", 2, 0), table("ti", 2, 0), table("t", 1, 0), table("i", 1, 0)} {
		for _, r := range combined(x, []any{-1, 0}, []any{"", "k"}) {
			held := newTree(t)
			put(t, held, x, r)
			wantFound(t, held, x, r[x.Index], r)
			own, _, _ := byWords(x, r)
			apply(t, held, tree.Change{Key: own.Key, Gone: true})
			wantNotFound(t, held, x, r[x.Index])
			wantAll(t, held, x)
		}
	}
}

// TestOneIndex holds that All goes through the pairs of rows, and Find through those of the index with the value.
func TestOneIndex(t *testing.T) {
	x := table("it", 1, 1)
	held := newTree(t)
	put(t, held, x, row(5, "x"), row(6, "y"))
	apply(t, held, tree.Change{Key: "a\x01"}, tree.Change{Key: "a\x01y"}, tree.Change{Key: "a\x01y\x00"}, tree.Change{Key: "a\x01z\x00" + pack.Ordered(7)})
	wantAll(t, held, x, row(5, "x"), row(6, "y"))
	wantFound(t, held, x, value("x"), row(5, "x"))
	wantNotFound(t, held, x, value("y"))
	wantNotFound(t, held, x, value("z"))
	apply(t, held, tree.Change{Key: "a\x00"}, tree.Change{Key: "a\x00" + pack.Ordered(6)})
	wantNotAll(t, held, x)
	wantFound(t, held, x, value("x"), row(5, "x"))
	apply(t, held, tree.Change{Key: "a\x01x\x00" + pack.Ordered(5), Gone: true})
	wantFound(t, held, x, value("x"))
}

// TestFindRefused holds P6.3's errors ahead of what the tree has: of tables that aren't fit, of those without an index, and of values that aren't as the column's; also of a nil tree.
func TestFindRefused(t *testing.T) {
	some := newTree(t)
	put(t, some, table("it", 1, 1), row(5, "x"))
	put(t, some, named('b', table("it", 1, 0)), row(5, "x"))
	for _, held := range []*tree.Tree{nil, newTree(t), some} {
		for _, x := range unfitTables() {
			wantNotAll(t, held, x)
			for _, v := range []any{0, 5, "", "x", rows.Value{N: 5, S: "x"}} {
				wantNotFound(t, held, x, value(v))
			}
		}
		for _, v := range []any{0, 5, "", "x"} {
			wantNotFound(t, held, table("it", 1, -1), value(v))
			wantNotFound(t, held, table("it", 2, -1), value(v))
		}
		for _, v := range []any{5, -1, math.MinInt64, "\x00", "x\x00", "\x00x", "x\x00" + pack.Ordered(5), rows.Value{N: 5, S: "x"}, rows.Value{N: 1, S: text(1 << 20)}, text(1<<20) + "\x00"} {
			wantNotFound(t, held, table("it", 1, 1), value(v))
			wantNotFound(t, held, table("it", 2, 1), value(v))
			wantNotFound(t, held, table("ti", 1, 0), value(v))
		}
		for _, v := range []any{"5", "x", "\x00", rows.Value{N: 5, S: "x"}, rows.Value{N: 5, S: "\x00"}} {
			wantNotFound(t, held, named('b', table("it", 1, 0)), value(v))
			wantNotFound(t, held, named('b', table("ti", 1, 1)), value(v))
		}
		// No row has such a value, for its keys would be too long; but it is as those of the column.
		wantFound(t, held, table("it", 1, 1), value(text(38)))
		wantFound(t, held, table("it", 1, 1), value(text(1<<20)))
	}
	wantFound(t, some, table("it", 1, 1), value("x"), row(5, "x"))
	wantFound(t, some, named('b', table("it", 1, 0)), value(5), row(5, "x"))
}

// TestNoTree holds P6.3 of a nil tree, and of one without keys: no rows.
func TestNoTree(t *testing.T) {
	for _, held := range []*tree.Tree{nil, newTree(t)} {
		for _, x := range tables() {
			wantAll(t, held, x)
			if x.Index < 0 {
				continue
			}
			wantFound(t, held, x, rows.Value{})
			if x.Columns[x.Index] == rows.Int {
				wantFound(t, held, x, value(math.MinInt64))
			} else {
				wantFound(t, held, x, value("\xff"))
			}
		}
	}
}

// TestEnds holds P6.3 of values at both ends in the index, and of texts that are empty.
func TestEnds(t *testing.T) {
	held, x, y := newTree(t), table("iit", 1, 1), named('b', table("ttt", 2, 1))
	var wantX, wantY []rows.Row
	for i, n := range []int64{math.MinInt64, -1, 0, 1, math.MaxInt64} {
		for key := range 3 {
			wantX = append(wantX, row(3*i+key, rows.Value{N: n}, "\x00"))
		}
	}
	for _, key := range []string{"", "\x01", "k"} {
		for _, s := range []string{"", "\x01", "\xff"} {
			wantY = append(wantY, row(key, s, ""))
		}
	}
	put(t, held, x, wantX...)
	put(t, held, y, wantY...)
	for i := range 5 {
		wantFound(t, held, x, wantX[3*i][1], wantX[3*i:3*i+3]...)
	}
	for i := range 3 {
		wantFound(t, held, y, wantY[i][1], wantY[i], wantY[3+i], wantY[6+i])
	}
	wantFound(t, held, x, value(2))
	wantFound(t, held, y, value("k"))
}

// TestLong holds P6.3 of rows whose keys and values are at their limits.
func TestLong(t *testing.T) {
	held, x := newTree(t), table("tit", 1, 1)
	long := []rows.Row{row(text(29), 1, text(190)), row(text(28)+"y", 1, text(190)), row(text(28)+"z", 2, "")}
	put(t, held, x, long...)
	wantAll(t, held, x, long...)
	wantFound(t, held, x, value(1), long[:2]...)
	wantFound(t, held, x, value(2), long[2])
}

// TestApart holds P2: a call is answered of the tree that it is given, whatever others hold.
func TestApart(t *testing.T) {
	one, other, x := newTree(t), newTree(t), table("it", 1, 1)
	put(t, one, x, row(5, "x"))
	put(t, other, x, row(6, "x"))
	for range 2 {
		wantAll(t, one, x, row(5, "x"))
		wantAll(t, other, x, row(6, "x"))
		wantFound(t, one, x, value("x"), row(5, "x"))
		wantFound(t, other, x, value("x"), row(6, "x"))
	}
	apply(t, other, tree.Change{Key: "a\x00"}, tree.Change{Key: "a\x01x\x00"})
	wantNotAll(t, other, x)
	wantNotFound(t, other, x, value("x"))
	wantAll(t, one, x, row(5, "x"))
	wantFound(t, one, x, value("x"), row(5, "x"))
}

// TestListsApart holds that the rows that are answered share no memory, and that the tree is left as it was.
func TestListsApart(t *testing.T) {
	held, x := newTree(t), table("tti", 1, 1)
	all := []rows.Row{row("a", "x", 1), row("b", "x", 2), row("c", "x", 3)}
	put(t, held, x, all...)
	before := held.Scan("", math.MaxInt)
	for range 2 {
		one, _ := rows.All(held, x)
		two, _ := rows.Find(held, x, value("x"))
		for _, list := range [][]rows.Row{one, two} {
			for i, r := range list {
				if !slices.Equal(r, all[i]) {
					t.Errorf("the row %d is %v, want %v", i, r, all[i])
				}
				for n := range r[:cap(r)] {
					r[:cap(r)][n] = rows.Value{S: "overwritten"}
				}
			}
		}
		if !slices.Equal(held.Scan("", math.MaxInt), before) {
			t.Errorf("the tree was changed")
		}
	}
}
