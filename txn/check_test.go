package txn_test

import (
	"fmt"
	"math"
	"slices"
	"strings"
	"testing"

	"horologe/api"
	"horologe/mvcc"
	"horologe/txn"
)

var (
	longest  = strings.Repeat("k", 100)
	tooLong  = strings.Repeat("k", 101)
	largest  = strings.Repeat("v", 4096)
	tooLarge = strings.Repeat("v", 4097)
)

// checks asks Check, the model, and Do, which is to tell Check's error and to change nothing.
func checks(t *testing.T, what string, x api.Txn, want api.Errno) {
	t.Helper()
	is(t, what, txn.Check(x), want)
	is(t, what+", the model", modelCheck(x), want)
	if want == api.OK {
		return
	}
	s, m := of(t, then(put("a", "1"), put("b", "2")))
	_, err := does(t, s, m, x)
	is(t, what+", Do", err, want)
}

func TestP901NothingAtAll(t *testing.T) {
	checks(t, "nothing", api.Txn{}, api.OK)
	checks(t, "empty lists", api.Txn{If: ifs(), Then: ops(), Else: ops()}, api.OK)
}

func TestP901HowMany(t *testing.T) {
	for _, n := range []int{0, 1, 31, 32, 33, 34, 63, 64, 65, 1000} {
		want := api.OK
		if n > 32 {
			want = api.ErrMany
		}
		some, few, full := slices.Repeat(ops(get("a", "", 0)), n), ops(get("b", "", 0)), slices.Repeat(ops(get("b", "c", 1)), 32)
		asked, fullIf := slices.Repeat(ifs(api.If{Key: "a"}), n), slices.Repeat(ifs(never), 32)
		for name, x := range map[string]api.Txn{
			"If": {If: asked}, "Then": {Then: some}, "Else": {Else: some}, "all": {If: asked, Then: some, Else: some},
			"If, and few": {If: asked, Then: few, Else: few}, "If, and full branches": {If: asked, Then: full, Else: full},
			"Then, and all else is full": {If: fullIf, Then: some, Else: full}, "Else, and all else is full": {If: fullIf, Then: full, Else: some},
		} {
			checks(t, fmt.Sprint(name, ": ", n), x, want)
		}
	}
}

func TestP901ManyAheadOfAllElse(t *testing.T) {
	for name, x := range map[string]api.Txn{
		"If":           {If: make([]api.If, 33)},
		"If, kinds":    {If: slices.Repeat(ifs(api.If{Key: "a", Target: 9}), 33)},
		"Then":         {If: make([]api.If, 1), Then: make([]api.Op, 33)},
		"Then, twice":  {Then: slices.Repeat(ops(put("a", "")), 33)},
		"Else":         {If: make([]api.If, 1), Then: ops(put("", "")), Else: slices.Repeat(ops(get("a", "", 0)), 33)},
		"Else, larger": {Then: ops(put("a", tooLarge)), Else: make([]api.Op, 33)},
	} {
		checks(t, name, x, api.ErrMany)
	}
}

// ifsChecked asks of a comparison alone, as the last of 32, and ahead of others.
func ifsChecked(t *testing.T, what string, c api.If, want api.Errno) {
	t.Helper()
	fine := api.If{Key: "b", Target: api.TValue, Sign: api.SGreater}
	checks(t, what, api.Txn{If: ifs(c)}, want)
	checks(t, what+", the last", api.Txn{If: append(slices.Repeat(ifs(fine), 31), c)}, want)
	checks(t, what+", the first", api.Txn{If: ifs(c, fine), Then: ops(put("a", ""))}, want)
}

func TestP901KeysOfComparisons(t *testing.T) {
	for key, want := range map[string]api.Errno{
		"": api.ErrArg, "k": api.OK, "\x00": api.OK, "\xff": api.OK, longest: api.OK, tooLong: api.ErrArg, longest + longest: api.ErrArg,
		strings.Repeat("ü", 50): api.OK, strings.Repeat("ü", 51): api.ErrArg, strings.Repeat("\xff", 100): api.OK, strings.Repeat("\xff", 101): api.ErrArg, " \n": api.OK,
	} {
		ifsChecked(t, fmt.Sprintf("%.10q (%d)", key, len(key)), api.If{Key: key, Target: 1, Sign: 2}, want)
	}
}

func TestP901TargetsAndSigns(t *testing.T) {
	for _, target := range []int{math.MinInt, -256, -2, -1, 0, 1, 2, 3, 4, 5, 6, 256, 1 << 32, math.MaxInt} {
		for _, sign := range []int{math.MinInt, -256, -2, -1, 0, 1, 2, 3, 4, 5, 256, 1 << 32, math.MaxInt} {
			want := api.ErrKind
			if target >= 0 && target <= 4 && sign >= 0 && sign <= 3 {
				want = api.OK
			}
			ifsChecked(t, fmt.Sprintf("Target %d, Sign %d", target, sign), api.If{Key: "a", Target: target, Sign: sign}, want)
			ifsChecked(t, fmt.Sprintf("Target %d, Sign %d, of no key", target, sign), api.If{Target: target, Sign: sign}, api.ErrArg)
		}
	}
}

func TestP901WhatAComparisonIsHeldAgainst(t *testing.T) {
	for target := range 5 {
		for _, n := range []int{math.MinInt, -1, 0, 1, math.MaxInt} {
			for _, text := range []string{"", "\xff", tooLong, tooLarge, strings.Repeat("x", 100000)} {
				ifsChecked(t, fmt.Sprint("Target ", target, ", N ", n), api.If{Key: "a", Target: target, N: n, Text: text}, api.OK)
			}
		}
	}
}

// opsChecked asks of an operation in each branch: alone, as the last of 32, ahead of others.
func opsChecked(t *testing.T, what string, op api.Op, want api.Errno) {
	t.Helper()
	fine := get("0", "9", 3)
	for name, l := range map[string][]api.Op{"alone": ops(op), "the last": append(slices.Repeat(ops(fine), 31), op), "the first": ops(op, fine, put("1", "x"), del("2", ""))} {
		checks(t, what+", Then, "+name, api.Txn{Then: l, Else: ops(fine)}, want)
		checks(t, what+", Else, "+name, api.Txn{Then: ops(fine), Else: l}, want)
	}
}

func TestP901KindsOfOperations(t *testing.T) {
	for _, kind := range []int{math.MinInt, -256, -2, -1, 0, 1, 2, 3, 4, 256, 257, 1 << 32, math.MaxInt} {
		want := api.ErrKind
		if kind >= 0 && kind <= 2 {
			want = api.OK
		}
		opsChecked(t, fmt.Sprint("Kind ", kind), api.Op{Kind: kind, Key: "a"}, want)
	}
}

func TestP901KeysAndEnds(t *testing.T) {
	for _, c := range []struct {
		key, end string
		want     api.Errno // of ODelete, ORange
		put      api.Errno
	}{
		{"", "", api.ErrArg, api.ErrArg}, {"", "a", api.ErrArg, api.ErrArg}, {"k", "", api.OK, api.OK}, {longest, "", api.OK, api.OK}, {tooLong, "", api.ErrArg, api.ErrArg}, {tooLong, "z", api.ErrArg, api.ErrArg}, {longest + longest, "", api.ErrArg, api.ErrArg},
		{"\x00", "", api.OK, api.OK}, {"\xff", "", api.OK, api.OK}, {strings.Repeat("ü", 50), "", api.OK, api.OK}, {strings.Repeat("ü", 51), "", api.ErrArg, api.ErrArg},
		{"k", "k", api.ErrArg, api.ErrArg}, {"k", "j", api.ErrArg, api.ErrArg}, {"k", "j\xff\xff", api.ErrArg, api.ErrArg}, {"k", "\x00", api.ErrArg, api.ErrArg}, {"k", "K", api.ErrArg, api.ErrArg}, {"kk", "k", api.ErrArg, api.ErrArg}, {"k\x00", "k", api.ErrArg, api.ErrArg}, {longest, longest, api.ErrArg, api.ErrArg}, {longest, longest[1:], api.ErrArg, api.ErrArg},
		{"k", "k\x00", api.OK, api.ErrArg}, {"k", "l", api.OK, api.ErrArg}, {"k", "kk", api.OK, api.ErrArg}, {"k", "\xff", api.OK, api.ErrArg}, {"\x7f", "\x80", api.OK, api.ErrArg}, {"\x00", "\x00\x00", api.OK, api.ErrArg},
		{"k", tooLong, api.OK, api.ErrArg}, {"k", strings.Repeat("x", 10000), api.OK, api.ErrArg}, {longest, tooLong, api.OK, api.ErrArg},
	} {
		what := fmt.Sprintf("%.10q (%d), %.10q (%d)", c.key, len(c.key), c.end, len(c.end))
		opsChecked(t, "OPut "+what, api.Op{Kind: api.OPut, Key: c.key, End: c.end}, c.put)
		opsChecked(t, "ODelete "+what, api.Op{Kind: api.ODelete, Key: c.key, End: c.end}, c.want)
		opsChecked(t, "ORange "+what, api.Op{Kind: api.ORange, Key: c.key, End: c.end}, c.want)
	}
}

func TestP901LeasesAndValues(t *testing.T) {
	for _, lease := range []int{math.MinInt, -1 << 32, -2, -1, 0, 1, 1 << 31, 1 << 62, math.MaxInt} {
		for _, value := range []string{"", "x", largest, tooLarge, largest + largest, strings.Repeat("ü", 2048), strings.Repeat("ü", 2049)} {
			want := api.OK
			switch {
			case lease < 0:
				want = api.ErrArg
			case len(value) > 4096:
				want = api.ErrLong
			}
			what := fmt.Sprintf("Lease %d, a value of %d", lease, len(value))
			opsChecked(t, "OPut, "+what, api.Op{Kind: api.OPut, Key: "a", Lease: lease, Value: value}, want)
			opsChecked(t, "OPut, an End, "+what, api.Op{Kind: api.OPut, Key: "a", End: "b", Lease: lease, Value: value}, api.ErrArg)
			opsChecked(t, "OPut, no key, "+what, api.Op{Kind: api.OPut, Lease: lease, Value: value}, api.ErrArg)
			opsChecked(t, "ODelete, "+what, api.Op{Kind: api.ODelete, Key: "a", Lease: lease, Value: value}, api.OK)
			opsChecked(t, "ORange, "+what, api.Op{Kind: api.ORange, Key: "a", Lease: lease, Value: value}, api.OK)
			opsChecked(t, "no kind, "+what, api.Op{Kind: 3, Lease: lease, Value: value}, api.ErrKind)
		}
	}
}

func TestP901LimitsMayBeAny(t *testing.T) {
	for _, limit := range []int{math.MinInt, -1, 0, 1, 4097, math.MaxInt} {
		for kind := range 3 {
			opsChecked(t, fmt.Sprint("Kind ", kind, ", Limit ", limit), api.Op{Kind: kind, Key: "a", Limit: limit}, api.OK)
		}
	}
}

func TestP901Twice(t *testing.T) {
	for _, c := range []struct {
		l    []api.Op
		want api.Errno
	}{
		{ops(put("a", ""), put("a", "")), api.ErrTwice}, {ops(put("a", "1"), put("a", "2")), api.ErrTwice}, {ops(put("a", ""), leased("a", 1)), api.ErrTwice}, {ops(put("a", ""), put("b", ""), put("c", ""), put("a", "")), api.ErrTwice}, {ops(put("c", ""), put("b", ""), put("a", ""), put("b", "")), api.ErrTwice},
		{ops(put("a", ""), put("b", "")), api.OK}, {ops(put("a", ""), put("a\x00", ""), put("aa", ""), put("A", "")), api.OK}, {ops(put(longest, ""), put(longest[1:], "")), api.OK}, {ops(put(longest, ""), put(longest, "")), api.ErrTwice},
		{ops(put("b", ""), del("b", "")), api.ErrTwice}, {ops(del("b", ""), put("b", "")), api.ErrTwice}, {ops(put("b", ""), get("x", "", 0), put("x", ""), del("b", "")), api.ErrTwice}, {ops(del("b", ""), put("a", ""), put("b", "")), api.ErrTwice},
		{ops(put("b", ""), del("a", "")), api.OK}, {ops(put("b", ""), del("b\x00", "")), api.OK}, {ops(put("b\x00", ""), del("b", "")), api.OK}, {ops(del("a", ""), put("b", "")), api.OK},
		{ops(put("b", ""), del("b", "c")), api.ErrTwice}, {ops(put("b", ""), del("b", "b\x00")), api.ErrTwice}, {ops(put("b", ""), del("a", "c")), api.ErrTwice}, {ops(put("b", ""), del("a", "b\x00")), api.ErrTwice}, {ops(put("b", ""), del("\x00", beyond)), api.ErrTwice},
		{ops(put("b", ""), del("a", "b")), api.OK}, {ops(put("b", ""), del("b\x00", "c")), api.OK}, {ops(put("b", ""), del("c", "d")), api.OK}, {ops(put("b", ""), del("a", "aa"), del("c", beyond)), api.OK},
		{ops(del("a", "c"), put("b", "")), api.ErrTwice}, {ops(del("a", "b"), put("b", "")), api.OK}, {ops(del("b\x00", "z"), put("b", "")), api.OK}, {ops(del("a", "c"), put("c", ""), put("a", "")), api.ErrTwice},
		{ops(del("a", ""), del("a", "")), api.OK}, {ops(del("a", "c"), del("b", "d"), del("a", "z")), api.OK},
		{ops(put("b", ""), get("b", "", 0), get("a", "c", 0)), api.OK}, {ops(get("b", "", 0), get("a", "c", 0), put("b", "")), api.OK}, {ops(get("b", "", 0), get("b", "", 0)), api.OK}, {ops(del("a", "z"), get("a", "z", 0)), api.OK},
	} {
		what := fmt.Sprintf("%.100s", fmt.Sprint(c.l))
		checks(t, "Then: "+what, api.Txn{Then: c.l}, c.want)
		checks(t, "Else: "+what, api.Txn{Else: c.l}, c.want)
		checks(t, "both: "+what, api.Txn{Then: c.l, Else: c.l}, c.want)
		checks(t, "Else, behind others: "+what, api.Txn{If: ifs(never), Then: ops(put("a", ""), del("b", "z")), Else: c.l}, c.want)
		checks(t, "Then, ahead of others: "+what, api.Txn{If: ifs(never), Then: c.l, Else: ops(put("a", ""), del("b", "z"))}, c.want)
	}
}

func TestP901BranchesMayChangeOneKey(t *testing.T) {
	for _, x := range []api.Txn{
		{Then: ops(put("a", "")), Else: ops(put("a", ""))},
		{Then: ops(put("a", "")), Else: ops(del("a", ""))},
		{Then: ops(del("a", "z")), Else: ops(put("b", ""), put("c", ""))},
		{Then: ops(put("b", ""), del("c", "z")), Else: ops(put("c", ""), del("a", "c"))},
	} {
		checks(t, fmt.Sprint(x), x, api.OK)
	}
}

func TestP901TwiceAtTheLastPlace(t *testing.T) {
	var l []api.Op
	for i := range 31 {
		l = append(l, put(fmt.Sprint("k", i), ""))
	}
	for i := range 31 {
		key := fmt.Sprint("k", i)
		checks(t, key, api.Txn{Then: append(slices.Clone(l), put(key, ""))}, api.ErrTwice)
		checks(t, "-"+key, api.Txn{Else: append(slices.Clone(l), del(key, ""))}, api.ErrTwice)
		checks(t, "-"+key+", ahead", api.Txn{Then: append(ops(del(key, "")), l...)}, api.ErrTwice)
	}
	checks(t, "another", api.Txn{Then: append(slices.Clone(l), put("k31", ""))}, api.OK)
}

// TestP6WhichErrorIsTold: the first element's that has one; ErrTwice is named behind all that an element may have.
func TestP6WhichErrorIsTold(t *testing.T) {
	noKey, noTarget := api.If{Sign: 9}, api.If{Key: "a", Target: 9}
	noKind, noPut, large := api.Op{Kind: 9}, put("", tooLarge), put("a", tooLarge)
	twice := ops(put("t", ""), put("t", ""))
	for name, c := range map[string]struct {
		x    api.Txn
		want api.Errno
	}{
		"a comparison's key ahead of its sign":       {api.Txn{If: ifs(noKey)}, api.ErrArg},
		"the first comparison":                       {api.Txn{If: ifs(noKey, noTarget)}, api.ErrArg},
		"the first comparison, ErrKind":              {api.Txn{If: ifs(noTarget, noKey)}, api.ErrKind},
		"the second comparison":                      {api.Txn{If: ifs(api.If{Key: "a"}, noTarget, noKey)}, api.ErrKind},
		"comparisons ahead of Then":                  {api.Txn{If: ifs(noKey), Then: ops(noKind)}, api.ErrArg},
		"comparisons ahead of Then, ErrKind":         {api.Txn{If: ifs(noTarget), Then: ops(noPut)}, api.ErrKind},
		"comparisons ahead of Else":                  {api.Txn{If: ifs(api.If{Key: "a"}, noKey), Else: ops(noKind)}, api.ErrArg},
		"comparisons ahead of Else, ErrKind":         {api.Txn{If: ifs(noTarget), Else: ops(large)}, api.ErrKind},
		"comparisons ahead of twice":                 {api.Txn{If: ifs(noKey), Then: twice}, api.ErrArg},
		"an operation's kind ahead of its key":       {then(api.Op{Kind: -1, Lease: -1, Value: tooLarge}), api.ErrKind},
		"an operation's key ahead of its value":      {then(noPut), api.ErrArg},
		"an operation's End ahead of its value":      {then(api.Op{Key: "b", End: "c", Value: tooLarge}), api.ErrArg},
		"an operation's lease ahead of its value":    {then(api.Op{Key: "b", Lease: -1, Value: tooLarge}), api.ErrArg},
		"the first operation, ErrKind":               {then(noKind, noPut, large), api.ErrKind},
		"the first operation, ErrArg":                {then(noPut, noKind, large), api.ErrArg},
		"the first operation, ErrLong":               {then(large, noKind, noPut), api.ErrLong},
		"the second operation":                       {then(put("a", ""), large, noKind), api.ErrLong},
		"Then ahead of Else, ErrLong":                {api.Txn{Then: ops(put("a", ""), large), Else: ops(noKind)}, api.ErrLong},
		"Then ahead of Else, ErrArg":                 {api.Txn{Then: ops(get("a", "", 0), noPut), Else: ops(large)}, api.ErrArg},
		"Then ahead of Else, ErrKind":                {api.Txn{Then: ops(noKind), Else: ops(noPut)}, api.ErrKind},
		"Then's operations ahead of twice":           {then(append(slices.Clone(twice), noKind)...), api.ErrKind},
		"Then's operations ahead of twice, ErrLong":  {then(large, large), api.ErrLong},
		"Then's operations ahead of Else's twice":    {api.Txn{Then: ops(noPut), Else: twice}, api.ErrArg},
		"Else's operations ahead of Then's twice":    {api.Txn{Then: twice, Else: ops(noPut)}, api.ErrArg},
		"Else's operations ahead of Then's, ErrKind": {api.Txn{Then: twice, Else: ops(put("a", ""), noKind)}, api.ErrKind},
		"Else's operations ahead of Then's, ErrLong": {api.Txn{Then: twice, Else: append(slices.Clone(twice), large)}, api.ErrLong},
	} {
		checks(t, name, c.x, c.want)
	}
}

// TestP903ChecksErrorIsToldOfBothBranches: also of that which would not be done.
func TestP903ChecksErrorIsToldOfBothBranches(t *testing.T) {
	for _, c := range []api.If{never, {Key: "a"}} {
		s := mvcc.New()
		for _, x := range []api.Txn{
			{If: ifs(c), Then: ops(put("a", "")), Else: ops(put("", ""))},
			{If: ifs(c), Then: ops(put("", "")), Else: ops(put("a", ""))},
		} {
			did, r, err := txn.Do(s, leases{}, x)
			is(t, "Do", fmt.Sprint(did, len(r), err, s.Rev()), "false 0 arg 0")
		}
	}
}
