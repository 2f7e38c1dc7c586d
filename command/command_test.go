package command

import (
	"fmt"
	"math"
	"math/rand"
	"reflect"
	"regexp"
	"slices"
	"strconv"
	"strings"
	"testing"

	"elasticstore/api"
	"elasticstore/member"
	"elasticstore/proposal"
)

var (
	majority = api.Rule{Kind: api.RuleMajority}
	weighted = api.Rule{Kind: api.RuleWeighted}
	grid     = api.Rule{Kind: api.RuleGrid, Columns: 3}
	masking  = api.Rule{Kind: api.RuleMasking, Faulty: 2}
)

func join(server, weight int) api.Change {
	return api.Change{Kind: api.ChangeJoin, Server: server, Weight: weight}
}

func remove(server int) api.Change { return api.Change{Kind: api.ChangeRemove, Server: server} }

func weight(server, weight, version int) api.Change {
	return api.Change{Kind: api.ChangeWeight, Server: server, Weight: weight, Version: version}
}

func rule(r api.Rule, version int) api.Change {
	return api.Change{Kind: api.ChangeRule, Version: version, Rule: r}
}

func entry(server, weight, version int) api.WeightEntry {
	return api.WeightEntry{Server: server, Weight: weight, Version: version, Admin: 201, Number: 1}
}

// rules returns all valid rules.
func rules() []api.Rule {
	out := []api.Rule{majority, weighted, {Kind: api.RuleMasking}}
	for n := 1; n <= api.MaxServers; n++ {
		out = append(out, api.Rule{Kind: api.RuleGrid, Columns: n}, api.Rule{Kind: api.RuleMasking, Faulty: n})
	}
	return out
}

// changes returns all valid changes with some versions.
func changes() []api.Change {
	var out []api.Change
	for server := 1; server <= api.MaxServers; server++ {
		out = append(out, remove(server))
		for w := 1; w <= api.MaxWeight; w++ {
			out = append(out, join(server, w), weight(server, w, 1), weight(server, w, 7), weight(server, w, 1000))
		}
	}
	for _, r := range rules() {
		out = append(out, rule(r, 1), rule(r, 7), rule(r, 1000))
	}
	return out
}

// genesis returns the summary of servers 1, 2 and 3 by majority.
func genesis() api.Summary {
	return member.Initial(api.Genesis{Members: []api.Member{{Server: 1, Weight: 1}, {Server: 2, Weight: 1}, {Server: 3, Weight: 1}}, Rule: majority})
}

// used returns a summary in which servers 1 to 6 have joined, 4, 5 and 7 are removed, and 8 has no more than a weight.
func used() api.Summary {
	return api.Summary{
		Joined:  []int{1, 2, 3, 4, 5, 6},
		Removed: []int{4, 5, 7},
		Weights: []api.WeightEntry{entry(1, 1, 0), entry(2, 5, 7), entry(3, 9, 999), entry(4, 2, 1000), entry(6, 1, 1000), entry(8, 3, 41), entry(9, 3, 1000)},
		Rule:    grid,
		Version: 41,
		Admin:   202,
		Number:  3,
	}
}

// randomSummary returns a valid summary.
func randomSummary(r *rand.Rand) api.Summary {
	var s api.Summary
	for server := 1; server <= api.MaxServers; server++ {
		if r.Intn(2) == 0 {
			s.Joined = append(s.Joined, server)
		}
		if r.Intn(4) == 0 {
			s.Removed = append(s.Removed, server)
		}
		if r.Intn(3) > 0 {
			s.Weights = append(s.Weights, entry(server, 1+r.Intn(9), randomVersion(r)))
		}
	}
	if r.Intn(4) > 0 {
		s.Rule, s.Version, s.Admin, s.Number = rules()[r.Intn(len(rules()))], randomVersion(r), 201, 2
	}
	return s
}

func randomVersion(r *rand.Rand) int {
	return []int{0, 0, 1, 2, 500, 998, 999, 1000}[r.Intn(8)]
}

// malformedSummaries returns summaries that are not valid.
func malformedSummaries() []api.Summary {
	out := []api.Summary{
		{Version: 5}, {Version: math.MaxInt, Rule: majority}, {Version: math.MinInt, Rule: api.Rule{Kind: 9}}, {Joined: make([]int, 50), Removed: make([]int, 50), Weights: make([]api.WeightEntry, 50)},
		{Joined: []int{3, 2, 1, 1, math.MinInt, math.MaxInt}, Removed: []int{2, 2, 0, -1}},
	}
	for _, version := range []int{math.MinInt, -1, 1001, math.MaxInt - 1, math.MaxInt} {
		var weights []api.WeightEntry
		for server := 13; server >= -1; server-- {
			weights = append(weights, entry(server, -server, version), entry(server, 1, 1))
		}
		out = append(out, api.Summary{Joined: []int{12, 1, 2, 3}, Weights: weights, Version: version})
	}
	return out
}

// P8.1

func TestParse(t *testing.T) {
	for _, x := range []struct {
		line string
		want api.Change
	}{
		{"join 4", join(4, 1)},
		{"join 4 weight 2", join(4, 2)},
		{"join 1 weight 1", join(1, 1)},
		{"join 12 weight 9", join(12, 9)},
		{"remove 1", remove(1)},
		{"remove 12", remove(12)},
		{"weight 3 1", weight(3, 1, 0)},
		{"weight 12 9", weight(12, 9, 0)},
		{"rule majority", rule(majority, 0)},
		{"rule weighted", rule(weighted, 0)},
		{"rule grid 3", rule(grid, 0)},
		{"rule grid 1", rule(api.Rule{Kind: api.RuleGrid, Columns: 1}, 0)},
		{"rule grid 12", rule(api.Rule{Kind: api.RuleGrid, Columns: 12}, 0)},
		{"rule masking 2", rule(masking, 0)},
		{"rule masking 0", rule(api.Rule{Kind: api.RuleMasking}, 0)},
		{"rule masking 12", rule(api.Rule{Kind: api.RuleMasking, Faulty: 12}, 0)},
	} {
		if c, e := Parse(x.line); c != x.want || e != api.OK {
			t.Errorf("Parse(%q) = %v, %v, want %v", x.line, c, e, x.want)
		}
	}
}

func TestParseErrors(t *testing.T) {
	for e, lines := range map[api.Errno][]string{
		api.ErrSyntax: {
			"", " ", "  ", "0", "1", "4 2", "#", "# x", "join", "remove", "weight", "rule", "masking 2", "leave 3",
			" join 4", "join 4 ", "join  4", "join 4  weight 2", "join 4 weight 2 ", "join\t4", "join 4\n", "join 4\r", "join 4\x00", "join4", "join 4\u00a0",
			"join 4 2", "join 4 weight", "join 4 weight 2 3", "join 4 weights 2", "join 4 weight 2 weight 3", "join weight 2", "join weight 4 2", "join join 4", "Join 4", "JOIN 4", "join 4 Weight 2",
			"remove 1 2", "remove 1 weight 2", "remove x", "weight 1", "weight 1 2 3", "weight 1 weight 2", "weight x 1", "weight 1 x",
			"rule 1", "rule majority 0", "rule majority 1", "rule weighted 1", "rule grid", "rule grid 2 3", "rule masking", "rule masking x", "rule masking 1 1", "rule other", "rule other 2", "rule Grid 2",
			"join 04", "join 00", "join 004", "join 4 weight 02", "join +4", "join -4", "join -0", "join +0", "join 4.0", "join 4e0", "join 0x4", "join 1_0", "join 4x", "join x4", "join ٤", "join four", "join 10000", "join 99999", "join 4 weight 10000",
			"join 18446744073709551620", "join 99999999999999999999999999", "weight 00 1", "rule grid 03", "rule grid -1", "rule masking 00", "rule masking 12345",
			// The syntax comes before the range.
			"join 13 ", "join 99 weight 02", "join 0 weight x", "weight 0 10 1", "rule grid 13 13",
		},
		api.ErrRange: {
			"join 0", "join 13", "join 9999", "join 4 weight 0", "join 4 weight 10", "join 4 weight 9999", "join 0 weight 0", "join 0 weight 1", "join 13 weight 9", "remove 0", "remove 13", "remove 9999",
			"weight 0 1", "weight 13 1", "weight 1 0", "weight 1 10", "weight 0 0", "weight 9999 9999", "rule grid 0", "rule grid 13", "rule grid 9999", "rule masking 13", "rule masking 9999",
		},
	} {
		for _, line := range lines {
			if c, got := Parse(line); c != (api.Change{}) || got != e {
				t.Errorf("Parse(%q) = %v, %v, want %v", line, c, got, e)
			}
		}
	}
}

var (
	joins    = regexp.MustCompile(`^join (0|[1-9][0-9]{0,3})(?: weight (0|[1-9][0-9]{0,3}))?$`)
	removals = regexp.MustCompile(`^remove (0|[1-9][0-9]{0,3})$`)
	weights  = regexp.MustCompile(`^weight (0|[1-9][0-9]{0,3}) (0|[1-9][0-9]{0,3})$`)
	plain    = regexp.MustCompile(`^rule (majority|weighted)$`)
	numbered = regexp.MustCompile(`^rule (grid|masking) (0|[1-9][0-9]{0,3})$`)
)

// parsed is the definition of Parse in P8.1.
func parsed(line string) (api.Change, api.Errno) {
	number := func(word string) int {
		n, _ := strconv.Atoi(word)
		return n
	}
	var c api.Change
	if m := joins.FindStringSubmatch(line); m != nil {
		c = join(number(m[1]), 1)
		if m[2] != "" {
			c.Weight = number(m[2])
		}
	} else if m := removals.FindStringSubmatch(line); m != nil {
		c = remove(number(m[1]))
	} else if m := weights.FindStringSubmatch(line); m != nil {
		c = weight(number(m[1]), number(m[2]), 1)
	} else if m := plain.FindStringSubmatch(line); m != nil {
		c = rule(map[string]api.Rule{"majority": majority, "weighted": weighted}[m[1]], 1)
	} else if m := numbered.FindStringSubmatch(line); m != nil {
		n := number(m[2])
		c = rule(map[string]api.Rule{"grid": {Kind: api.RuleGrid, Columns: n}, "masking": {Kind: api.RuleMasking, Faulty: n}}[m[1]], 1)
	} else {
		return api.Change{}, api.ErrSyntax
	}
	if e := proposal.ValidateChange(c); e != api.OK {
		return api.Change{}, e
	}
	c.Version = 0
	return c, api.OK
}

func checkParse(t *testing.T, line string) {
	t.Helper()
	c, e := Parse(line)
	if want, wanted := parsed(line); c != want || e != wanted {
		t.Fatalf("Parse(%q) = %v, %v, want %v, %v", line, c, e, want, wanted)
	}
}

// vocabulary returns the words of commands and some others.
func vocabulary() []string {
	return []string{"join", "remove", "weight", "rule", "majority", "weighted", "grid", "masking", "", "0", "1", "9", "10", "12", "13", "9999", "10000", "04", "-1", "x"}
}

func TestParseAllLinesOfFourWords(t *testing.T) {
	words := vocabulary()
	for _, a := range words {
		checkParse(t, a)
		for _, b := range words {
			checkParse(t, a+" "+b)
			for _, c := range words {
				checkParse(t, a+" "+b+" "+c)
				for _, d := range words {
					checkParse(t, a+" "+b+" "+c+" "+d)
				}
			}
		}
	}
}

func TestParseChangedLines(t *testing.T) {
	for _, c := range changes() {
		line := Format(c)
		for i := range len(line) + 1 {
			for _, piece := range []string{" ", "0", "7", "x", "\n", "\t", "-", "+", "\x00", "\xff", " 1", " weight 2"} {
				checkParse(t, line[:i]+piece+line[i:])
				if i < len(line) {
					checkParse(t, line[:i]+piece+line[i+1:])
				}
			}
			checkParse(t, line[:i])
			checkParse(t, line[i:])
		}
	}
}

func TestParseAllNumbers(t *testing.T) {
	for n := range 12000 {
		for _, before := range []string{"join ", "join 3 weight ", "remove ", "weight 3 ", "rule grid ", "rule masking "} {
			checkParse(t, before+strconv.Itoa(n))
		}
		checkParse(t, fmt.Sprintf("weight %d 4", n))
		checkParse(t, fmt.Sprintf("join %d weight 4", n))
		checkParse(t, fmt.Sprintf("remove %05d", n))
	}
}

// P8.2

func TestFormat(t *testing.T) {
	for _, x := range []struct {
		c    api.Change
		want string
	}{
		{join(4, 1), "join 4 weight 1"},
		{join(12, 9), "join 12 weight 9"},
		{remove(1), "remove 1"},
		{weight(3, 4, 0), "weight 3 4"},
		{weight(3, 4, 1), "weight 3 4"},
		{weight(3, 4, 1000), "weight 3 4"},
		{rule(majority, 0), "rule majority"},
		{rule(majority, 1000), "rule majority"},
		{rule(weighted, 3), "rule weighted"},
		{rule(grid, 3), "rule grid 3"},
		{rule(api.Rule{Kind: api.RuleGrid, Columns: 12}, 0), "rule grid 12"},
		{rule(masking, 3), "rule masking 2"},
		{rule(api.Rule{Kind: api.RuleMasking}, 0), "rule masking 0"},

		{api.Change{}, ""},
		{api.Change{Kind: 5}, ""},
		{join(0, 1), ""},
		{join(13, 1), ""},
		{join(4, 0), ""},
		{join(4, 10), ""},
		{api.Change{Kind: api.ChangeJoin, Server: 4, Weight: 1, Version: 1}, ""},
		{api.Change{Kind: api.ChangeJoin, Server: 4, Weight: 1, Rule: majority}, ""},
		{remove(13), ""},
		{api.Change{Kind: api.ChangeRemove, Server: 4, Weight: 1}, ""},
		{api.Change{Kind: api.ChangeRemove, Server: 4, Version: 1}, ""},
		{weight(3, 4, -1), ""},
		{weight(3, 4, 1001), ""},
		{weight(3, 0, 0), ""},
		{rule(majority, -1), ""},
		{rule(majority, 1001), ""},
		{rule(api.Rule{}, 0), ""},
		{rule(api.Rule{Kind: api.RuleGrid}, 1), ""},
		{rule(api.Rule{Kind: api.RuleMajority, Columns: 1}, 1), ""},
		{api.Change{Kind: api.ChangeRule, Server: 1, Rule: majority}, ""},
	} {
		if got := Format(x.c); got != x.want {
			t.Errorf("Format(%v) = %q, want %q", x.c, got, x.want)
		}
	}
}

// formatted is the definition of Format in P8.2.
func formatted(c api.Change) string {
	valid := c
	if c.Version == 0 && c.Kind >= api.ChangeWeight {
		valid.Version = 1
	}
	if proposal.ValidateChange(valid) != api.OK {
		return ""
	}
	return map[int]string{
		api.ChangeJoin:   fmt.Sprintf("join %d weight %d", c.Server, c.Weight),
		api.ChangeRemove: fmt.Sprintf("remove %d", c.Server),
		api.ChangeWeight: fmt.Sprintf("weight %d %d", c.Server, c.Weight),
		api.ChangeRule: map[int]string{
			api.RuleMajority: "rule majority",
			api.RuleWeighted: "rule weighted",
			api.RuleGrid:     fmt.Sprintf("rule grid %d", c.Rule.Columns),
			api.RuleMasking:  fmt.Sprintf("rule masking %d", c.Rule.Faulty),
		}[c.Rule.Kind],
	}[c.Kind]
}

func TestFormatIsItsDefinition(t *testing.T) {
	list := []api.Rule{{}, {Kind: -1}, {Kind: 5}, {Columns: 1}, {Faulty: 1}, {Kind: api.RuleGrid}, {Kind: api.RuleGrid, Columns: 13}, {Kind: api.RuleMasking, Faulty: -1}, {Kind: api.RuleWeighted, Faulty: 1}}
	for _, kind := range []int{math.MinInt, -1, 0, 1, 2, 3, 4, 5, math.MaxInt} {
		for _, server := range []int{math.MinInt, -1, 0, 1, 12, 13, math.MaxInt} {
			for _, w := range []int{math.MinInt, -1, 0, 1, 9, 10, math.MaxInt} {
				for _, version := range []int{math.MinInt, -1, 0, 1, 1000, 1001, math.MaxInt} {
					for _, r := range append(list, rules()...) {
						c := api.Change{Kind: kind, Server: server, Weight: w, Version: version, Rule: r}
						if got := Format(c); got != formatted(c) {
							t.Fatalf("Format(%v) = %q, want %q", c, got, formatted(c))
						}
					}
				}
			}
		}
	}
}

// P8.3

func TestCompile(t *testing.T) {
	for _, x := range []struct {
		name string
		text string
		s    api.Summary
		want []api.Change
	}{
		{"the example", "join 4 weight 2\nremove 1\n", genesis(), []api.Change{join(4, 2), remove(1)}},
		{"one line", "join 4", genesis(), []api.Change{join(4, 1)}},
		{"comments and empty lines", "\n# join 5\n#\n\n#remove 9\njoin 4\n\n\n# end", genesis(), []api.Change{join(4, 1)}},
		{"all kinds", "rule masking 0\nweight 3 2\nremove 2\njoin 9 weight 9", genesis(), []api.Change{rule(api.Rule{Kind: api.RuleMasking}, 1), weight(3, 2, 1), remove(2), join(9, 9)}},
		{"six changes", "join 4\njoin 5\njoin 6\njoin 7\njoin 8\njoin 9\n# seven\n\n", genesis(), []api.Change{join(4, 1), join(5, 1), join(6, 1), join(7, 1), join(8, 1), join(9, 1)}},
		{"three changes of a new server", "join 5\nweight 5 3\nremove 5", genesis(), []api.Change{join(5, 1), weight(5, 3, 1), remove(5)}},
		{"a weight behind a removal", "remove 1\nweight 1 2", genesis(), []api.Change{remove(1), weight(1, 2, 1)}},
		{"a server removed behind its joining", "join 5\nremove 5\nweight 5 2", genesis(), []api.Change{join(5, 1), remove(5), weight(5, 2, 1)}},
		{"versions of weights", "weight 1 2\nweight 2 2\nweight 3 2", used(), []api.Change{weight(1, 2, 1), weight(2, 2, 8), weight(3, 2, 1000)}},
		{"the version of a rule", "rule weighted", used(), []api.Change{rule(weighted, 42)}},
		{"a new server with a weight of before", "join 8\nweight 8 2", used(), []api.Change{join(8, 1), weight(8, 2, 42)}},
		{"a server that can join but get no more weights", "join 9", used(), []api.Change{join(9, 1)}},
		{"a removal of a server with the greatest version", "remove 6", used(), []api.Change{remove(6)}},
		{"a member without a weight", "weight 2 2", api.Summary{Joined: []int{2}}, []api.Change{weight(2, 2, 1)}},
		{"the greatest version of a rule", "rule grid 3", api.Summary{Rule: majority, Version: 999}, []api.Change{rule(grid, 1000)}},
		{"no rule before", "rule grid 3", api.Summary{}, []api.Change{rule(grid, 1)}},
	} {
		got, line, e := Compile(x.text, x.s)
		if !slices.Equal(got, x.want) || line != 0 || e != api.OK {
			t.Errorf("%s: Compile(%q) = %v, %d, %v, want %v", x.name, x.text, got, line, e, x.want)
		}
	}
}

func TestCompileErrors(t *testing.T) {
	six := "join 7\njoin 8\njoin 9\njoin 10\njoin 11\njoin 12\n"
	newest := api.Summary{Joined: []int{1}, Rule: majority, Version: 1000}
	for _, x := range []struct {
		name string
		text string
		s    api.Summary
		line int
		e    api.Errno
	}{
		{"no text", "", genesis(), 0, api.ErrInvalid},
		{"an empty line", "\n", genesis(), 0, api.ErrInvalid},
		{"comments", "\n# join 4\n#\n\n", genesis(), 0, api.ErrInvalid},

		{"syntax", "foo", genesis(), 1, api.ErrSyntax},
		{"a comment behind a space", "# a\n # b", genesis(), 2, api.ErrSyntax},
		{"a line of a space", "join 4\n \njoin 5", genesis(), 2, api.ErrSyntax},
		{"a carriage return", "join 4\r\njoin 5", genesis(), 1, api.ErrSyntax},
		{"a line of a carriage return", "join 4\n\r\n", genesis(), 2, api.ErrSyntax},
		{"a comment behind a command", "join 4 # four", genesis(), 1, api.ErrSyntax},
		{"range", "\n#\n\njoin 13\n", genesis(), 4, api.ErrRange},
		{"seven changes", six + "remove 1", genesis(), 7, api.ErrTooLong},
		{"seven changes and comments", "#\n" + six + "\n#\nremove 1", genesis(), 10, api.ErrTooLong},
		{"a server that joins twice", "join 4\njoin 4 weight 2", genesis(), 2, api.ErrDuplicate},
		{"a server that joins again", "join 4\nremove 4\njoin 4", genesis(), 3, api.ErrDuplicate},
		{"a server removed twice", "remove 1\nremove 2\nremove 1", genesis(), 3, api.ErrDuplicate},
		{"two weights of a server", "weight 1 2\nweight 1 3", genesis(), 2, api.ErrDuplicate},
		{"two rules", "rule majority\n\nrule grid 2", genesis(), 3, api.ErrDuplicate},
		{"joining of a member", "join 3", used(), 1, api.ErrDuplicate},
		{"joining of a removed server", "join 4", used(), 1, api.ErrDuplicate},
		{"joining of a server that is removed and never joined", "join 7", used(), 1, api.ErrDuplicate},
		{"removal of a stranger", "remove 9", genesis(), 1, api.ErrNotFound},
		{"removal of a removed server", "remove 4", used(), 1, api.ErrNotFound},
		{"removal of a server that is removed and never joined", "remove 7", used(), 1, api.ErrNotFound},
		{"removal of a server that has only a weight", "remove 8", used(), 1, api.ErrNotFound},
		{"removal before the joining", "remove 4\njoin 4", genesis(), 1, api.ErrNotFound},
		{"weight of a stranger", "weight 12 1", genesis(), 1, api.ErrNotFound},
		{"weight of a removed server", "weight 5 1", used(), 1, api.ErrNotFound},
		{"weight of a server that has only a weight", "weight 8 1", used(), 1, api.ErrNotFound},
		{"weight before the joining", "weight 4 1\njoin 4", genesis(), 1, api.ErrNotFound},
		{"the last version of a weight", "weight 6 1", used(), 1, api.ErrRange},
		{"the last version of the weight of a new server", "join 9\nweight 9 1", used(), 2, api.ErrRange},
		{"the last version of a rule", "rule majority", newest, 1, api.ErrRange},

		{"syntax before too long", six + "foo", genesis(), 7, api.ErrSyntax},
		{"range before too long", six + "join 0", genesis(), 7, api.ErrRange},
		{"too long before a duplicate", six + "join 12", genesis(), 7, api.ErrTooLong},
		{"too long before the joining of a member", six + "join 1", genesis(), 7, api.ErrTooLong},
		{"too long before a stranger", six + "remove 4", genesis(), 7, api.ErrTooLong},
		{"too long before the last version", six + "rule majority", newest, 7, api.ErrTooLong},
		{"not found before the version", "weight 4 1", used(), 1, api.ErrNotFound},
		{"not found before the version of a stranger", "weight 9 1", used(), 1, api.ErrNotFound},
		{"the first line with an error", "join 4\nremove 9\nfoo\njoin 4", genesis(), 2, api.ErrNotFound},
		{"the line before too many lines", "join 4\njoin 1\n" + six + "foo", genesis(), 2, api.ErrDuplicate},
	} {
		got, line, e := Compile(x.text, x.s)
		if len(got) != 0 || line != x.line || e != x.e {
			t.Errorf("%s: Compile(%q) = %v, %d, %v, want %d, %v", x.name, x.text, got, line, e, x.line, x.e)
		}
	}
}

// compiled is the definition of Compile in P8.3.
func compiled(text string, s api.Summary) ([]api.Change, int, api.Errno) {
	joined, removed, versions := map[int]bool{}, map[int]bool{}, map[int]int{}
	for _, server := range s.Joined {
		joined[server] = true
	}
	for _, server := range s.Removed {
		removed[server] = true
	}
	for _, w := range s.Weights {
		versions[w.Server] = w.Version
	}
	var out []api.Change
	there := map[[2]int]bool{}
	for i, line := range strings.Split(text, "\n") {
		if len(line) == 0 || line[0] == '#' {
			continue
		}
		c, e := parsed(line)
		if e != api.OK {
			return nil, i + 1, e
		}
		version := map[int]int{api.ChangeWeight: versions[c.Server] + 1, api.ChangeRule: s.Version + 1}[c.Kind]
		found := joined[c.Server] && !removed[c.Server] || there[[2]int{api.ChangeJoin, c.Server}]
		switch {
		case len(out) >= 6:
			return nil, i + 1, api.ErrTooLong
		case there[[2]int{c.Kind, c.Server}]:
			return nil, i + 1, api.ErrDuplicate
		case c.Kind == api.ChangeJoin && (joined[c.Server] || removed[c.Server]):
			return nil, i + 1, api.ErrDuplicate
		case (c.Kind == api.ChangeRemove || c.Kind == api.ChangeWeight) && !found:
			return nil, i + 1, api.ErrNotFound
		case version > 1000:
			return nil, i + 1, api.ErrRange
		}
		c.Version = version
		there[[2]int{c.Kind, c.Server}] = true
		out = append(out, c)
	}
	if len(out) == 0 {
		return nil, 0, api.ErrInvalid
	}
	return out, 0, api.OK
}

// randomText returns some lines, most of which are commands.
func randomText(r *rand.Rand) string {
	var lines []string
	for range r.Intn(10) {
		server := 1 + r.Intn(api.MaxServers)
		lines = append(lines, []string{
			fmt.Sprintf("join %d", server), fmt.Sprintf("join %d weight %d", server, 1+r.Intn(9)), fmt.Sprintf("remove %d", server), fmt.Sprintf("weight %d %d", server, 1+r.Intn(9)),
			fmt.Sprintf("join %d\nweight %d 3", server, server), Format(rule(rules()[r.Intn(len(rules()))], 0)), "", "# x",
			[]string{"foo", "join 0", "rule grid 13", "weight 4 10", " ", "rule"}[r.Intn(6)],
		}[[]int{0, 0, 1, 1, 2, 2, 2, 3, 3, 3, 4, 4, 5, 6, 7, 8}[r.Intn(16)]])
	}
	return strings.Join(lines, "\n")
}

func checkCompile(t *testing.T, text string, s api.Summary) api.Errno {
	t.Helper()
	got, line, e := Compile(text, s)
	if want, wantLine, wanted := compiled(text, s); !slices.Equal(got, want) || line != wantLine || e != wanted {
		t.Fatalf("Compile(%q, %v) = %v, %d, %v, want %v, %d, %v", text, s, got, line, e, want, wantLine, wanted)
	}
	return e
}

func TestCompileIsItsDefinition(t *testing.T) {
	r := rand.New(rand.NewSource(83))
	count := map[api.Errno]int{}
	for range 40000 {
		count[checkCompile(t, randomText(r), randomSummary(r))]++
	}
	for _, e := range []api.Errno{api.OK, api.ErrInvalid, api.ErrSyntax, api.ErrRange, api.ErrDuplicate, api.ErrNotFound} {
		if count[e] < 1000 {
			t.Errorf("error %v occurs %d times only", e, count[e])
		}
	}
	for range 20000 {
		count[checkCompile(t, randomText(r)+"\n"+randomText(r), used())]++
		count[checkCompile(t, sevenLines(r), genesis())]++
	}
	if count[api.ErrTooLong] < 1000 {
		t.Errorf("too long occurs %d times only", count[api.ErrTooLong])
	}
}

// sevenLines returns six lines that have no error relative to genesis, and any other one.
func sevenLines(r *rand.Rand) string {
	lines := []string{"join 4", "join 5 weight 2", "remove 1", "weight 1 2", "weight 2 3", "rule grid 2"}
	r.Shuffle(len(lines), func(i, j int) { lines[i], lines[j] = lines[j], lines[i] })
	return strings.Join(lines, "\n") + "\n" + randomText(r)
}

func TestCompileOneLine(t *testing.T) {
	for _, s := range []api.Summary{genesis(), used(), {}, {Joined: []int{1}, Rule: weighted, Version: 1000}, {Joined: []int{1}, Rule: weighted, Version: 999}} {
		for _, c := range changes() {
			checkCompile(t, Format(c), s)
			for _, d := range changes() {
				if c.Server == d.Server {
					checkCompile(t, Format(c)+"\n"+Format(d), s)
				}
			}
		}
	}
}

// P8.4

func TestFormatsParse(t *testing.T) {
	for _, c := range changes() {
		want := c
		want.Version = 0
		if got, e := Parse(Format(c)); got != want || e != api.OK {
			t.Errorf("Parse(%q) = %v, %v, want %v", Format(c), got, e, want)
		}
		if Format(want) != Format(c) {
			t.Errorf("Format(%v) = %q, Format(%v) = %q", want, Format(want), c, Format(c))
		}
	}
}

func TestCompiledChangesAreAProposal(t *testing.T) {
	r := rand.New(rand.NewSource(84))
	proposals := 0
	for range 50000 {
		s := randomSummary(r)
		if e := member.Validate(s); e != api.OK {
			t.Fatalf("the summary %v has the error %v", s, e)
		}
		list, _, e := Compile(randomText(r), s)
		if e != api.OK {
			continue
		}
		proposals++
		p := api.Proposal{Admin: api.FirstAdmin + r.Intn(api.MaxAdmins), Number: 1 + r.Intn(api.MaxProposals), Changes: list}
		if e := proposal.Validate(p); e != api.OK {
			t.Fatalf("the proposal %v has the error %v", p, e)
		}
		checkEffect(t, s, p)
	}
	if proposals < 1000 {
		t.Errorf("only %d proposals", proposals)
	}
}

// checkEffect tests that the weights and the rule of p apply after those of s: their versions are greater.
func checkEffect(t *testing.T, s api.Summary, p api.Proposal) {
	t.Helper()
	after := member.Join(s, member.Of(p))
	for _, c := range p.Changes {
		i := slices.IndexFunc(after.Weights, func(w api.WeightEntry) bool { return w.Server == c.Server })
		if c.Kind == api.ChangeRule && after.Rule != c.Rule || c.Kind == api.ChangeWeight && after.Weights[i].Weight != c.Weight {
			t.Fatalf("the change %v of %v does not apply after %v: %v", c, p, s, after)
		}
	}
}

// R1

func TestMalformedSummaries(t *testing.T) {
	r := rand.New(rand.NewSource(85))
	for _, s := range malformedSummaries() {
		for _, text := range []string{"rule majority", "weight 1 2", "weight 3 2", "join 4\nweight 4 3\nremove 4", "remove 0", "join 1"} {
			Compile(text, s)
		}
		for range 1000 {
			Compile(randomText(r), s)
		}
	}
	for _, text := range []string{"rule majority", "weight 1 2"} {
		s := api.Summary{Joined: []int{1}, Weights: []api.WeightEntry{entry(1, 1, math.MaxInt)}, Rule: majority, Version: math.MaxInt}
		if list, line, e := Compile(text, s); len(list) != 0 || line != 1 || e != api.ErrRange {
			t.Errorf("Compile(%q) after the greatest versions = %v, %d, %v", text, list, line, e)
		}
	}
}

func TestArbitraryTexts(t *testing.T) {
	r := rand.New(rand.NewSource(86))
	for range 100000 {
		b := make([]byte, r.Intn(12))
		for i := range b {
			b[i] = "jo 1#\n\x00\xff"[r.Intn(8)]
		}
		if r.Intn(4) == 0 {
			r.Read(b)
		}
		checkParse(t, string(b))
		checkCompile(t, string(b), used())
	}
}

// R2

// withRoom returns a copy of list with room behind it into which an append could write.
func withRoom[E any](list []E) []E {
	out := make([]E, len(list)+10)
	return out[:copy(out, list)]
}

// whole returns list with the elements behind it that an append could reach.
func whole[E any](list []E) []E { return list[:cap(list)] }

// roomy returns a copy of s whose lists have room.
func roomy(s api.Summary) api.Summary {
	s.Joined, s.Removed, s.Weights = withRoom(s.Joined), withRoom(s.Removed), withRoom(s.Weights)
	return s
}

// reach returns s with all that an append to its lists could reach.
func reach(s api.Summary) api.Summary {
	s.Joined, s.Removed, s.Weights = whole(s.Joined), whole(s.Removed), whole(s.Weights)
	return s
}

func TestArgumentsAreKept(t *testing.T) {
	r := rand.New(rand.NewSource(87))
	for _, s := range append(malformedSummaries(), genesis(), used(), randomSummary(r), randomSummary(r)) {
		for range 200 {
			given := roomy(s)
			Compile(randomText(r), given)
			if !reflect.DeepEqual(reach(given), reach(roomy(s))) {
				t.Fatalf("the summary %v has become %v", s, reach(given))
			}
		}
	}
}

func TestCompileReturnsNewMemory(t *testing.T) {
	text, s := "join 7\nweight 2 3\nremove 1\nrule grid 2", roomy(genesis())
	first, _, _ := Compile(text, s)
	second, _, _ := Compile(text, s)
	want := []api.Change{join(7, 1), weight(2, 3, 1), remove(1), rule(api.Rule{Kind: api.RuleGrid, Columns: 2}, 1)}
	for _, list := range [][]int{s.Joined, s.Removed} {
		clear(whole(list))
	}
	clear(whole(s.Weights))
	if !slices.Equal(first, want) {
		t.Errorf("the changes have become %v with the summary", first)
	}
	clear(whole(first))
	if !slices.Equal(second, want) {
		t.Errorf("the changes have become %v with another result", second)
	}
}

// R5

func TestNilIsEmpty(t *testing.T) {
	empty := api.Summary{Joined: []int{}, Removed: []int{}, Weights: []api.WeightEntry{}}
	for _, text := range []string{"", "join 1", "remove 1", "weight 1 2", "rule majority", "join 1\nweight 1 2\nremove 1\nrule weighted"} {
		a, aLine, aError := Compile(text, api.Summary{})
		b, bLine, bError := Compile(text, empty)
		if !slices.Equal(a, b) || aLine != bLine || aError != bError {
			t.Errorf("Compile(%q) = %v, %d, %v, and for empty lists %v, %d, %v", text, a, aLine, aError, b, bLine, bError)
		}
	}
}

// R9

func TestLongArguments(t *testing.T) {
	const size = 1 << 24
	long := func(piece string) string { return strings.Repeat(piece, size/len(piece)) }
	for _, piece := range []string{" ", "0", "9", "x", "join ", "0 ", "join 4 weight 2 ", "\xff"} {
		for _, before := range []string{"", "join ", "join 4 weight ", "rule grid "} {
			if c, e := Parse(before + long(piece)); c != (api.Change{}) || e != api.ErrSyntax {
				t.Errorf("Parse of %q and many times %q = %v, %v", before, piece, c, e)
			}
		}
	}
	for _, x := range []struct {
		name string
		text string
		line int
		e    api.Errno
	}{
		{"empty lines", long("\n") + "rule grid 2", 0, api.OK},
		{"short comments", long("#\n") + "rule grid 2", 0, api.OK},
		{"a long comment", "#" + long("x") + "\nrule grid 2", 0, api.OK},
		{"empty lines before an error", long("\n") + "rule", size + 1, api.ErrSyntax},
		{"empty lines before a duplicate", "rule grid 2" + long("\n") + "rule majority", size + 1, api.ErrDuplicate},
		{"commands", long("join 4\n"), 2, api.ErrDuplicate},
		{"a long line", "join 4\n" + long("x"), 2, api.ErrSyntax},
	} {
		list, line, e := Compile(x.text, genesis())
		if ok := e == api.OK; line != x.line || e != x.e || ok != slices.Equal(list, []api.Change{rule(api.Rule{Kind: api.RuleGrid, Columns: 2}, 1)}) {
			t.Errorf("%s: %v, %d, %v, want %d, %v", x.name, list, line, e, x.line, x.e)
		}
	}
	s := api.Summary{Joined: make([]int, size/8), Removed: make([]int, size/8), Weights: make([]api.WeightEntry, size/40)}
	Compile("join 1\nweight 1 2\nremove 1\njoin 2\nweight 2 2\nremove 2", s)
}

func FuzzParse(f *testing.F) {
	for _, c := range changes()[:40] {
		f.Add(Format(c))
	}
	for _, line := range []string{"", "join 4", "rule majority", "rule grid 3", "rule masking 0", "join 04", "join 4 weight 2 3"} {
		f.Add(line)
	}
	f.Fuzz(func(t *testing.T, line string) {
		checkParse(t, line)
		c, e := Parse(line)
		if again, _ := Parse(Format(c)); e == api.OK && again != c {
			t.Errorf("Parse(%q) = %v, but its command is %q", line, c, Format(c))
		}
	})
}

func FuzzCompile(f *testing.F) {
	f.Add("join 4 weight 2\nremove 1\n", int64(1))
	f.Add("# x\n\nweight 2 3\nrule grid 2\njoin 5\nweight 5 2\nremove 5\njoin 6\njoin 7", int64(2))
	f.Fuzz(func(t *testing.T, text string, seed int64) {
		for _, s := range []api.Summary{genesis(), used(), randomSummary(rand.New(rand.NewSource(seed)))} {
			checkCompile(t, text, s)
		}
	})
}
