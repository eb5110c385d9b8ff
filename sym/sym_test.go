package sym_test

import (
	"regexp"
	"strconv"
	"strings"
	"testing"

	"ponder/api"
	"ponder/sym"
)

func id(letter string, n int) api.Sym { return api.Sym{Kind: api.Id, Text: letter, N: n} }

func num(n int) api.Sym { return api.Sym{Kind: api.Int, N: n} }

func word(t string) api.Sym { return api.Sym{Kind: api.Str, Text: t} }

func expect[T comparable](t *testing.T, what string, got, want T) {
	t.Helper()
	if got != want {
		t.Errorf("%s: got %v, want %v", what, got, want)
	}
}

// longest is a word that has as many bytes as a word may have.
var longest = "w" + strings.Repeat("-", api.MaxName-1)

// symbols answers valid symbols by their texts, the edges of each kind among them.
func symbols() map[string]api.Sym {
	return map[string]api.Sym{
		"A1": id("A", 1), "Z1048576": id("Z", api.MaxSeq), "S12": id("S", 12), "M100": id("M", 100),
		"0": num(0), "1": num(1), "-1": num(-1), "10": num(10), "-305": num(-305),
		"2147483647": num(api.MaxInt), "-2147483647": num(-api.MaxInt),
		"a": word("a"), "z": word("z"), "s12": word("s12"), "a-b_c": word("a-b_c"), "x--": word("x--"), "y_": word("y_"), "z0": word("z0"), "a9z": word("a9z"),
		longest: word(longest),
	}
}

// strangers answers symbols that are not valid, each near to one that is.
func strangers() []api.Sym {
	return []api.Sym{
		{},
		{N: 1},
		{Text: "a"},
		{Kind: -1, Text: "a"},
		{Kind: 4, Text: "a"},
		{Kind: 4, N: 1},
		id("A", 0), id("A", -1), id("A", api.MaxSeq+1), id("A", -api.MaxSeq),
		id("", 1), id("a", 1), id("AA", 1), id("@", 1), id("[", 1), id("1", 1), id("A ", 1), id("\x00", 1), id("\u00c4", 1), id("\xc4", 1), id("A1", 1),
		num(api.MaxInt + 1), num(-api.MaxInt - 1), {Kind: api.Int, Text: "1", N: 1}, {Kind: api.Int, Text: "a"}, {Kind: api.Int, Text: "-", N: 1},
		word(""), word("A"), word("1"), word("-a"), word("_a"), word("a b"), word("aB"), word("a."), word("\u00e4"), word("a\u00e4"), word("a\x00"), word(longest + "x"),
		{Kind: api.Str, Text: "a", N: 1}, {Kind: api.Str, Text: "a", N: -1},
	}
}

func TestValid(t *testing.T) {
	for text, s := range symbols() {
		expect(t, "Valid "+text, sym.Valid(s), true)
	}
	for _, s := range strangers() {
		if sym.Valid(s) {
			t.Errorf("%#v is valid", s)
		}
	}
}

func TestValidLetters(t *testing.T) {
	for i := range 256 {
		text := string([]byte{byte(i)})
		expect(t, "identifier with "+strconv.Quote(text), sym.Valid(id(text, 1)), i >= 'A' && i <= 'Z')
		expect(t, "word "+strconv.Quote(text), sym.Valid(word(text)), i >= 'a' && i <= 'z')
	}
}

func TestWord(t *testing.T) {
	for i := range 256 {
		c := byte(i)
		small := c >= 'a' && c <= 'z'
		inner := small || c >= '0' && c <= '9' || c == '-' || c == '_'
		for text, want := range map[string]bool{
			string([]byte{c}):                                     small,
			string([]byte{c, 'x'}):                                small,
			string([]byte{'x', c}):                                inner,
			string([]byte{'x', c, 'x'}):                           inner,
			longest[1:] + "x":                                     false,
			longest[1:] + string([]byte{c}):                       false,
			longest[:api.MaxName-1] + string([]byte{c}):           inner,
			"a" + longest[2:api.MaxName-1] + string([]byte{c, c}): inner,
			longest + string([]byte{c}):                           false,
		} {
			expect(t, "Word "+strconv.Quote(text), sym.Word(text), want)
		}
	}
	for n := range 100 {
		expect(t, strconv.Itoa(n)+" letters", sym.Word(strings.Repeat("k", n)), n >= 1 && n <= api.MaxName)
	}
	expect(t, "a long one", sym.Word(strings.Repeat("k", 1<<20)), false)
	expect(t, "letters of two bytes", sym.Word("a"+strings.Repeat("\u00e4", 3)), false)
}

func TestText(t *testing.T) {
	for text, s := range symbols() {
		expect(t, "Text", sym.Text(s), text)
	}
	for _, s := range strangers() {
		if text := sym.Text(s); text != "" {
			t.Errorf("%#v has the text %q", s, text)
		}
	}
}

func TestParse(t *testing.T) {
	for text, s := range symbols() {
		expectParse(t, text, s, true)
	}
	for _, text := range []string{
		"", " ", "-0", "00", "01", "-01", "-00", "+1", "+0", "--1", "-", "+", "1-", "1a", "1 ", " 1", "\t1", "1\n", "1_0", "0x1", "1.0", "1e3", ".5", "\u0661",
		"2147483648", "-2147483648", "4294967297", "9223372036854775807", "9223372036854775808", "-9223372036854775808", "18446744073709551617", "18446744073709551616", strings.Repeat("9", 1000), "-" + strings.Repeat("9", 1000), strings.Repeat("0", 1000),
		"S", "S0", "S-1", "S+1", "S01", "S00", "S-0", "S 1", "S1 ", " S1", "SS1", "S1S", "S1.", "S1_0", "S1a", "Sa", "1S", "S1048577", "S4294967297", "S9223372036854775808", "S18446744073709551617", "S" + strings.Repeat("1", 1000), "\u00c41",
		"aB", "a b", "a ", " a", "_a", "-a", "a.", "a\x00", "\x00", "\xff", "\u00e4", "a\u00e4", longest + "x", "<a>", "^a",
	} {
		expectParse(t, text, api.Sym{}, false)
	}
}

func expectParse(t *testing.T, text string, want api.Sym, ok bool) {
	t.Helper()
	s, got := sym.Parse(text)
	expect(t, "Parse "+strconv.Quote(text), s, want)
	expect(t, "Parse "+strconv.Quote(text)+" there", got, ok)
}

func TestExample(t *testing.T) {
	expectParse(t, "-0", api.Sym{}, false)
	expect(t, "Text", sym.Text(id("S", 12)), "S12")
}

// A piece of a text is read as if nothing stood around it.
func TestParsePiece(t *testing.T) {
	text := "12S12abc"
	expectParse(t, text[:2], num(12), true)
	expectParse(t, text[2:4], id("S", 1), true)
	expectParse(t, text[2:5], id("S", 12), true)
	expectParse(t, text[5:7], word("ab"), true)
	expectParse(t, text, api.Sym{}, false)
}

// What Parse takes is told here by patterns, for all texts of few bytes.
func TestParseAllShortTexts(t *testing.T) {
	bytes := []string{""}
	for i := range 256 {
		bytes = append(bytes, string([]byte{byte(i)}))
	}
	few := strings.Split("AZazqQ0189-_+. \x00\xff", "")
	few = append(few, "")
	for _, a := range bytes {
		for _, b := range bytes {
			expectPattern(t, a+b)
		}
		for _, b := range few {
			for _, c := range few {
				expectPattern(t, a+b+c)
				expectPattern(t, "S1"+a+b+c)
				expectPattern(t, "-"+a+b+c)
			}
		}
	}
}

var pattern = regexp.MustCompile(`^(?:([A-Z])([1-9][0-9]*)|(0|-?[1-9][0-9]*)|([a-z][a-z0-9_-]*))$`)

// expectPattern holds Parse of a short text, whose number is small in any case, against the pattern.
func expectPattern(t *testing.T, text string) {
	t.Helper()
	want := api.Sym{}
	m := pattern.FindStringSubmatch(text)
	switch {
	case m == nil || strings.HasSuffix(text, "\n"):
	case m[1] != "":
		n, _ := strconv.Atoi(m[2])
		want = id(m[1], n)
	case m[3] != "":
		n, _ := strconv.Atoi(m[3])
		want = num(n)
	default:
		want = word(m[4])
	}
	s, ok := sym.Parse(text)
	if s != want || ok != (want.Kind != 0) {
		t.Errorf("Parse %q: got %v, %v, want %v", text, s, ok, want)
	}
	if ok && sym.Text(s) != text {
		t.Errorf("the text of %q is %q", text, sym.Text(s))
	}
}
