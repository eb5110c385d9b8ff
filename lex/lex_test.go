package lex_test

import (
	"iter"
	"slices"
	"strconv"
	"strings"
	"testing"
	"time"

	"ponder/api"
	"ponder/lex"
)

func expect[T comparable](t *testing.T, what string, got, want T) {
	t.Helper()
	if got != want {
		t.Errorf("%s: got %v, want %v", what, got, want)
	}
}

// written writes tokens as `sign:(@0 var:s@1 end:@2`.
func written(l iter.Seq[lex.Token]) string {
	names := map[int]string{lex.Word: "word", lex.Num: "num", lex.Var: "var", lex.Sign: "sign", lex.End: "end", lex.Bad: "bad"}
	var parts []string
	for x := range l {
		parts = append(parts, names[x.Kind]+":"+x.Text+"@"+strconv.Itoa(x.At))
	}
	return strings.Join(parts, " ")
}

// expectTokens holds what both functions tell of text against want.
func expectTokens(t *testing.T, text, want string) {
	t.Helper()
	expect(t, "Tokens of "+strconv.Quote(text), written(lex.Tokens(text)), want)
	expect(t, "All of "+strconv.Quote(text), written(slices.Values(lex.All(text))), want)
}

// longest is a word that has as many bytes as a word may have.
var longest = "w" + strings.Repeat("-", api.MaxName-1)

func TestKinds(t *testing.T) {
	for i, kind := range []int{lex.Word, lex.Num, lex.Var, lex.Sign, lex.End, lex.Bad} {
		expect(t, "kind", kind, i+1)
	}
}

func TestExamples(t *testing.T) {
	expectTokens(t, "(<s> ^x -5)", "sign:(@0 var:s@1 sign:^@5 word:x@6 num:-5@8 sign:)@10 end:@11")
	expectTokens(t, "a<b", "word:a@0 sign:<@1 word:b@2 end:@3")
}

func TestProduction(t *testing.T) {
	expectTokens(t, "sp {a # the first\n  (state <s> ^x <v> -^y 3)\n-->\n  (<s> ^z (+ <v> -1) +)}\n",
		"word:sp@0 sign:{@3 word:a@4 sign:(@20 word:state@21 var:s@27 sign:^@31 word:x@32 var:v@34 sign:-@38 sign:^@39 word:y@40 num:3@42 sign:)@43"+
			" sign:-->@45 sign:(@51 var:s@52 sign:^@56 word:z@57 sign:(@59 sign:+@60 var:v@62 num:-1@66 sign:)@68 sign:+@70 sign:)@71 sign:}@72 end:@74")
}

func TestNothing(t *testing.T) {
	for _, text := range []string{"", " ", "\t\n\r ", "#", "#x", "# (<a> @", "#\n", "\n#", " # a\n\t# b # c\r d\n ", "###\n##"} {
		expectTokens(t, text, "end:@"+strconv.Itoa(len(text)))
	}
}

func TestBlanks(t *testing.T) {
	for i := range 256 {
		text := "a" + string([]byte{byte(i)}) + "1"
		want := "word:a@0 num:1@2 end:@3"
		switch c := byte(i); {
		case c == ' ' || c == '\t' || c == '\n' || c == '\r':
		case c == '#':
			want = "word:a@0 end:@3"
		case c == '-':
			want = "word:a-1@0 end:@3"
		case c == '_' || c >= 'a' && c <= 'z' || c >= '0' && c <= '9':
			want = "word:" + text + "@0 end:@3"
		case strings.IndexByte("(){}^+!~<>=*", c) >= 0:
			want = "word:a@0 sign:" + text[1:2] + "@1 num:1@2 end:@3"
		default:
			want = "word:a@0 bad:" + text[1:2] + "@1"
		}
		expectTokens(t, text, want)
	}
	expectTokens(t, "\r\n\t a \n\n b\t", "word:a@4 word:b@9 end:@11")
}

func TestRemarks(t *testing.T) {
	expectTokens(t, "a#b\nc", "word:a@0 word:c@4 end:@5")
	expectTokens(t, "#a\nb", "word:b@3 end:@4")
	expectTokens(t, "a # b", "word:a@0 end:@5")
	expectTokens(t, "a#b\rc", "word:a@0 end:@5")
	expectTokens(t, "a#b\r\n#c\n\n  #\nd", "word:a@0 word:d@13 end:@14")
	expectTokens(t, "-#\n5", "sign:-@0 num:5@3 end:@4")
	expectTokens(t, "<#>\na#\n>", "sign:<@0 word:a@4 sign:>@7 end:@8")
	expectTokens(t, "# @ \xff \u00e4 # \x00\nA", "bad:A@13")
}

func TestWords(t *testing.T) {
	for _, word := range []string{"a", "z", "a-", "a_", "a0", "z9", "a-b_c--0", "state", longest} {
		end := " end:@" + strconv.Itoa(len(word))
		expectTokens(t, word, "word:"+word+"@0"+end)
		expectTokens(t, word+"(", "word:"+word+"@0 sign:(@"+strconv.Itoa(len(word))+" end:@"+strconv.Itoa(len(word)+1))
	}
	expectTokens(t, "a-5", "word:a-5@0 end:@3")
	expectTokens(t, "a-->b", "word:a--@0 sign:>@3 word:b@4 end:@5")
	expectTokens(t, "aB", "word:a@0 bad:B@1")
	expectTokens(t, "_a", "bad:_@0")
	expectTokens(t, "a\u00e4", "word:a@0 bad:\xc3@1")
}

func TestLongWords(t *testing.T) {
	expectTokens(t, longest+" a", "word:"+longest+"@0 word:a@33 end:@34")
	for _, more := range []string{"a", "0", "-", "_", strings.Repeat("z9-_", 5000)} {
		expectTokens(t, "b "+longest+more+" c", "word:b@0 bad:"+longest+more+"@2")
	}
}

func TestNumbers(t *testing.T) {
	for _, number := range []string{"0", "1", "9", "10", "305", "-1", "-9", "-10", "-100", "2147483647", "-2147483647", "1000000000"} {
		behind := strconv.Itoa(len(number))
		expectTokens(t, number, "num:"+number+"@0 end:@"+behind)
		expectTokens(t, number+"a", "num:"+number+"@0 word:a@"+behind+" end:@"+strconv.Itoa(len(number)+1))
		expectTokens(t, number+"-", "num:"+number+"@0 sign:-@"+behind+" end:@"+strconv.Itoa(len(number)+1))
	}
	expectTokens(t, "5-5", "num:5@0 num:-5@1 end:@3")
	expectTokens(t, "--5", "sign:-@0 num:-5@1 end:@3")
	expectTokens(t, "- 5", "sign:-@0 num:5@2 end:@3")
	expectTokens(t, "+5", "sign:+@0 num:5@1 end:@2")
	expectTokens(t, "-a", "sign:-@0 word:a@1 end:@2")
	expectTokens(t, "1_0", "num:1@0 bad:_@1")
	expectTokens(t, "1.0", "num:1@0 bad:.@1")
	expectTokens(t, "\u0661", "bad:\xd9@0")
	expectTokens(t, "0 0 -1", "num:0@0 num:0@2 num:-1@4 end:@6")
}

func TestBadNumbers(t *testing.T) {
	for _, number := range []string{
		"-0", "00", "01", "09", "000", "-00", "-01", "-0123", "2147483648", "-2147483648", "2147483650", "9999999999", "4294967297",
		"9223372036854775807", "9223372036854775808", "-9223372036854775809", "18446744073709551616", "18446744073709551617",
		strings.Repeat("1", 3000), "-" + strings.Repeat("9", 3000), strings.Repeat("0", 3000), "-" + strings.Repeat("0", 3000) + "1",
	} {
		expectTokens(t, number, "bad:"+number+"@0")
		expectTokens(t, "(5 "+number+"a)", "sign:(@0 num:5@1 bad:"+number+"@3")
		expectTokens(t, number+"-1", "bad:"+number+"@0")
	}
}

func TestVariables(t *testing.T) {
	for _, name := range []string{"s", "z", "a-", "a_", "s12", "a-b_c", longest} {
		behind := len(name) + 2
		expectTokens(t, "<"+name+">", "var:"+name+"@0 end:@"+strconv.Itoa(behind))
		expectTokens(t, "<"+name+">>", "var:"+name+"@0 sign:>@"+strconv.Itoa(behind)+" end:@"+strconv.Itoa(behind+1))
	}
	expectTokens(t, "<a><b>", "var:a@0 var:b@3 end:@6")
	expectTokens(t, "a<b>c", "word:a@0 var:b@1 word:c@4 end:@5")
	for text, want := range map[string]string{
		"<a":     "sign:<@0 word:a@1 end:@2",
		"<a >":   "sign:<@0 word:a@1 sign:>@3 end:@4",
		"< a>":   "sign:<@0 word:a@2 sign:>@3 end:@4",
		"<a b>":  "sign:<@0 word:a@1 word:b@3 sign:>@4 end:@5",
		"<a\n>":  "sign:<@0 word:a@1 sign:>@3 end:@4",
		"<>":     "sign:<>@0 end:@2",
		"<":      "sign:<@0 end:@1",
		"<5>":    "sign:<@0 num:5@1 sign:>@2 end:@3",
		"<-5>":   "sign:<@0 num:-5@1 sign:>@3 end:@4",
		"<_a>":   "sign:<@0 bad:_@1",
		"<A>":    "sign:<@0 bad:A@1",
		"<aB>":   "sign:<@0 word:a@1 bad:B@2",
		"<<a>":   "sign:<<@0 word:a@2 sign:>@3 end:@4",
		"<<a>>":  "sign:<<@0 word:a@2 sign:>>@3 end:@5",
		"< <a>>": "sign:<@0 var:a@2 sign:>@5 end:@6",
		"<a<b>":  "sign:<@0 word:a@1 var:b@2 end:@5",
		"<a=>":   "sign:<@0 word:a@1 sign:=@2 sign:>@3 end:@4",
		"<a->":   "var:a-@0 end:@4",
	} {
		expectTokens(t, text, want)
	}
}

func TestLongVariables(t *testing.T) {
	for _, more := range []string{"a", "0", "-", "_", strings.Repeat("z9-_", 5000)} {
		expectTokens(t, "b<"+longest+more+"> c", "word:b@0 bad:<"+longest+more+">@1")
		expectTokens(t, "b<"+longest+more+" > c", "word:b@0 sign:<@1 bad:"+longest+more+"@2")
	}
}

func TestSigns(t *testing.T) {
	signs := []string{"-->", "<=>", "<<", ">>", "<>", "<=", ">=", "(", ")", "{", "}", "^", "+", "-", "!", "~", "<", ">", "=", "*"}
	for _, sign := range signs {
		expectTokens(t, sign, "sign:"+sign+"@0 end:@"+strconv.Itoa(len(sign)))
		expectTokens(t, "a "+sign+" 1", "word:a@0 sign:"+sign+"@2 num:1@"+strconv.Itoa(len(sign)+3)+" end:@"+strconv.Itoa(len(sign)+4))
	}
}

func TestLongestSign(t *testing.T) {
	for text, want := range map[string]string{
		"--":    "sign:-@0 sign:-@1 end:@2",
		"->":    "sign:-@0 sign:>@1 end:@2",
		"--->":  "sign:-@0 sign:-->@1 end:@4",
		"-->>":  "sign:-->@0 sign:>@3 end:@4",
		"-- >":  "sign:-@0 sign:-@1 sign:>@3 end:@4",
		"->>":   "sign:-@0 sign:>>@1 end:@3",
		"-->5":  "sign:-->@0 num:5@3 end:@4",
		"<=>=":  "sign:<=>@0 sign:=@3 end:@4",
		"<<=>":  "sign:<<@0 sign:=@2 sign:>@3 end:@4",
		"<=<=>": "sign:<=@0 sign:<=>@2 end:@5",
		"<==>":  "sign:<=@0 sign:=@2 sign:>@3 end:@4",
		"<<<":   "sign:<<@0 sign:<@2 end:@3",
		"<<>":   "sign:<<@0 sign:>@2 end:@3",
		"<>>":   "sign:<>@0 sign:>@2 end:@3",
		"<>=":   "sign:<>@0 sign:=@2 end:@3",
		">>>=":  "sign:>>@0 sign:>=@2 end:@4",
		">>=":   "sign:>>@0 sign:=@2 end:@3",
		">=>":   "sign:>=@0 sign:>@2 end:@3",
		"=>":    "sign:=@0 sign:>@1 end:@2",
		"==":    "sign:=@0 sign:=@1 end:@2",
		"<-->":  "sign:<@0 sign:-->@1 end:@4",
		"(){}":  "sign:(@0 sign:)@1 sign:{@2 sign:}@3 end:@4",
		"^+!~*": "sign:^@0 sign:+@1 sign:!@2 sign:~@3 sign:*@4 end:@5",
		"-^a":   "sign:-@0 sign:^@1 word:a@2 end:@3",
	} {
		expectTokens(t, text, want)
	}
}

// A Bad is the last token: no other one and no End come behind it.
func TestBad(t *testing.T) {
	for i := range 256 {
		c := byte(i)
		if c >= 'a' && c <= 'z' || c >= '0' && c <= '9' || strings.IndexByte(" \t\n\r#(){}^+-!~<>=*", c) >= 0 {
			continue
		}
		one := string([]byte{c})
		expectTokens(t, one, "bad:"+one+"@0")
		expectTokens(t, " "+one+one+" b @", "bad:"+one+"@1")
		expectTokens(t, "5#\n"+one+" b", "num:5@0 bad:"+one+"@3")
	}
}

// A piece of a text is read as if nothing stood around it.
func TestPiece(t *testing.T) {
	text := "<abc>12-->"
	expectTokens(t, text[:4], "sign:<@0 word:abc@1 end:@4")
	expectTokens(t, text[1:7], "word:abc@0 sign:>@3 num:12@4 end:@6")
	expectTokens(t, text[6:9], "num:2@0 sign:-@1 sign:-@2 end:@3")
	expectTokens(t, text[:0], "end:@0")
}

func TestTokensAreLeft(t *testing.T) {
	all := lex.Tokens("(<s> ^x -5) @ a")
	whole := strings.Fields(written(all))
	expect(t, "tokens", len(whole), 7)
	for most := 1; most <= len(whole); most++ {
		var got []lex.Token
		for x := range all {
			got = append(got, x)
			if len(got) == most {
				break
			}
		}
		expect(t, "left", written(slices.Values(got)), strings.Join(whole[:most], " "))
	}
	expect(t, "again", written(all), strings.Join(whole, " "))
}

func TestLoopsWithinLoops(t *testing.T) {
	all := lex.Tokens("a 1")
	got := ""
	for x := range all {
		got += x.Text + "(" + written(all) + ")"
	}
	expect(t, "loops", got, "a(word:a@0 num:1@2 end:@3)1(word:a@0 num:1@2 end:@3)(word:a@0 num:1@2 end:@3)")
}

func TestPanicOfLoopComesThrough(t *testing.T) {
	caught := func() (what any) {
		defer func() { what = recover() }()
		for range lex.Tokens("a") {
			panic("mine")
		}
		return nil
	}()
	expect(t, "panic", caught, any("mine"))
}

func TestListsAreTheCallers(t *testing.T) {
	a, b := lex.All("a 1 b"), lex.All("a 1 b")
	want := written(slices.Values(b))
	for i := range a {
		a[i] = lex.Token{}
	}
	_ = append(a[:1], b[1:]...)
	expect(t, "the other list", written(slices.Values(b)), want)
	expect(t, "a third one", written(slices.Values(lex.All("a 1 b"))), want)
}

// quickest answers how long the quickest of some runs took.
func quickest(run func()) time.Duration {
	best := time.Hour
	for range 5 {
		start := time.Now()
		run()
		best = min(best, time.Since(start))
	}
	return best
}

// A loop that is left early reads no farther: whatever lies behind costs nothing.
func TestReadsNoFarther(t *testing.T) {
	for _, piece := range []string{"a ", "(", " ", "#\n", "x", "7", "<v>", "@"} {
		text := "a b c " + strings.Repeat(piece, 1<<20)
		part := quickest(func() {
			for x := range lex.Tokens(text) {
				if x.At == 2 {
					break
				}
			}
		})
		through := quickest(func() { strings.LastIndex(text, "\x00") })
		if part > through {
			t.Errorf("two tokens of many %q took %v, to go through the text %v", piece, part, through)
		}
	}
}

// Each byte is looked at a few times only, whatever stands in the text.
func TestLongTexts(t *testing.T) {
	const n = 1 << 18
	for piece, want := range map[string]int{
		"<": n/2 + 1, "a ": n + 1, "<a": 2*n + 1, "<a>": n + 1, "- ": n + 1, "-": n + 1, "-->": n + 1, "#": 1, "#\n": 1, " ": 1, "1-": n + 2, "a": 1, "1": 1, "-1": n + 1,
	} {
		expect(t, "many "+strconv.Quote(piece), len(lex.All(strings.Repeat(piece, n))), want)
	}
}
