package lex_test

import (
	"regexp"
	"slices"
	"strings"
	"testing"

	"pangram/api"
	"pangram/lex"
)

var keywords = []string{"fun", "let", "rec", "in", "if", "then", "else", "true", "false", "int", "bool"}

func token(kind int, text string, from int) api.Token {
	return api.Token{Kind: kind, Text: text, At: api.Span{From: from, To: from + len(text)}}
}

func end(at int) api.Token { return token(api.End, "", at) }

func tokensOf(t *testing.T, s string) []api.Token {
	t.Helper()
	l, place, e := lex.Words(s)
	if place != 0 || e != api.OK {
		t.Fatalf("Words(%q): place %d, error %d", s, place, e)
	}
	return l
}

func wantTokens(t *testing.T, s string, want ...api.Token) {
	t.Helper()
	if l := tokensOf(t, s); !slices.Equal(l, want) {
		t.Errorf("Words(%q) = %v, want %v", s, l, want)
	}
}

func wantError(t *testing.T, s string, place int, e api.Errno) {
	t.Helper()
	if l, p, got := lex.Words(s); len(l) != 0 || p != place || got != e {
		t.Errorf("Words(%q) = %v, %d, %d, want none, %d, %d", s, l, p, got, place, e)
	}
}

// P2.1

func TestWords(t *testing.T) {
	wantTokens(t, "x->1", token(api.Name, "x", 0), token(api.Sign, "->", 1), token(api.Number, "1", 3), end(4))
	wantTokens(t, "let rec f_1=(true,20)",
		token(api.Word, "let", 0), token(api.Word, "rec", 4), token(api.Name, "f_1", 8), token(api.Sign, "=", 11),
		token(api.Sign, "(", 12), token(api.Word, "true", 13), token(api.Sign, ",", 17), token(api.Number, "20", 18),
		token(api.Sign, ")", 20), end(21))
	wantTokens(t, "(),:=*->",
		token(api.Sign, "(", 0), token(api.Sign, ")", 1), token(api.Sign, ",", 2), token(api.Sign, ":", 3),
		token(api.Sign, "=", 4), token(api.Sign, "*", 5), token(api.Sign, "->", 6), end(8))
	wantTokens(t, "->->", token(api.Sign, "->", 0), token(api.Sign, "->", 2), end(4))
	wantTokens(t, "1->2", token(api.Number, "1", 0), token(api.Sign, "->", 1), token(api.Number, "2", 3), end(4))
}

func TestTokensAreAsLongAsTheyCanBe(t *testing.T) {
	for _, w := range keywords {
		wantTokens(t, w, token(api.Word, w, 0), end(len(w)))
		for _, behind := range []string{"x", "1", "_"} {
			wantTokens(t, w+behind, token(api.Name, w+behind, 0), end(len(w)+1))
		}
		wantTokens(t, "x"+w, token(api.Name, "x"+w, 0), end(len(w)+1))
		wantTokens(t, w+"("+w, token(api.Word, w, 0), token(api.Sign, "(", len(w)), token(api.Word, w, len(w)+1), end(2*len(w)+1))
	}
	wantTokens(t, "inin", token(api.Name, "inin", 0), end(4))
	wantTokens(t, "a__0z9", token(api.Name, "a__0z9", 0), end(6))
}

func TestBlanks(t *testing.T) {
	for _, s := range []string{"", " ", "\t\n\r ", "#", "#\n", "# a", "#a\n#b", "#\n\n#", " # -$\xff\x00 \n", "##", "# \r 007"} {
		wantTokens(t, s, end(len(s)))
	}
	wantTokens(t, " \t\r\nx \t\r\n", token(api.Name, "x", 4), end(9))
	wantTokens(t, "x#y\nz", token(api.Name, "x", 0), token(api.Name, "z", 4), end(5))
	wantTokens(t, "x #y\rz\n1#", token(api.Name, "x", 0), token(api.Number, "1", 7), end(9))
	wantTokens(t, "1#a\n2", token(api.Number, "1", 0), token(api.Number, "2", 4), end(5))
	wantTokens(t, "0#0", token(api.Number, "0", 0), end(3))
	wantTokens(t, "in#\nt", token(api.Word, "in", 0), token(api.Name, "t", 4), end(5))
	wantError(t, "#\n$", 2, api.ErrForm)
	wantError(t, "\v", 0, api.ErrForm)
	wantError(t, "x\f", 1, api.ErrForm)
	wantError(t, "\xc2\xa0", 0, api.ErrForm)
	wantError(t, "-#\n>", 0, api.ErrForm)
}

func TestEachByte(t *testing.T) {
	for b := range 256 {
		s := string([]byte{byte(b)})
		switch {
		case strings.Contains(" \t\n\r#", s):
			wantTokens(t, s, end(1))
		case b >= 'a' && b <= 'z':
			wantTokens(t, s, token(api.Name, s, 0), end(1))
			wantTokens(t, "x"+s+" ", token(api.Name, "x"+s, 0), end(3))
		case b >= '0' && b <= '9':
			wantTokens(t, s, token(api.Number, s, 0), end(1))
			wantTokens(t, "x"+s+" ", token(api.Name, "x"+s, 0), end(3))
		case strings.Contains("(),:=*", s):
			wantTokens(t, s, token(api.Sign, s, 0), end(1))
			wantTokens(t, "x"+s+" ", token(api.Name, "x", 0), token(api.Sign, s, 1), end(3))
		default:
			wantError(t, s, 0, api.ErrForm)
			wantError(t, " "+s, 1, api.ErrForm)
			wantError(t, s+s+">", 0, api.ErrForm)
		}
		wantTokens(t, "#"+s+"\n1", token(api.Number, "1", 3), end(4))
	}
}

func TestBytesThatBeginNone(t *testing.T) {
	wantError(t, "_a", 0, api.ErrForm)
	wantError(t, "aB", 1, api.ErrForm)
	wantError(t, "a -b", 2, api.ErrForm)
	wantError(t, "a -", 2, api.ErrForm)
	wantError(t, "- >", 0, api.ErrForm)
	wantError(t, "-->", 0, api.ErrForm)
	wantError(t, "->>", 2, api.ErrForm)
	wantError(t, ">", 0, api.ErrForm)
}

func TestLongNames(t *testing.T) {
	name20 := "abcdefghijklmnop_123"
	wantTokens(t, name20, token(api.Name, name20, 0), end(20))
	wantTokens(t, name20+" "+name20, token(api.Name, name20, 0), token(api.Name, name20, 21), end(41))
	wantTokens(t, name20+"(x", token(api.Name, name20, 0), token(api.Sign, "(", 20), token(api.Name, "x", 21), end(22))
	for _, more := range []string{"a", "4", "_"} {
		wantError(t, name20+more, 0, api.ErrLong)
		wantError(t, "x ("+name20+more+" $", 3, api.ErrLong)
	}
	wantError(t, strings.Repeat("z", 5000), 0, api.ErrLong)
	wantError(t, "fun"+strings.Repeat("z", 18), 0, api.ErrLong)
	wantError(t, name20+"A"+name20+"a", 20, api.ErrForm)
	wantTokens(t, "#"+name20+name20, end(41))
}

func TestNumbers(t *testing.T) {
	for _, s := range []string{"0", "7", "10", "100000000", "999999999"} {
		wantTokens(t, s, token(api.Number, s, 0), end(len(s)))
		wantTokens(t, s+")", token(api.Number, s, 0), token(api.Sign, ")", len(s)), end(len(s)+1))
	}
	wantTokens(t, "0 0", token(api.Number, "0", 0), token(api.Number, "0", 2), end(3))
	wantError(t, "1000000000", 0, api.ErrLong)
	wantError(t, "(1234567890 $", 1, api.ErrLong)
	wantError(t, "1234567890A", 0, api.ErrLong)
	wantError(t, strings.Repeat("9", 5000), 0, api.ErrLong)
	for _, s := range []string{"007", "00", "01", "0123456789", "0123456789a", "1x", "0x", "0_", "12_", "12a", "1234567890z", "1234567890_"} {
		wantError(t, s, 0, api.ErrForm)
		wantError(t, "x, "+s+" ", 3, api.ErrForm)
	}
	wantError(t, "1A", 1, api.ErrForm)
	wantError(t, "0A", 1, api.ErrForm)
}

func TestTheFirstErrorIsTold(t *testing.T) {
	wantError(t, "a $ 007", 2, api.ErrForm)
	wantError(t, "007 $", 0, api.ErrForm)
	wantError(t, "1234567890 abcdefghijklmnopqrstu", 0, api.ErrLong)
	wantError(t, "abcdefghijklmnopqrstu 1x", 0, api.ErrLong)
	wantError(t, "1x abcdefghijklmnopqrstu", 0, api.ErrForm)
	wantError(t, "x\n# $\n  $", 8, api.ErrForm)
}

// P2.2

func TestKeyword(t *testing.T) {
	for _, w := range keywords {
		if !lex.Keyword(w) {
			t.Error("no keyword", w)
		}
		for _, other := range []string{w + " ", " " + w, w[1:], w + "s", strings.ToUpper(w), w + w} {
			if lex.Keyword(other) {
				t.Errorf("%q is a keyword", other)
			}
		}
	}
	for _, s := range []string{"", "x", "i", "boo", "els", "where", "(", "->", "1"} {
		if lex.Keyword(s) {
			t.Errorf("%q is a keyword", s)
		}
	}
}

func TestName(t *testing.T) {
	for _, s := range []string{"a", "z", "x1", "in_", "fun1", "a_", "a__0", "letrec", "abcdefghijklmnopqrst"} {
		if !lex.Name(s) {
			t.Errorf("%q is no name", s)
		}
	}
	wrong := []string{"", "_a", "_", "1", "1a", "A", "aB", "a b", " a", "a ", "a\n", "a-b", "a#", "a'", "\xe4", "a\xe4", "abcdefghijklmnopqrstu", "a\x00"}
	for _, s := range append(wrong, keywords...) {
		if lex.Name(s) {
			t.Errorf("%q is a name", s)
		}
	}
}

func TestPrint(t *testing.T) {
	l := tokensOf(t, "fun x->(x,20) # rest\n: in")
	if got, want := lex.Print(l...), "fun x -> ( x , 20 ) : in"; got != want {
		t.Errorf("Print = %q, want %q", got, want)
	}
	if lex.Print() != "" || lex.Print(end(3)) != "" || lex.Print(end(3), end(0)) != "" {
		t.Error("none, printed")
	}
	if got := lex.Print(token(api.Name, "x", 0)); got != "x" {
		t.Errorf("one alone: %q", got)
	}
	between := []api.Token{{Kind: api.End, Text: "no"}, {Kind: api.Name, Text: "a"}, {Kind: api.End}, {Kind: 99, Text: "b c"}, {Kind: api.End}}
	if got, want := lex.Print(between...), "a b c"; got != want {
		t.Errorf("ends between: %q, want %q", got, want)
	}
	if got, want := lex.Print(api.Token{Kind: api.Sign}, token(api.Name, "a", 0), api.Token{Kind: api.Word}), " a "; got != want {
		t.Errorf("tokens without a text: %q, want %q", got, want)
	}
	if !slices.Equal(l, tokensOf(t, "fun x->(x,20) # rest\n: in")) {
		t.Error("Print changed what it was handed")
	}
}

// P2.3, and P2.1 by a second reader

var (
	blank  = regexp.MustCompile(`^([ \t\n\r]|#[^\n]*)+`)
	name   = regexp.MustCompile(`^[a-z][a-z0-9_]*`)
	number = regexp.MustCompile(`^[0-9]+`)
	glued  = regexp.MustCompile(`^(0[0-9]+|[0-9]+[a-z_])`)
	sign   = regexp.MustCompile(`^([(),:=*]|->)`)
)

// read is what Words is to answer, by patterns.
func read(s string) ([]api.Token, int, api.Errno) {
	var l []api.Token
	for from := len(blank.FindString(s)); from < len(s); from += len(blank.FindString(s[from:])) {
		rest, kind, text := s[from:], 0, ""
		switch {
		case name.MatchString(rest):
			kind, text = api.Name, name.FindString(rest)
			if slices.Contains(keywords, text) {
				kind = api.Word
			} else if len(text) > 20 {
				return nil, from, api.ErrLong
			}
		case glued.MatchString(rest):
			return nil, from, api.ErrForm
		case number.MatchString(rest):
			kind, text = api.Number, number.FindString(rest)
			if len(text) > 9 {
				return nil, from, api.ErrLong
			}
		case sign.MatchString(rest):
			kind, text = api.Sign, sign.FindString(rest)
		default:
			return nil, from, api.ErrForm
		}
		l = append(l, token(kind, text, from))
		from += len(text)
	}
	return append(l, end(len(s))), 0, api.OK
}

// checkText holds Words against the second reader, and its tokens against their spans and their print.
func checkText(t *testing.T, s string) {
	t.Helper()
	l, place, e := lex.Words(s)
	want, wantPlace, wantE := read(s)
	if !slices.Equal(l, want) || place != wantPlace || e != wantE {
		t.Fatalf("Words(%q) = %v, %d, %d, want %v, %d, %d", s, l, place, e, want, wantPlace, wantE)
	}
	if e != api.OK {
		return
	}
	printed := lex.Print(l...)
	again := tokensOf(t, printed)
	if len(again) != len(l) {
		t.Fatalf("%q, printed %q, has %d tokens, not %d", s, printed, len(again), len(l))
	}
	for i, x := range l {
		if x.Text != s[x.At.From:x.At.To] {
			t.Fatalf("%q: %v isn't where its span says", s, x)
		}
		if again[i].Kind != x.Kind || again[i].Text != x.Text {
			t.Fatalf("%q, printed %q: %v became %v", s, printed, x, again[i])
		}
	}
}

func TestAllShortTexts(t *testing.T) {
	pieces := []string{"a", "in", "0", "1", "_", "-", ">", "(", "*", " ", "\n", "#", "A", "\xff"}
	texts := []string{""}
	for range 4 {
		var longer []string
		for _, s := range texts {
			for _, p := range pieces {
				longer = append(longer, s+p)
			}
		}
		for _, s := range longer {
			checkText(t, s)
		}
		texts = longer
	}
}

func TestLongerTexts(t *testing.T) {
	pieces := []string{"abcdefghijklmnopqrst", "u", "123456789", "0", " ", "->", "#", "\n", "then", "_"}
	texts := []string{""}
	for range 4 {
		var longer []string
		for _, s := range texts {
			for _, p := range pieces {
				longer = append(longer, s+p)
			}
		}
		for _, s := range longer {
			checkText(t, s)
		}
		texts = longer
	}
}

func TestAnswersAreNewMemory(t *testing.T) {
	const s = "fun x -> x"
	l := tokensOf(t, s)
	clear(l)
	if again := tokensOf(t, s); again[0] != token(api.Word, "fun", 0) {
		t.Error("a changed answer is answered again", again)
	}
}
