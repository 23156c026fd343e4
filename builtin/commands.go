package builtin

import (
	"strings"

	"patois/api"
	"patois/pattern"
	"patois/text"
)

const (
	// sums is where sums begin anew, so that each is a number that text.Parse
	// takes again.
	sums = 1000000000
	// maxStatus is the greatest status.
	maxStatus = 255
)

// numbers answers the arguments as numbers; false, if they are not just two.
func numbers(args ...string) (int, int, bool) {
	if len(args) != 2 {
		return 0, 0, false
	}
	first, is := text.Parse(args[0])
	second, too := text.Parse(args[1])
	return first, second, is && too
}

// add answers what is said of two numbers, and the status.
func add(args ...string) (string, int) {
	first, second, is := numbers(args...)
	if !is {
		return "", api.Failed
	}
	return text.Number((first+second)%sums) + newline, api.Good
}

func less(args ...string) bool {
	first, second, is := numbers(args...)
	return is && first < second
}

func equal(args ...string) bool { return len(args) == 2 && args[0] == args[1] }

func like(args ...string) bool { return len(args) == 2 && pattern.Match(args[1], args[0]) }

// ending answers the status that a run is to end with: arguments behind the
// first are not looked at, and one that is no status is as none.
func ending(args ...string) int {
	if len(args) == 0 {
		return api.Good
	}
	if n, is := text.Parse(args[0]); is && n <= maxStatus {
		return n
	}
	return api.Good
}

// read takes the first line of what is heard. Where it fails, the line is left
// to be heard.
func read(in string, args ...string) Outcome {
	if len(args) != 1 || !text.Name(args[0]) || in == "" {
		return Outcome{Rest: in, Status: api.Failed}
	}
	line, rest, _ := strings.Cut(in, newline)
	return Outcome{Rest: rest, Name: args[0], Value: line}
}
