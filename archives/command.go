package archives

import "haven/words"

// Verb is what a command does.
type Verb int

const (
	Put Verb = iota + 1
	Add
	Copy
	Drop
	List
)

// Command changes the file Path. Put and Add have a Word, Copy has From.
type Command struct {
	Verb             Verb
	Path, Word, From string
}

func parseCommand(parts []string) (Command, bool) {
	if len(parts) < 2 {
		return Command{}, false
	}
	c, count := Command{Path: parts[1]}, 2
	switch parts[0] {
	case "put":
		c.Verb, count = Put, 3
	case "add":
		c.Verb, count = Add, 3
	case "copy":
		c.Verb, count = Copy, 3
	case "drop":
		c.Verb = Drop
	case "list":
		c.Verb = List
	default:
		return Command{}, false
	}
	if len(parts) != count || !c.takeThird(parts) || !words.IsVarPath(c.Path) {
		return Command{}, false
	}
	return c, true
}

// takeThird takes the word behind the path, if the command has one. In a copy that is the path to be changed.
func (c *Command) takeThird(parts []string) bool {
	switch c.Verb {
	case Put, Add:
		c.Word = parts[2]
		return words.IsWord(c.Word)
	case Copy:
		c.From, c.Path = parts[1], parts[2]
		return words.IsPath(c.From)
	}
	return true
}
