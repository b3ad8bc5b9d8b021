"""Runs of programs, step by step."""

from usewarden.numbered import line_behind, numbered_steps
from usewarden.runs import Run


def do_simple(run, step):
    """Do a step that has no steps within it."""
    line = step.lines[0]
    parts = step.parts
    if step.kind == "open":
        run.new_handle(line, parts[0])
    elif step.kind == "do":
        run.deed(line, run.handle_of(parts[1]), parts[0])
    elif step.kind == "copy":
        run.hold(parts[0], run.handle_of(parts[1]))
    elif step.kind == "drop":
        run.hold(parts[0], None)
    else:
        run.tie(line, run.handle_of(parts[0]), run.handle_of(parts[1]))


def do_lend(run, step):
    """Do a lend and the steps within it."""
    # Kept here, for by the time of the deed `back` no name may hold it any more.
    lent = run.handle_of(step.parts[0])
    run.deed(step.lines[0], lent, "lend")
    run.hold(step.parts[1], lent)
    do_steps(run, step.blocks[0])
    run.deed(step.lines[1], lent, "back")
    run.hold(step.parts[1], None)


def do_if(run, step):
    """Take an input, and do those of the steps within that it asks for."""
    if run.takes_more(step.parts[0]):
        do_steps(run, step.blocks[0])
    else:
        do_steps(run, step.blocks[1])


def do_while(run, step):
    """Take inputs, and do the steps within for each, up to the first that isn't more."""
    while run.takes_more(step.parts[0]):
        do_steps(run, step.blocks[0])


def do_steps(run, steps):
    """Do the numbered steps."""
    for step in steps:
        if step.kind == "lend":
            do_lend(run, step)
        elif step.kind == "if":
            do_if(run, step)
        elif step.kind == "while":
            do_while(run, step)
        else:
            do_simple(run, step)


def run_plain(program, inputs):
    """Tell the log of the program's run with the inputs."""
    steps = numbered_steps(program, 0)
    run = Run(inputs, [])
    do_steps(run, steps)
    run.end_all(line_behind(steps, 0))
    return run.log
